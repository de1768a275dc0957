import PyProof.Rows.All
import Wide.All
import OpenK.AllK
import Wide.FinOn
import PyProof.EqAt
import PyProof.EqKinds
import PyProof.TupleCall
import PyProof.ZipIter
import PyProof.EnumMake
import PyProof.EnumFor
import PyProof.Rows.EnumRows
import PyProof.CompMap
import PyProof.CompUse
import KE.KRevSl
import KE.KRevIter
import PyProof.ListRange
import PyProof.AutoRange
import PyProof.FactsAll.range_2
import PyProof.MaxThree
import KE.RegKTryMore
import PyProof.Rows.SumAny
import KE.KMinBuiltin
import PyProof.Rows.CallKwBuiltin
import PyProof.JoinWalk
import PyProof.StrBlockL
import PyProof.StrCalls2
import PyProof.CallStr
import PyProof.Rows.StrWeight2
import PyProof.FitsInt
import PyProof.FactsAll.range_1
import PyProof.SeqRoads2
import Lean
import PySem.Challenge.RW_roundglass_k40_whole_ever_told
noncomputable section
open PySem renaming wpAny_bind→QZ,wpAny_pure→Rn
open PySem.W renaming Frag→Ra
open Int renaming natAbs_natCast→Rb,natCast_inj→Rz,natAbs_mul→RL,natCast_mul→Sj,mul_ne_zero→Sw,toNat_natCast→SD,natAbs_neg→SM,natCast_nonneg→Ti,mul_ediv_cancel_left→TB,emod_lt_of_pos→TF,sign_eq_one_of_pos→TH,emod_nonneg→Ug,sign_eq_neg_one_of_neg→Uj,natAbs_ediv_le_natAbs→Uo,natAbs_pos→Va,neg_ediv_of_dvd→Vg,toNat→Vu,natAbs_add_le→Vv,gcd→Vw,one_mul→VQ
open List renaming getElem?_eq_some_iff→Rc,mem_of_getElem?→Rg,length_map→Rh,getElem?_map→Rj,getElem?_eq_getElem→Rr,size_toArray→Rw,mem_singleton→Ry,map_append→RB,mem_cons→RC,length_append→RD,take_length→RG,mem_cons_of_mem→RH,mem_append→RI,mem_append_right→RN,length_zipIdx→RO,mem_map→RP,length_reverse→RQ,not_mem_nil→RS,length_cons→RV,mem_cons_self→RX,getElem?_of_mem→Sa,filter_append→Se,getD_eq_getElem?_getD→Sf,map_map→Sg,map_cons→Sh,mem_zipIdx_iff_getElem?→Si,range→Sl,mem_range→Sq,length_take→Ss,getElem?_zipWith→Su,take_succ_eq_append_getElem→SA,append_nil→SE,filter_cons→SG,getElem?_append→SH,getElem?_replicate→SK,take_add_one→SO,length_nil→SQ,take_of_length_le→SR,mem_reverse→SU,map_nil→SV,getElem?_zipIdx→SW,mem_filter→SX,find?_range_eq_some→Tb,map→Td,length_drop→Te,replicate→Tf,find?_eq_none→Tn,length_filter_le→To,any_eq_false→Tp,getElem?_append_right→Tq,getElem?_append_left→Ts,mem_or_eq_of_mem_set→Tt,lookup_cons→Tu,map_reverse→Tw,reverse_cons→TJ,length_replicate→TL,take_append_drop→TM,find?_eq_some_iff_getElem→TN,ext_getElem→TR,eq_nil_of_length_eq_zero→TY,mem_append_left→TZ,mem_of_mem_take→Ua,filterMap_cons→Uc,nodup_cons→Ue,zip_eq_zipWith→Ui,map_inj_right→Ul,pairwise_iff_getElem→Up,getElem?_zip_eq_some→Uq,length_range→Us,pairwise_map→Ut,filter→Ux,map_take→Uz,pairwise_lt_range'→UA,filter_cons_of_pos→UB,filter_cons_of_neg→UC,map_zipWith→UG,getElem?_set_self→UH,drop_eq_nil_of_le→UK,of_mem_zip→UL,length_set→UM,forIn_cons→UP,getElem?_reverse→UQ,getElem?_toArray→UT,length_zip→UU,getElem?_set_ne→UY,getElem_reverse→UZ,length→Vc,filter_reverse→Vh,map_congr_left→Vi,length_zipWith→Vj,zipIdx_map_snd→Vl,mem_filterMap→Vm,zip_cons_cons→Vn,sum_cons→Vt,getElem?_set→VA,sum_nil→VH,zipIdx_cons→VN,getElem_mem→VO,any_eq_true→VP,zipIdx_nil→VS,filter_map→VV,sum_append→VX,forIn_nil→Wc,drop_zero→Wd,map_drop→Wh
open PySem.Heap renaming get?_push_of_some→Rf,get?_push_size→Rp,lt_size→Rt,get?_update_other→RT,get?_update_self→Sd,size_push→Sr,get?_none_of_le→UX,get?_push_ne→Vy
open PySem.Builtin.Range renaming rangeFitsLong→Ri
open Nat renaming lt_of_lt_of_le→Rk,le_trans→Ro,lt_of_le_of_lt→Rv,le_refl→Rx,pow_le_pow_right→RE,gcd→RW,ne_of_lt→RY,zero_le→Sb,lt_or_ge→Sk,two_pow_pos→Sx,mul_ne_zero→Sy,ne_of_gt→Sz,lt_irrefl→SJ,lt_trichotomy→SN,gcd_pos_of_pos_right→SY,mul_le_mul→Tg,eq_zero_or_pos→Th,pow_lt_pow_right→Tr,le_add_right→Tv,mul_le_mul_left→Tx,mul_pos→Tz,div_le_self→TC,le_of_lt→TK,gcd_le_right→TU,max_le→Ub,le_mul_self→Uh,pow_succ→Uk,mul_left_comm→Ur,log2_lt→Uu,pow_add→Uv,le_of_dvd→Uy,min_le_right→UD,le_max_right→UE,le_mul_of_pos_left→UI,le_of_eq→UN,le_max_left→UO,pos_iff_ne_zero→Vd,add_mul→Vk,one_lt_two_pow→Vp,mul_assoc→Vq,le_of_lt_succ→Vx,le_succ_of_le→VB,dvd_add_right→VC,succ_pos→VD,gcd_comm→VE,zero_add→VF,mul_comm→VG,le_of_not_lt→VJ,lt_log2_self→VL,mul_lt_mul''→VM,min_eq_left→VW,one_mul→VY
open Rat renaming intCast_mul→Rm,intCast_natCast→Rq,natCast_mul→RK,mul_eq_zero→RR,mul_nonneg→RU,divInt→RZ,mul_pos→Sm,divInt_eq_div→Sv,intCast_add→SF,intCast_sub→Ta,mul_le_mul_of_nonneg_right→Tc,num_divInt_den→Tj,mul_le_mul_of_nonneg_left→TV,le_total→Um,intCast_lt_intCast→UJ,intCast_neg→UR,le_of_lt→US,lt_iff→UW,lt_div_iff→Vb,neg_num→Ve,neg_den→Vf,sub_eq_add_neg→Vo,div_mul_cancel→Vr,num_eq_zero→VR,num_intCast→VT,den_intCast→VU,natCast_add→Wa,num_nonneg→We
open Option renaming map_eq_some_iff→Ru,getD_none→VI,map_some→VZ
open Classical renaming byContradiction→RA,propDecidable→RJ
open Bool renaming false_ne_true→RF,false_eq_true→So,and_eq_true→TQ,not_eq_true→TX,eq_iff_iff→Ud,true_and→Uw,and_true→Vs,not_eq_true'→Vz,false_and→Wb,or_false→Wf,not_true→Wg
set_option compiler.extract_closed false
set_option Elab.async false
set_option linter.all false
set_option maxRecDepth 100000
section
namespace L2
open PySem PySem.Spec PyProof.Rows
noncomputable abbrev Key:=Sum Int Str
noncomputable def GD:Key→Value→Bool
 | .inl k,v=>Value.isInt k v
 | .inr x,v=>Value.isStrOf x v
noncomputable def Nh(w:World):Key→Int
 | .inl k=>hashInt k
 | .inr x=>hashStr w x
theorem B4:∀{k:Key} {v:Value},GD k v=true→(∃ i t,k=Sum.inl i∧v=Value.int i t)∨(∃ x t,k=Sum.inr x∧v=Value.str x t)
 | .inl i,v,h=>by
  obtain⟨t,e⟩:=Value.isInt_shape (k:=i) (v:=v) h
  exact .inl ⟨i,t,rfl,e⟩
 | .inr x,v,h=>by
  obtain⟨t,e⟩:=Value.isStrOf_shape (x:=x) (v:=v) h
  exact .inr ⟨x,t,rfl,e⟩
theorem IX(a b:Int):decide ((Sum.inl a:Key)=Sum.inl b)=(a == b):=by
 by_cases e:a=b
 ·subst e;simp
 ·have h:¬ (Sum.inl a:Key)=Sum.inl b:=fun q=>e (Sum.inl.inj q)
  rw[decide_eq_false h]
  exact(beq_eq_false_iff_ne.mpr e).symm
theorem IU(a b:Str):decide ((Sum.inr a:Key)=Sum.inr b)=decide (a=b):=by
 by_cases e:a=b
 ·subst e;simp
 ·have h:¬ (Sum.inr a:Key)=Sum.inr b:=fun q=>e (Sum.inr.inj q)
  rw[decide_eq_false h,decide_eq_false e]
theorem IW(a:Int)(b:Str):decide ((Sum.inl a:Key)=Sum.inr b)=false:=decide_eq_false (fun q=>nomatch q)
theorem IV(a:Str)(b:Int):decide ((Sum.inr a:Key)=Sum.inl b)=false:=decide_eq_false (fun q=>nomatch q)
noncomputable def wa(prog:Program)(w:World):PySem.KeyKind prog w Key where
 is:=GD
 hash:=Nh w
 inj:=fun v a b ha hb=>by
  rcases B4 ha with⟨i,t,rfl,rfl⟩|⟨x,t,rfl,rfl⟩
  ·rcases B4 hb with⟨j,u,rfl,e⟩|⟨y,u,rfl,e⟩
   ·injection e with e1 _;rw[e1]
   ·exact nomatch e
  ·rcases B4 hb with⟨j,u,rfl,e⟩|⟨y,u,rfl,e⟩
   ·exact nomatch e
   ·injection e with e1 _;rw[e1]
 byValue:=fun k v h=>by
  rcases B4 h with⟨i,t,rfl,rfl⟩|⟨x,t,rfl,rfl⟩<;>rfl
 pyHash:=fun hv h=>by
  rcases B4 hv with⟨i,t,rfl,rfl⟩|⟨x,t,rfl,rfl⟩
  ·exact wpAny_pyHash_int h
  ·exact wpAny_pyHash_str h
 eqBool:=fun hu hv h=>by
  rcases B4 hu with⟨i,t,rfl,rfl⟩|⟨x,t,rfl,rfl⟩
  ·rcases B4 hv with⟨j,u,rfl,rfl⟩|⟨y,u,rfl,rfl⟩
   ·rw[IX]at h;exact wpAny_eqBool_int h
   ·rw[IW]at h;exact SeqAt.EqAt.int_str i t y u _ _ _ _ h
  ·rcases B4 hv with⟨j,u,rfl,rfl⟩|⟨y,u,rfl,rfl⟩
   ·rw[IV]at h;exact SeqAt.EqAt.str_int x t j u _ _ _ _ h
   ·rw[IU]at h;exact wpAny_eqBool_str h
 «strs»:=fun k x t v h=>by
  rcases B4 h with⟨i,u,rfl,e⟩|⟨y,u,rfl,e⟩
  ·exact nomatch e
  ·injection e with e1 _
   subst e1
   cases v<;>rfl
inductive V where
 | non|bl (b:Bool)|int (i:Int)|str (x:Str)|byt (b:Array UInt8)|flt (b:UInt64)|ref (a:Addr)|ty (n:String)
 deriving DecidableEq
noncomputable def u6:V→Value→Prop
 | .non,u=>u=Value.none
 | .bl b,u=>u=Value.bool b
 | .int i,u=>∃ t,u=Value.int i t
 | .str x,u=>∃ t,u=Value.str x t
 | .byt b,u=>∃ t,u=Value.bytes b t
 | .flt b,u=>∃ t,u=Value.float b t
 | .ref a,u=>u=Value.ref a
 | .ty n,u=>u=Value.type n
noncomputable abbrev p0:List V→List Value→Prop:=Paired u6
theorem p0.length{xs:List V}{us:List Value}(r:p0 xs us):xs.length=us.length:=Paired.length r
theorem p0.get:∀{xs:List V} {us:List Value} {i:Nat} {x:V},p0 xs us→xs[i]? = some x→∃ u,us[i]? = some u∧u6 x u
 | _,_,_,_,.nil,e=>by simp at e
 | _,_,0,_,.cons r _,e=>by simp at e;subst e;exact⟨_,rfl,r⟩
 | _,_,i+1,x,.cons _ t,e=>by
  obtain⟨u,h1,h2⟩:=p0.get (i:=i) (x:=x) t (by simpa using e)
  exact⟨u,by simpa using h1,h2⟩
theorem p0.set{x:V}{u:Value}(r:u6 x u):∀{xs:List V} {us:List Value} (i:Nat),p0 xs us→p0 (xs.set i x) (us.set i u)
 | _,_,_,.nil=>.nil
 | _,_,0,.cons _ t=>.cons r t
 | _,_,i+1,.cons q t=>.cons q (p0.set r i t)
theorem p0.append:∀{xs ys:List V} {us ws:List Value},p0 xs us→p0 ys ws→p0 (xs++ys) (us++ws)
 | _,_,_,_,.nil,s=>s
 | _,_,_,_,.cons r t,s=>.cons r (p0.append t s)
theorem p0.take:∀{xs:List V} {us:List Value} (n:Nat),p0 xs us→p0 (xs.take n) (us.take n)
 | _,_,0,_=>.nil
 | _,_,_+1,.nil=>.nil
 | _,_,n+1,.cons r t=>.cons r (p0.take n t)
theorem p0.drop:∀{xs:List V} {us:List Value} (n:Nat),p0 xs us→p0 (xs.drop n) (us.drop n)
 | _,_,0,r=>r
 | _,_,_+1,.nil=>.nil
 | _,_,n+1,.cons _ t=>p0.drop n t
noncomputable def JF:Option V→Option Value→Prop
 | some v,some u=>u6 v u
 | none,none=>True
 | _,_=>False
noncomputable def KV{κ:Type}:List (κ × V)→List (κ × Value)→Prop:=Paired fun(p:κ × V) (q:κ × Value)=>p.1=q.1∧u6 p.2 q.2
noncomputable def kV:Key→V
 | .inl i=>.int i
 | .inr x=>.str x
inductive HO where
 | lst (xs:List V)
 | tup (xs:List V)
 | dK (kvs:List (Key × V))|dT (kvs:List (List Key × V))
 | set (S:Int→Bool) (n:Nat)
 | ins (C dx:Addr) (fs:List (Str × V))
 | own (x:Addr)
 | xd (fs:List (Str × V))
 | met (f x:Addr)
 | rng (lo hi:Int)
 | frz (o:Obj) (u:HO)
 | tbl (ps:Array Value)
 | ext (φ:Heap→Prop)
noncomputable abbrev Hp:=Addr→Option HO
noncomputable def upd(H:Hp)(a:Addr)(o:HO):Hp:=fun b=>if b=a then some o else H b
theorem j7{H:Hp}{a:Addr}{o:HO}:upd H a o a=some o:=by unfold upd;rw[if_pos rfl]
theorem o7{H:Hp}{a b:Addr}{o:HO}(h:b≠a):upd H a o b=H b:=by unfold upd;rw[if_neg h]
theorem cY{H:Hp}{a:Addr}{o u:HO}:upd (upd H a o) a u=upd H a u:=by
 funext b;unfold upd;split<;>rfl
theorem K2{H:Hp}{a b:Addr}{o:HO}(h:H a=some o)(h':H b=none):a≠b:=by
 intro e;subst e;rw[h]at h';cases h'
section
variable (P:Program) (w:World)
noncomputable def E4(H:Hp)(h:Heap)(a:Addr):HO→Prop
 | .lst xs=>xs.length≤sizeLine∧∃(its:List Value) (n:Nat),p0 xs its∧h.get? a=some { cls:=.type "list",data:=.seq its.toArray n }
 | .tup xs=>xs.length≤sizeLine∧∃ its:List Value,p0 xs its∧IsTup h a its.toArray
 | .dK kvs=>kvs.length≤sizeLine∧(a == sysModules)=false∧∃ vs,KV kvs vs∧h.DictOf (wa P w) a vs
 | .dT kvs=>kvs.length≤sizeLine∧(a == sysModules)=false∧∃ xs:List (List Key × Addr × Value),
   Paired (fun(p:List Key × V) (q:List Key × Addr × Value)=>p.1=q.1∧H q.2.1=some (.tup (p.1.map kV))∧u6 p.2 q.2.2) kvs xs ∧
   ∃ o es ep,h.get? a=some o∧o.ExactDict∧o.data = .dict es ep∧es.toList=xs.map (entryOfKey (tupleKind (wa P w)))∧(xs.map (·.1)).Nodup
 | .set S n=>h.SetOf (intKind P w) a S n
 | .ins C dx fs=>H dx=some (.own a)∧fs.length≤1000∧dx≠a∧h.get? a=some (PySem.W.instObj C dx) ∧
   ∃ mA,h.Ns1 dx mA∧(∀ f,JF (fs.lookup f) (mA f))∧PySem.Within mA (fs.map (·.1))
 | .own _=>∃ o,h.get? a=some o
 | .xd fs=>∃ mA,h.Ns1 a mA∧∀ f,JF (fs.lookup f) (mA f)
 | .rng lo hi=>∃ t u v,h.get? a=some { cls:=.type "range",data:=.fields #[.int lo t,.int hi u,.int 1 v] }
 | .frz o u=>h.get? a=some o∧E4 H h a u
 | .tbl ps=>h.get? a=some { cls:=.none,data:=.fields ps }
 | .met f x=>h.get? a=some (PySem.W.methodObj (.ref f) (.ref x))
 | .ext φ=>φ h∧(∃ o,h.get? a=some o)∧∀ h1 h2:Heap,φ h1→(∀ o,h1.get? a=some o→h2.get? a=some o)→φ h2
def HOk(H:Hp)(h:Heap):Prop:=∀ a o,H a=some o→E4 P w H h a o
end
section
variable {P:Program} {w:World} {H H':Hp} {h h':Heap} {a:Addr} {o:HO}
theorem E4.lt(x:E4 P w H h a o):a<h.objs.size:=by
 cases o with
 | lst xs=>obtain⟨_,_,_,_,e⟩:=x;exact Rt e
 | tup xs=>obtain⟨_,_,_,p⟩:=x;exact p.lt
 | dK kvs=>obtain⟨_,_,_,_,o,_,_,e,_⟩:=x;exact Rt e
 | dT kvs=>obtain⟨_,_,_,_,o,_,_,e,_⟩:=x;exact Rt e
 | set S n=>obtain⟨o,_,_,_,e,_⟩:=x;exact Rt e
 | ins C dx fs=>obtain⟨_,_,_,e,_⟩:=x;exact Rt e
 | own y=>obtain⟨_,e⟩:=x;exact Rt e
 | xd fs=>obtain⟨_,⟨_,_,_,e,_⟩,_⟩:=x;exact Rt e
 | rng lo hi=>obtain⟨_,_,_,e⟩:=x;exact Rt e
 | frz ob u=>obtain⟨e,_⟩:=x;exact Rt e
 | tbl ps=>exact Rt (show h.get? a=some _ from x)
 | met f y=>exact Rt (show h.get? a=some _ from x)
 | ext φ=>obtain⟨_,⟨_,e⟩,_⟩:=x;exact Rt e
theorem Paired.mapP{α β:Type}{F G:α→β→Prop}:∀{l₁:List α} {l₂:List β},Paired F l₁ l₂→(∀ a b,F a b→G a b)→Paired G l₁ l₂
 | _,_,.nil,_=>.nil
 | _,_,.cons r t,f=>.cons (f _ _ r) (Paired.mapP t f)
theorem E4.stay(x:E4 P w H h a o)(k:∀ b u,(b=a∨H b=some (.own a))→h.get? b=some u→h'.get? b=some u)
  (ho:∀ b,H b=some (.own a)→H' b=some (.own a)) (ht:∀ b xs,H b=some (.tup xs)→H' b=some (.tup xs)):E4 P w H' h' a o:=by
 induction o with
 | lst xs=>obtain⟨z,its,n,r,e⟩:=x;exact⟨z,its,n,r,k _ _ (.inl rfl) e⟩
 | tup xs=>obtain⟨z,its,r,ob,e,c⟩:=x;exact⟨z,its,r,ob,k _ _ (.inl rfl) e,c⟩
 | dK kvs=>obtain⟨z,y,vs,r,ob,es,ep,e,c⟩:=x;exact⟨z,y,vs,r,ob,es,ep,k _ _ (.inl rfl) e,c⟩
 | dT kvs =>
  obtain⟨z,y,xs,r,ob,es,ep,e,c⟩:=x
  exact⟨z,y,xs,Paired.mapP r fun p q z=>⟨z.1,ht _ _ z.2.1,z.2.2⟩,ob,es,ep,k _ _ (.inl rfl) e,c⟩
 | set S n=>obtain⟨ob,es,ep,t,e,c⟩:=x;exact⟨ob,es,ep,t,k _ _ (.inl rfl) e,c⟩
 | ins C dx fs =>
  obtain⟨d,z,ne,e,mA,⟨od,es,ep,e2,c⟩,r⟩:=x
  exact⟨ho _ d,z,ne,k _ _ (.inl rfl) e,mA,⟨od,es,ep,k _ _ (.inr d) e2,c⟩,r⟩
 | own y=>obtain⟨ob,e⟩:=x;exact⟨ob,k _ _ (.inl rfl) e⟩
 | xd fs=>obtain⟨mA,⟨od,es,ep,e,c⟩,r⟩:=x;exact⟨mA,⟨od,es,ep,k _ _ (.inl rfl) e,c⟩,r⟩
 | rng lo hi=>obtain⟨t,u,v,e⟩:=x;exact⟨t,u,v,k _ _ (.inl rfl) e⟩
 | frz ob u ih=>obtain⟨e,q⟩:=x;exact⟨k _ _ (.inl rfl) e,ih q⟩
 | tbl ps =>
  have e:h.get? a=some { cls:=.none,data:=.fields ps }:=x
  show h'.get? a=some { cls:=.none,data:=.fields ps }
  exact k a _ (.inl rfl) e
 | met f y =>
  have e:h.get? a=some (PySem.W.methodObj (.ref f) (.ref y)):=x
  show h'.get? a=some (PySem.W.methodObj (.ref f) (.ref y))
  exact k a _ (.inl rfl) e
 | ext φ=>obtain⟨p,⟨o,e⟩,st⟩:=x;exact⟨st _ _ p fun o q=>k _ _ (.inl rfl) q,⟨o,k _ _ (.inl rfl) e⟩,st⟩
theorem HOk.lt(x:HOk P w H h)(e:H a=some o):a<h.objs.size:=(x a o e).lt
theorem HOk.fresh(x:HOk P w H h)(e:h.objs.size≤a):H a=none:=by
 cases q:H a with
 | none=>rfl
 | some u=>exact absurd (Rk (x.lt q) e) (SJ _)
theorem HOk.kept(x:HOk P w H h)(k:∀ b u,h.get? b=some u→h'.get? b=some u):HOk P w H h':=fun a o e =>
 (x a o e).stay (fun b u _ q=>k b u q) (fun _ q=>q) fun _ _ q=>q
theorem HOk.laid(x:HOk P w H h)(k:∀ b u,h.get? b=some u→h'.get? b=some u)(hp:h.objs.size≤a)(new:E4 P w (upd H a o) h' a o):HOk P w (upd H a o) h':=fun b u e=>by
 have hn:=x.fresh hp
 by_cases hb:b=a
 ·subst hb;rw[j7]at e;cases e;exact new
 ·rw[o7 hb]at e
  exact(x b u e).stay (fun c v _ q=>k c v q) (fun c q=>by rw[o7 (K2 q hn)];exact q) fun c xs q=>by rw[o7 (K2 q hn)];exact q
end
def Rd(H:Hp)(a:Addr)(u:HO):Prop:=H a=some u ∨ ∃ o,H a=some (.frz o u)
theorem Rd.of{H:Hp}{a:Addr}{u:HO}(h:H a=some u):Rd H a u:=.inl h
theorem Rd.ok{P:Program}{w:World}{H:Hp}{h:Heap}{a:Addr}{u:HO}(r:Rd H a u)(x:HOk P w H h):E4 P w H h a u:=by
 rcases r with r|⟨o,r⟩
 ·exact x a u r
 ·obtain⟨_,q⟩:=x a _ r
  exact q
noncomputable def Mut:Option HO→Prop
 | some (.lst _)=>True
 | some (.dK _)=>True
 | some (.dT _)=>True
 | some (.set _ _)=>True
 | some (.ins _ _ _)=>True
 | some (.ext _)=>True
 | _=>False
section
variable {P:Program} {w:World} {H:Hp} {h h':Heap} {x e:Addr} {o':HO}
theorem HOk.write(ok:HOk P w H h)(mu:Mut (H x))(he:e=x∨H e=some (.own x))(k:∀ b u,b≠e→h.get? b=some u→h'.get? b=some u)(heo:∃ u,h'.get? e=some u)
  (new:E4 P w (upd H x o') h' x o'):HOk P w (upd H x o') h':=fun b u q=>by
 have nown:∀ c y,H c=some (.own y)→c≠x:=fun c y r z=>by subst z;rw[r]at mu;exact mu
 have ntup:∀ c xs,H c=some (.tup xs)→c≠x:=fun c xs r z=>by subst z;rw[r]at mu;exact mu
 by_cases hb:b=x
 ·subst hb;rw[j7]at q;cases q;exact new
 ·rw[o7 hb]at q
  by_cases hbe:b=e
  ·have q':H b=some (.own x):=by
    rcases he with z|z
    ·exact absurd (hbe.trans z) hb
    ·rw[hbe];exact z
   rw[q]at q';cases q'
   obtain⟨v,hv⟩:=heo
   exact⟨v,by rw[hbe];exact hv⟩
  ·refine(ok b u q).stay (fun c v hc r=>k c v ?_ r) (fun c r=>by rw[o7 (nown c b r)];exact r) fun c xs r=>by rw[o7 (ntup c xs r)];exact r
   rcases hc with rfl|hc
   ·exact hbe
   ·rintro rfl
    rcases he with z|z
    ·exact nown c b hc z
    ·rw[hc]at z;cases z;exact hb rfl
end
structure Un(fs ex:List Addr)(H H':Hp)(h h':Heap):Prop where
 keep:∀ b o,h.get? b=some o→H b=none→b∉fs→b∉ex→h'.get? b=some o
 slot:∀ b o,h.get? b=some o→H b=none→b∈fs→b∉ex→∃ sl,h'.get? b=some { o with slots:=sl }
 free:∀ b o,h.get? b=some o→H b=none→b∉ex→H' b=none
 there:∀ b o,h.get? b=some o→b∉ex→∃ o',h'.get? b=some o'
 tups:∀ b xs,H b=some (.tup xs)→H' b=some (.tup xs)
 frzs:∀ b o u,H b=some (.frz o u)→H' b=some (.frz o u)
 tbls:∀ b ps,H b=some (.tbl ps)→∃ more,H' b=some (.tbl (ps++more))
section
variable {fs fs' ex ex':List Addr} {H H1 H2:Hp} {h h1 h2 h':Heap} {a x e:Addr} {o:HO}
theorem Un.any(u:Un fs ex H H1 h h1){b:Addr}{ob:Obj}(q:h.get? b=some ob)(n:H b=none)(hx:b∉ex):∃ sl,h1.get? b=some { ob with slots:=sl }:=by
 by_cases hb:b∈fs
 ·exact u.slot b ob q n hb hx
 ·exact⟨ob.slots,u.keep b ob q n hb hx⟩
theorem Un.trans(a:Un fs ex H H1 h h1)(b:Un fs ex H1 H2 h1 h2):Un fs ex H H2 h h2 where
 keep:=fun c ob q n hc hx=>b.keep c ob (a.keep c ob q n hc hx) (a.free c ob q n hx) hc hx
 slot:=fun c ob q n hc hx=>by
  obtain⟨sl,e1⟩:=a.slot c ob q n hc hx
  obtain⟨sl',e2⟩:=b.slot c _ e1 (a.free c ob q n hx) hc hx
  exact⟨sl',e2⟩
 free:=fun c ob q n hx=>by
  obtain⟨o',e1⟩:=a.there c ob q hx
  exact b.free c o' e1 (a.free c ob q n hx) hx
 there:=fun c ob q hx=>by
  obtain⟨o',e1⟩:=a.there c ob q hx
  exact b.there c o' e1 hx
 tups:=fun c xs q=>b.tups c xs (a.tups c xs q)
 frzs:=fun c ob xs q=>b.frzs c ob xs (a.frzs c ob xs q)
 tbls:=fun c ps q=>by
  obtain⟨m1,e1⟩:=a.tbls c ps q
  obtain⟨m2,e2⟩:=b.tbls c _ e1
  exact⟨m1++m2,by rw[e2,Array.append_assoc]⟩
theorem Un.kept(k:∀ b u,h.get? b=some u→h'.get? b=some u):Un fs ex H H h h' :=
 ⟨fun b ob q _ _ _=>k b ob q,fun b ob q _ _ _=>⟨ob.slots,k b ob q⟩,fun _ _ _ n _=>n,fun b ob q _=>⟨ob,k b ob q⟩,fun _ _ q=>q,fun _ _ _ q=>q,fun _ ps q=>⟨#[],by rw[q];simp⟩⟩
theorem Un.refl:Un fs ex H H h h:=Un.kept fun _ _ q=>q
theorem Un.laid(k:∀ b u,h.get? b=some u→h'.get? b=some u)(hp:h.objs.size≤a)(hn:H a=none):Un fs ex H (upd H a o) h h' where
 keep:=fun b u q _ _ _=>k b u q
 slot:=fun b u q _ _ _=>⟨u.slots,k b u q⟩
 free:=fun b u q n _=>by rw[o7 (RY (Rk (Rt q) hp))];exact n
 there:=fun b u q _=>⟨u,k b u q⟩
 tups:=fun b xs q=>by rw[o7 (K2 q hn)];exact q
 frzs:=fun b u xs q=>by rw[o7 (K2 q hn)];exact q
 tbls:=fun b ps q=>⟨#[],by rw[o7 (K2 q hn),q];simp⟩
theorem Un.write(mu:Mut (H x))(he:e=x∨H e=some (.own x))(k:∀ b u,b≠e→h.get? b=some u→h'.get? b=some u)(heo:∃ u,h'.get? e=some u):Un fs ex H (upd H x o) h h':=by
 have hx:∀ b,H b=none→b≠x:=fun b n z=>by subst z;rw[n]at mu;exact mu
 have hb:∀ b,H b=none→b≠e:=fun b n z=>by
  subst z
  rcases he with r|r
  ·exact hx b n r
  ·rw[n]at r;cases r
 have hm:∀ b u,H b=some u→¬ Mut (some u)→b≠x:=fun b u q nm z=>by subst z;rw[q]at mu;exact nm mu
 refine⟨fun b u q n _ _=>k b u (hb b n) q,fun b u q n _ _=>⟨u.slots,k b u (hb b n) q⟩,fun b u q n _=>by rw[o7 (hx b n)];exact n,fun b u q _=>?_,
  fun b xs q=>by rw[o7 (hm b _ q fun z=>z)];exact q,fun b u xs q=>by rw[o7 (hm b _ q fun z=>z)];exact q,fun b ps q=>⟨#[],by rw[o7 (hm b _ q fun z=>z),q];simp⟩⟩
 by_cases hbe:b=e
 ·subst hbe;exact heo
 ·exact⟨u,k b u hbe q⟩
theorem Un.mono(u:Un fs ex H H1 h h1)(hs:∀ b∈fs,b∈fs')(hx:∀ b∈ex,b∈ex'):Un fs' ex' H H1 h h1 :=
 ⟨fun b ob q n hb he=>u.keep b ob q n (fun z=>hb (hs b z)) fun z=>he (hx b z),fun _ _ q n _ he=>u.any q n fun z=>he (hx _ z),fun b ob q n he=>u.free b ob q n fun z=>he (hx b z),fun b ob q he=>u.there b ob q fun z=>he (hx b z),u.tups,u.frzs,u.tbls⟩
end
noncomputable def trk(h:Heap)(H:Hp):List Addr:=(Sl h.objs.size).filter fun a=>(H a).isSome
noncomputable def oW(h:Heap)(H:Hp):Heap:=PySem.W.hideAll h (trk h H)
theorem xV(h:Heap)(H:Hp):(oW h H).objs.size=h.objs.size:=PySem.W.hideAll_size _ _
theorem Bv{h:Heap}{H:Hp}{b:Addr}{o:Obj}(e:h.get? b=some o)(n:H b=none):(oW h H).get? b=some o :=
 PySem.W.hideAll_get _ e fun hm=>by
  have q:(H b).isSome=true:=(SX.mp hm).2
  rw[n]at q;simp at q
theorem EI{h:Heap}{H:Hp}{b:Addr}{o:Obj}(e:(oW h H).get? b=some o):h.get? b=some o∧H b=none:=by
 have e':h.get? b=some o:=PySem.W.of_hideAll (trk h H) e
 refine⟨e',?_⟩
 cases q:H b with
 | none=>rfl
 | some x =>
  have hm:b∈trk h H:=SX.mpr ⟨Sq.mpr (Rt e'),by simp[q]⟩
  have z:(oW h H).get? b=none:=PySem.W.hideAll_none (trk h H) hm
  rw[z]at e;cases e
noncomputable def Ft(g h:Heap)(L:Addr):List (Addr × Obj):=(Sl h.objs.size).filterMap fun a=>if a=L∨(g.get? a).isSome=true then none else(h.get? a).map fun o=>(a,o)
noncomputable def E8(g h:Heap)(L d:Addr):List (Addr × Obj):=(Ft g h L).filter fun p=>decide (p.1≠d)
structure Mod(K:Ra)(mg:Str→Option Value)(base:Heap):Prop where
 kin:K.In base
 glob:base.Ns mainGlobals mg
 blt:∃ mb,base.Ns builtinsNs mb∧∀ x:Str,x ≠ "__name__" → mb x=bootBuiltins x
 nolimit:base.NoLimit
structure Cx where
 prog:Program
 w:World
 K:Ra
 mg:Str→Option Value
 base:Heap
 A:Around
 N:List Str
 s₀:Shared
 H₀:Hp
 env:Env
 outer:List Env
 stack:List Env
 ex:List Addr
 fn:Str→Bool
 calm:Bool
 pn:List (Addr × Obj)
 xe:Value→Shared→Prop
noncomputable def frs(l:List Env):List Addr:=l.filterMap (·.frame)
noncomputable abbrev Cx.fs(X:Cx):List Addr:=frs X.outer
def Vis(sc:Scope)(x:Str):Prop:=sc.names.lookup x=some .local∨sc.names.lookup x=some .cell∨sc.names.lookup x=some .free
def Loc(sc:Scope)(x:Str):Prop:=sc.names.lookup x=some .local∨sc.names.lookup x=some .cell
def Nw(env:Env)(h:Heap)(m:Str→Option Value)(x:Str)(u:Value):Prop :=
 (env.kindOf x=some .local∧m x=some u)∨((env.kindOf x=some .cell∨env.kindOf x=some .free)∧∃ c,env.cells.lookup x=some c∧h.IsCell c (some u))
structure Cx.Ok(X:Cx):Prop where
 mod:Mod X.K X.mg X.base
 kind:X.env.scope.kind = .function
 glob:X.env.globals=mainGlobals
 blt:X.env.builtins=builtinsNs
 above:X.s₀.heap.objs.size≤X.env.locals
 inj:∀ x y c,X.env.cells.lookup x=some c→X.env.cells.lookup y=some c→x=y
 has:∀ x,(X.env.kindOf x=some .cell∨X.env.kindOf x=some .free)→∃ c,X.env.cells.lookup x=some c
 cab:∀ x c,X.fn x=true→X.env.cells.lookup x=some c→X.s₀.heap.objs.size≤c
 hd:X.calm=true→X.A.handled=none
 frames:X.A.frames=some X.stack
 stk:X.stack=X.outer∨(X.stack=X.env :: X.outer∧X.env.frame=some X.env.locals)
 exf:∀ b∈X.ex,b≠X.env.locals∧∀ x c,X.env.cells.lookup x=some c→c≠b
 bs:∀ b o,X.base.get? b=some o→X.s₀.heap.get? b=some o∧X.H₀ b=none
 bsz:X.base.objs.size≤X.s₀.heap.objs.size
 noex:∀ b o,X.base.get? b=some o→b∉X.ex
 exfs:∀ b∈X.ex,b∉X.fs
 funs:X.s₀.heap.FunFrames X.base X.outer
 frf:∀ b∈X.fs,X.H₀ b=none
structure Inv(X:Cx)(pins:List (Addr × Obj))(σ:List (Option V))(H:Hp)(s:Shared):Prop where
 ok:X.Ok
 os:s.os=X.s₀.os
 bare:AllBare s.gens
 base:Un X.fs X.ex X.H₀ H X.s₀.heap s.heap
 loc:∃ m,s.heap.Ns X.env.locals m∧∀(i:Nat) (x:Str) (v:V),X.N[i]? = some x→σ[i]? = some (some v)→Vis X.env.scope x→∃ u,u6 v u∧Nw X.env s.heap m x u
 cell:∀ x c,X.env.cells.lookup x=some c→∃ v,s.heap.IsCell c v
 free:H X.env.locals=none
 freeC:∀ x c,X.env.cells.lookup x=some c→H c=none
 pin:∀ p∈X.pn++pins,s.heap.get? p.1=some p.2∧H p.1=none∧p.1≠X.env.locals∧p.1∉X.fs∧∀ v,p.2.data ≠ .cell v
 hok:HOk X.prog X.w H s.heap
 len:σ.length=X.N.length
section
variable {X:Cx} {pins:List (Addr × Obj)} {σ:List (Option V)} {H H':Hp} {s:Shared} {h':Heap}
theorem Cx.Ok.nofr(ok:X.Ok){b:Addr}{o:Obj}(e:X.base.get? b=some o):b∉X.fs:=fun hb=>by
 have:=(ok.funs.mem hb).1
 rw[e]at this;cases this
theorem Inv.bs(I:Inv X pins σ H s):∀ b o,X.base.get? b=some o→s.heap.get? b=some o∧H b=none:=fun b o e =>
 ⟨I.base.keep b o (I.ok.bs b o e).1 (I.ok.bs b o e).2 (I.ok.nofr e) (I.ok.noex b o e),I.base.free b o (I.ok.bs b o e).1 (I.ok.bs b o e).2 (I.ok.noex b o e)⟩
theorem Inv.bk(I:Inv X pins σ H s):∀ b o,X.base.get? b=some o→s.heap.get? b=some o:=fun b o e=>(I.bs b o e).1
theorem Inv.mod(I:Inv X pins σ H s):Mod X.K X.mg X.base:=I.ok.mod
theorem Inv.kIn(I:Inv X pins σ H s):X.K.In s.heap:=I.ok.mod.kin.keeps I.bk
theorem Inv.nolimit(I:Inv X pins σ H s):s.heap.NoLimit:=I.ok.mod.nolimit.keeps I.bk
theorem Inv.fr(I:Inv X pins σ H s):∃ m,Fr X.base X.env.locals s.heap m :=
 let ⟨m,hn,_⟩:=I.loc
 ⟨m,hn,I.bk,Ro I.ok.bsz I.ok.above⟩
theorem Inv.lt(I:Inv X pins σ H s):X.env.locals<s.heap.objs.size:=let ⟨_,hn,_⟩:=I.loc;hn.lt
theorem Inv.sz(I:Inv X pins σ H s):X.s₀.heap.objs.size≤s.heap.objs.size:=Ro I.ok.above (TK I.lt)
theorem Inv.nofs(I:Inv X pins σ H s){a:Addr}(h:s.heap.objs.size≤a):a∉X.fs:=fun hb=>by
 obtain⟨_,o,ho,_⟩:=I.ok.funs.mem hb
 exact absurd (Rk (Rt ho) (Ro I.sz h)) (SJ _)
theorem Inv.cne(I:Inv X pins σ H s):∀ x c,X.env.cells.lookup x=some c→c≠X.env.locals:=fun x c e z=>by
 obtain⟨v,o,ho,hd⟩:=I.cell x c e
 obtain⟨m,⟨o',es,ep,ho',hd',_⟩,_⟩:=I.loc
 rw[z,ho']at ho;cases ho;rw[hd']at hd;cases hd
theorem Inv.funs(I:Inv X pins σ H s):s.heap.FunFrames X.base X.outer:=by
 have all:∀(l:List Env),(∀ b∈frs l,b∈X.fs)→X.s₀.heap.FunFrames X.base l→s.heap.FunFrames X.base l:=by
  intro l
  induction l with
  | nil=>intro _ _;trivial
  | cons env r ih =>
   intro hs hl
   obtain⟨hk,⟨L,o,hf,hn,ho,hd⟩,hr⟩:=hl
   have hL:L∈X.fs:=hs L (by unfold frs;rw[Uc,hf];exact RX)
   obtain⟨sl,e⟩:=I.base.slot L o ho (I.ok.frf L hL) hL fun z=>I.ok.exfs L z hL
   exact⟨hk,⟨L,_,hf,hn,e,hd⟩,ih (fun b hb=>hs b (by unfold frs;rw[Uc,hf];exact RH _ hb)) hr⟩
 exact all X.outer (fun _ hb=>hb) I.ok.funs
theorem Inv.stack(I:Inv X pins σ H s):s.heap.FunFrames X.base X.stack:=by
 rcases I.ok.stk with e|⟨e,hf⟩
 ·rw[e];exact I.funs
 ·rw[e]
  obtain⟨m,hn,_⟩:=I.loc
  refine .cons (by rw[I.ok.kind];decide) hf hn ?_ I.funs
  exact UX (Ro I.ok.bsz I.ok.above)
theorem Inv.stkSub(I:Inv X pins σ H s):∀ b∈frs X.stack,b∈X.env.locals :: X.fs:=fun b hb=>by
 rcases I.ok.stk with e|⟨e,hf⟩
 ·rw[e]at hb;exact RH _ hb
 ·rw[e]at hb
  unfold frs at hb
  rw[Uc,hf]at hb
  exact hb
theorem Inv.stkFree(I:Inv X pins σ H s):∀ b∈frs X.stack,H b=none:=fun b hb=>by
 rcases RC.mp (I.stkSub b hb)with e|hb
 ·rw[e];exact I.free
 ·obtain⟨_,o,ho,_⟩:=I.ok.funs.mem hb
  exact I.base.free b o ho (I.ok.frf b hb) fun z=>I.ok.exfs b z hb
theorem Inv.step{g':Array GenState}{t':Nat}{d':Drawn}{ch:List Addr}(I:Inv X pins σ H s)
  (hch:∀ b∈ch,(b∈X.ex∨X.s₀.heap.objs.size≤b)∧b≠X.env.locals∧(∀ x c,X.env.cells.lookup x=some c→c≠b)∧∀ p∈X.pn++pins,p.1≠b)
  (keep:∀ b o,b≠X.env.locals→b∉X.fs→b∉ch→s.heap.get? b=some o→H b=none→h'.get? b=some o)
  (slot:∀ b o,b≠X.env.locals→b∈X.fs→b∉ch→s.heap.get? b=some o→H b=none→∃ sl,h'.get? b=some { o with slots:=sl }) (free:∀ b o,b∉ch→s.heap.get? b=some o→H b=none→H' b=none)
  (there:∀ b o,b∉ch→s.heap.get? b=some o→∃ o',h'.get? b=some o')
  (tups:∀ b xs,H b=some (.tup xs)→H' b=some (.tup xs)) (frzs:∀ b o u,H b=some (.frz o u)→H' b=some (.frz o u)) (tbls:∀ b ps,H b=some (.tbl ps)→∃ more,H' b=some (.tbl (ps++more)))
  (ns:∀ m,s.heap.Ns X.env.locals m→h'.Ns X.env.locals m) (hok:HOk X.prog X.w H' h') (hg:AllBare g') :
  Inv X pins σ H' { s with heap:=h',gens:=g',drawn:=d',toks:=t' }:=by
 have neL:∀ b o,X.s₀.heap.get? b=some o→b≠X.env.locals:=fun b o e=>RY (Rk (Rt e) I.ok.above)
 have neC:∀ b o,X.s₀.heap.get? b=some o→b∉X.ex→b∉ch:=fun b o e hx hb=>by
  rcases(hch b hb).1 with z|z
  ·exact hx z
  ·exact absurd (Rk (Rt e) z) (SJ _)
 have cellK:∀ x c,X.env.cells.lookup x=some c→∀ v,s.heap.IsCell c v→h'.IsCell c v:=fun x c e v zz=>by
  obtain⟨o,ho,hd⟩:=zz
  have nch:c∉ch:=fun z=>(hch c z).2.2.1 x c e rfl
  by_cases hc:c∈X.fs
  ·obtain⟨sl,q⟩:=slot c o (I.cne x c e) hc nch ho (I.freeC x c e)
   exact⟨_,q,hd⟩
  ·exact⟨o,keep c o (I.cne x c e) hc nch ho (I.freeC x c e),hd⟩
 refine⟨I.ok,I.os,hg,⟨fun b o e n hb hx=>?_,fun b o e n hb hx=>?_,fun b o e n hx=>?_,fun b o e hx=>?_,fun b xs e=>tups b xs (I.base.tups b xs e),fun b o xs e=>frzs b o xs (I.base.frzs b o xs e),fun b ps e=>?_⟩,?_,fun x c e=>?_,?_,fun x c e=>?_,fun p hp=>?_,hok,I.len⟩
 ·exact keep b o (neL b o e) hb (neC b o e hx) (I.base.keep b o e n hb hx) (I.base.free b o e n hx)
 ·obtain⟨sl,e1⟩:=I.base.slot b o e n hb hx
  obtain⟨sl',e2⟩:=slot b _ (neL b o e) hb (neC b o e hx) e1 (I.base.free b o e n hx)
  exact⟨sl',e2⟩
 ·obtain⟨o',e1⟩:=I.base.there b o e hx
  exact free b o' (neC b o e hx) e1 (I.base.free b o e n hx)
 ·obtain⟨o',e1⟩:=I.base.there b o e hx
  exact there b o' (neC b o e hx) e1
 ·obtain⟨m1,e1⟩:=I.base.tbls b ps e
  obtain⟨m2,e2⟩:=tbls b _ e1
  exact⟨m1++m2,by rw[e2,Array.append_assoc]⟩
 ·obtain⟨m,hn,hl⟩:=I.loc
  refine⟨m,ns m hn,fun i x v e1 e2 e3=>?_⟩
  obtain⟨u,r,l⟩:=hl i x v e1 e2 e3
  refine⟨u,r,?_⟩
  rcases l with l|⟨k,c,e,z⟩
  ·exact .inl l
  ·exact .inr ⟨k,c,e,cellK x c e _ z⟩
 ·obtain⟨v,z⟩:=I.cell x c e
  exact⟨v,cellK x c e v z⟩
 ·obtain⟨m,⟨o,_,_,ho,_⟩,_⟩:=I.loc
  exact free _ o (fun z=>(hch _ z).2.1 rfl) ho I.free
 ·obtain⟨v,o,ho,hd⟩:=I.cell x c e
  exact free c o (fun z=>(hch c z).2.2.1 x c e rfl) ho (I.freeC x c e)
 ·obtain⟨e,n,ne,nf,d⟩:=I.pin p hp
  have nch:p.1∉ch:=fun z=>(hch p.1 z).2.2.2 p hp rfl
  exact⟨keep p.1 p.2 ne nf nch e n,free p.1 p.2 nch e n,ne,nf,d⟩
theorem Inv.un{t':Nat}(I:Inv X pins σ H s)(u:Un X.fs [] H H' s.heap h')(hok:HOk X.prog X.w H' h'):Inv X pins σ H' { s with heap:=h',toks:=t' }:=by
 obtain⟨m,⟨o,es,ep,ho,r⟩,_⟩:=id I.loc
 obtain⟨sl,hL⟩:=u.any ho I.free (by simp)
 exact I.step (g':=s.gens) (d':=s.drawn) (ch:=[]) (fun _ z=>nomatch z) (fun b o _ hb _ e n=>u.keep b o e n hb (by simp)) (fun b o _ hb _ e n=>u.slot b o e n hb (by simp)) (fun b o _ e n=>u.free b o e n (by simp)) (fun b o _ e=>u.there b o e (by simp)) u.tups u.frzs u.tbls (fun m' hm=>by
  obtain⟨o',es',ep',ho',r'⟩:=hm
  rw[ho]at ho';cases ho'
  exact⟨_,es',ep',hL,r'⟩) hok I.bare
theorem Inv.call{g':Array GenState}{t':Nat}{d':Drawn}{ch:List Addr}(I:Inv X pins σ H s)(u:Un (frs X.stack) ch H H' s.heap h')(hok:HOk X.prog X.w H' h')(hg:AllBare g')
  (hch:∀ b∈ch,(b∈X.ex∨X.s₀.heap.objs.size≤b)∧b≠X.env.locals∧(∀ x c,X.env.cells.lookup x=some c→c≠b)∧∀ p∈X.pn++pins,p.1≠b) :
  Inv X pins σ H' { s with heap:=h',gens:=g',drawn:=d',toks:=t' }:=by
 obtain⟨m,⟨o,es,ep,ho,r⟩,_⟩:=id I.loc
 obtain⟨sl,hL⟩:=u.any ho I.free fun z=>(hch _ z).2.1 rfl
 exact I.step (ch:=ch) hch (fun b o hL hb hc e n=>u.keep b o e n (fun z=>(RC.mp (I.stkSub b z)).elim hL hb) hc) (fun b o _ _ hc e n=>u.any e n hc) (fun b o hc e n=>u.free b o e n hc) (fun b o hc e=>u.there b o e hc) u.tups u.frzs u.tbls (fun m' hm=>by
  obtain⟨o',es',ep',ho',r'⟩:=hm
  rw[ho]at ho';cases ho'
  exact⟨_,es',ep',hL,r'⟩) hok hg
theorem Inv.turned{t':Nat}{it:Addr}(I:Inv X pins σ H s)(k:∀ b o,b≠it→s.heap.get? b=some o→h'.get? b=some o)(hn:H it=none)(hL:it≠X.env.locals)
  (h1:it∈X.ex∨X.s₀.heap.objs.size≤it) (h2:∀ x c,X.env.cells.lookup x=some c→c≠it) (h3:∀ p∈X.pn++pins,p.1≠it):Inv X pins σ H { s with heap:=h',toks:=t' }:=by
 have nit:∀ b u,H b=some u→b≠it:=fun b u e z=>by rw[z,hn]at e;cases e
 refine I.step (g':=s.gens) (d':=s.drawn) (ch:=[it]) (fun b hb=>?_) (fun b o _ _ hc e _=>k b o (fun z=>hc (by simp[z])) e) (fun b o _ _ hc e _=>⟨o.slots,k b o (fun z=>hc (by simp[z])) e⟩) (fun _ _ _ _ n=>n)
  (fun b o hc e=>⟨o,k b o (fun z=>hc (by simp[z])) e⟩) (fun _ _ e=>e) (fun _ _ _ e=>e) (fun b ps e=>⟨#[],by rw[e];simp⟩) (fun m hm=>?_) (fun b u e=>?_) I.bare
 ·have e:b=it:=by simpa using hb
  subst e
  exact⟨h1,hL,h2,h3⟩
 ·obtain⟨o,es,ep,ho,r⟩:=hm
  exact⟨o,es,ep,k _ o (Ne.symm hL) ho,r⟩
 ·refine(I.hok b u e).stay (fun c v hc q=>k c v ?_ q) (fun _ q=>q) fun _ _ q=>q
  rcases hc with z|z
  ·rw[z];exact nit b u e
  ·exact nit c _ z
theorem Inv.tok(I:Inv X pins σ H s)(t:Nat):Inv X pins σ H { s with toks:=t }:=I.un (h':=s.heap) (t':=t) Un.refl I.hok
theorem Inv.kept{t':Nat}(I:Inv X pins σ H s)(k:∀ b u,s.heap.get? b=some u→h'.get? b=some u):Inv X pins σ H { s with heap:=h',toks:=t' }:=I.un (Un.kept k) (I.hok.kept k)
theorem Inv.laid{a:Addr}{o:HO}{t':Nat}(I:Inv X pins σ H s)(k:∀ b u,s.heap.get? b=some u→h'.get? b=some u)(hp:s.heap.objs.size≤a)(new:E4 X.prog X.w (upd H a o) h' a o) :
  Inv X pins σ (upd H a o) { s with heap:=h',toks:=t' }:=I.un (Un.laid k hp (I.hok.fresh hp)) (I.hok.laid k hp new)
theorem Inv.write{x e:Addr}{o:HO}{t':Nat}(I:Inv X pins σ H s)(mu:Mut (H x))(he:e=x∨H e=some (.own x))(k:∀ b u,b≠e→s.heap.get? b=some u→h'.get? b=some u)(heo:∃ u,h'.get? e=some u)
  (new:E4 X.prog X.w (upd H x o) h' x o):Inv X pins σ (upd H x o) { s with heap:=h',toks:=t' }:=I.un (Un.write mu he k heo) (I.hok.write mu he k heo new)
theorem Inv.pins_of{pins':List (Addr × Obj)}(I:Inv X pins σ H s)(h:∀ p∈pins',s.heap.get? p.1=some p.2∧H p.1=none∧p.1≠X.env.locals∧p.1∉X.fs∧∀ v,p.2.data ≠ .cell v):Inv X pins' σ H s :=
 ⟨I.ok,I.os,I.bare,I.base,I.loc,I.cell,I.free,I.freeC,fun p hp=>(RI.mp hp).elim (fun z=>I.pin p (TZ _ z)) (h p),I.hok,I.len⟩
theorem rF{N:List Str}(hN:N.Nodup){i j:Nat}{x:Str}(a:N[i]? = some x)(b:N[j]? = some x):i=j:=by
 obtain⟨h1,e1⟩:=Rc.mp a
 obtain⟨h2,e2⟩:=Rc.mp b
 exact(List.getElem_inj hN).mp (e1.trans e2.symm)
theorem mn{M:Model}{A:Around}{E:Value→Shared→Prop}{i:Nat}{x:Str}{v:V}{u:Value}{Q:Unit→Shared→Prop}(I:Inv X pins σ H s)(hN:X.N.Nodup)(hi:X.N[i]? = some x)(hx:Loc X.env.scope x)(r:u6 v u)
  (h:∀ s',Inv X pins (σ.set i (some v)) H s'→(∃ a,Heap.SameBut a s.heap s'.heap∧(a=X.env.locals∨X.env.cells.lookup x=some a))→Q () s') (hf:X.fn x=true∨X.env.scope.names.lookup x=some .local:=by first|exact .inl rfl|exact .inr rfl|assumption):wpAny M A (storeName X.env x u) Q E s:=by
 obtain⟨m,hn,hl⟩:=id I.loc
 have hcls:(X.env.scope.kind == .class || (X.env.scope.kind == .module && X.env.locals != X.env.globals))=false:=by rw[I.ok.kind];rfl
 have hiσ:i<σ.length:=by rw[I.len];exact(Rc.mp hi).1
 have cne:=I.cne
 have tracked:∀{a:Addr} {h':Heap},(∃ o,s.heap.get? a=some o∧H a=none)→Heap.SameBut a s.heap h'→HOk X.prog X.w H h':=fun{a h'} ha hs b ob e=>by
  obtain⟨_,_,hfree⟩:=ha
  refine(I.hok b ob e).stay (fun c w' hc q=>(hs.2 c ?_).trans q) (fun _ q=>q) fun _ _ q=>q
  rintro rfl
  rcases hc with rfl|hc
  ·rw[hfree]at e;cases e
  ·rw[hfree]at hc;cases hc
 rcases hx with hk|hk
 ·refine wpAny_storeName_local hk hn (fun h' hn' hs=>?_) hcls
  obtain⟨oL,_,_,hoL,_⟩:=id hn
  refine h _ ⟨I.ok,I.os,I.bare,⟨fun b o e n hb hx=>?_,fun b o e n hb hx=>?_,I.base.free,fun b o e hx=>?_,I.base.tups,I.base.frzs,I.base.tbls⟩,⟨_,hn',fun j y v' e1 e2 e3=>?_⟩,fun y c e=>?_,I.free,I.freeC,fun p hp=>?_,tracked ⟨oL,hoL,I.free⟩ hs,by simpa using I.len⟩ ⟨_,hs,.inl rfl⟩
  ·exact(hs.2 b (RY (Rk (Rt e) I.ok.above))).trans (I.base.keep b o e n hb hx)
  ·obtain⟨sl,e1⟩:=I.base.slot b o e n hb hx
   exact⟨sl,(hs.2 b (RY (Rk (Rt e) I.ok.above))).trans e1⟩
  ·obtain⟨o',e1⟩:=I.base.there b o e hx
   exact⟨o',(hs.2 b (RY (Rk (Rt e) I.ok.above))).trans e1⟩
  ·by_cases hj:j=i
   ·subst hj
    rw[hi]at e1;cases e1
    rw[UH hiσ]at e2
    cases e2
    exact⟨u,r,.inl ⟨hk,by simp⟩⟩
   ·rw[UY (Ne.symm hj)]at e2
    obtain⟨u',r',q⟩:=hl j y v' e1 e2 e3
    refine⟨u',r',?_⟩
    rcases q with⟨k,e⟩|⟨k,c,e,z⟩
    ·refine .inl ⟨k,?_⟩
     have:y≠x:=fun e=>hj (rF hN e1 (e▸hi))
     simp[this,e]
    ·exact .inr ⟨k,c,e,z.sameBut hs (cne y c e)⟩
  ·obtain⟨w',z⟩:=I.cell y c e
   exact⟨w',z.sameBut hs (cne y c e)⟩
  ·obtain⟨e,n,ne,nf,d⟩:=I.pin p hp
   exact⟨(hs.2 p.1 ne).trans e,n,ne,nf,d⟩
 ·have hfn:X.fn x=true:=by
   rcases hf with z|z
   ·exact z
   ·rw[z]at hk;cases hk
  obtain⟨c,hc⟩:=I.ok.has x (.inl hk)
  obtain⟨w',z⟩:=I.cell x c hc
  refine wpAny_storeName_cell I.ok.kind hk hc z (fun h' hc' hs=>?_)
  obtain⟨oc,hoc,hocd⟩:=id z
  refine h { s with heap:=h' } ⟨I.ok,I.os,I.bare,⟨fun b o e n hb hx=>?_,fun b o e n hb hx=>?_,I.base.free,fun b o e hx=>?_,I.base.tups,I.base.frzs,I.base.tbls⟩,⟨m,hn.sameBut hs (Ne.symm (cne x c hc)),fun j y v' e1 e2 e3=>?_⟩,fun y c' e=>?_,I.free,I.freeC,fun p hp=>?_,tracked ⟨oc,hoc,I.freeC x c hc⟩ hs,by simpa using I.len⟩ ⟨c,hs,.inr hc⟩
  ·exact(hs.2 b (RY (Rk (Rt e) (I.ok.cab x c hfn hc)))).trans (I.base.keep b o e n hb hx)
  ·obtain⟨sl,e1⟩:=I.base.slot b o e n hb hx
   exact⟨sl,(hs.2 b (RY (Rk (Rt e) (I.ok.cab x c hfn hc)))).trans e1⟩
  ·obtain⟨o',e1⟩:=I.base.there b o e hx
   exact⟨o',(hs.2 b (RY (Rk (Rt e) (I.ok.cab x c hfn hc)))).trans e1⟩
  ·by_cases hj:j=i
   ·subst hj
    rw[hi]at e1;cases e1
    rw[UH hiσ]at e2
    cases e2
    exact⟨u,r,.inr ⟨.inl hk,c,hc,hc'⟩⟩
   ·rw[UY (Ne.symm hj)]at e2
    obtain⟨u',r',q⟩:=hl j y v' e1 e2 e3
    refine⟨u',r',?_⟩
    rcases q with q|⟨k,c',e,z'⟩
    ·exact .inl q
    ·refine .inr ⟨k,c',e,z'.sameBut hs ?_⟩
     rintro rfl
     exact hj (rF hN e1 (I.ok.inj _ _ _ e hc▸hi))
  ·by_cases hcc:c'=c
   ·subst hcc;exact⟨_,hc'⟩
   ·obtain⟨w2,z2⟩:=I.cell y c' e
    exact⟨w2,z2.sameBut hs hcc⟩
  ·obtain⟨e,n,ne,nf,d⟩:=I.pin p hp
   refine⟨(hs.2 p.1 ?_).trans e,n,ne,nf,d⟩
   intro q
   rw[q,hoc]at e
   have q':oc=p.2:=Option.some.inj e
   exact d w' (by rw[← q'];exact hocd)
theorem dc{M:Model}{A:Around}{E:Value→Shared→Prop}{i:Nat}{x:Str}{v:V}{u:Value}{Q:Unit→Shared→Prop}(I:Inv X pins σ H s)(hN:X.N.Nodup)(hi:X.N[i]? = some x)(hx:Loc X.env.scope x)(r:u6 v u)
  (h:∀ s',Inv X pins (σ.set i (some v)) H s'→Q () s') (hf:X.fn x=true∨X.env.scope.names.lookup x=some .local:=by first|exact .inl rfl|exact .inr rfl|assumption):wpAny M A (storeName X.env x u) Q E s :=
 mn I hN hi hx r (fun s' I' _=>h s' I') hf
theorem Inv.call'{s':Shared}{ch:List Addr}(I:Inv X pins σ H s)(ho:s'.os=s.os)(u:Un (frs X.stack) ch H H' s.heap s'.heap)(hok:HOk X.prog X.w H' s'.heap)(hg:AllBare s'.gens)
  (hch:∀ b∈ch,(b∈X.ex∨X.s₀.heap.objs.size≤b)∧b≠X.env.locals∧(∀ x c,X.env.cells.lookup x=some c→c≠b)∧∀ p∈X.pn++pins,p.1≠b):Inv X pins σ H' s':=by
 obtain⟨h',g',d',t',o'⟩:=s'
 have e:o'=s.os:=ho
 subst e
 exact I.call (g':=g') (t':=t') (d':=d') u hok hg hch
end
noncomputable abbrev XK:=Value→Option Addr→Hp→Prop
noncomputable abbrev St:=List (Option V)
noncomputable abbrev VK:=V→Hp→Prop
noncomputable abbrev TE:=St→Hp→VK→Prop
noncomputable abbrev TT:=St→Hp→(Bool→Hp→Prop)→Prop
noncomputable abbrev TA:=St→Hp→(List V→Hp→Prop)→Prop
structure sF where
 nx:St→Hp→Prop
 rt:VK
 bk:St→Hp→Prop:=fun _ _=>False
 ct:St→Hp→Prop:=fun _ _=>False
noncomputable abbrev TS:=sF→St→Hp→Prop
def EP(X:Cx)(pins:List (Addr × Obj))(σ:St)(Q:VK)(u:Value)(s':Shared):Prop:=∃ v H',Inv X pins σ H' s'∧u6 v u∧Q v H'
def TP(X:Cx)(pins:List (Addr × Obj))(σ:St)(Q:Bool→Hp→Prop)(b:Bool)(s':Shared):Prop:=∃ H',Inv X pins σ H' s'∧Q b H'
def AP(X:Cx)(pins:List (Addr × Obj))(σ:St)(Q:List V→Hp→Prop)(us:List Value)(s':Shared):Prop:=∃ vs H',Inv X pins σ H' s'∧p0 vs us∧Q vs H'
def SP(X:Cx)(pins:List (Addr × Obj))(D:sF)(f:Flow)(s':Shared):Prop :=
 match f with
 | .next=>∃ σ' H',Inv X pins σ' H' s'∧D.nx σ' H'
 | .brk=>∃ σ' H',Inv X pins σ' H' s'∧D.bk σ' H'
 | .cont=>∃ σ' H',Inv X pins σ' H' s'∧D.ct σ' H'
 | .ret u=>∃ v σ' H',Inv X pins σ' H' s'∧u6 v u∧D.rt v H'
def PE(X:Cx)(e:Expr)(t:TE):Prop :=
 ∀(pins:List (Addr × Obj)) (s:Shared) (σ:St) (H:Hp) (Q:VK),Inv X pins σ H s→t σ H Q→wpAny (model X.prog X.w) X.A (eval e X.env) (EP X pins σ Q) X.xe s
def PT(X:Cx)(e:Expr)(t:TT):Prop :=
 ∀(pins:List (Addr × Obj)) (s:Shared) (σ:St) (H:Hp) (Q:Bool→Hp→Prop),Inv X pins σ H s→t σ H Q→wpAny (model X.prog X.w) X.A (isTrue e X.env (eval e X.env)) (TP X pins σ Q) X.xe s
def PW(X:Cx)(e:Expr)(t:TT):Prop :=
 ∀(whole:Sem Value) (pins:List (Addr × Obj)) (s:Shared) (σ:St) (H:Hp) (Q:Bool→Hp→Prop),Inv X pins σ H s→t σ H Q→wpAny (model X.prog X.w) X.A (isTrue e X.env whole) (TP X pins σ Q) X.xe s
theorem PW.pt{X:Cx}{e:Expr}{t:TT}(h:PW X e t):PT X e t:=h _
def PA(X:Cx)(es:List Expr)(t:TA):Prop :=
 ∀(pos:Pos) (pins:List (Addr × Obj)) (s:Shared) (σ:St) (H:Hp) (Q:List V→Hp→Prop),Inv X pins σ H s→t σ H Q→wpAny (model X.prog X.w) X.A (spliced (backTo pos (starEach es X.env))) (AP X pins σ Q) X.xe s
def PS(X:Cx)(st:Stmt)(t:TS):Prop :=
 ∀(pins:List (Addr × Obj)) (s:Shared) (σ:St) (H:Hp) (D:sF),Inv X pins σ H s→t D σ H→wpAny (model X.prog X.w) X.A (exec st X.env) (SP X pins D) X.xe s
def PSs(X:Cx)(st:List Stmt)(t:TS):Prop :=
 ∀(pins:List (Addr × Obj)) (s:Shared) (σ:St) (H:Hp) (D:sF),Inv X pins σ H s→t D σ H→wpAny (model X.prog X.w) X.A (execs st X.env) (SP X pins D) X.xe s
theorem thn{α:Type}{t:Sem α}{Q Q':α→Shared→Prop}{M:Model}{A:Around}{E:Value→Shared→Prop}{s:Shared}(h:wpAny M A t Q E s)(hQ:∀ a s,Q a s→Q' a s):wpAny M A t Q' E s:=wpAny_mono h hQ fun _ _ x=>x
section
variable {X:Cx}
def KQ(i:Nat):TE:=fun σ H Q=>∃ v,σ[i]? = some (some v)∧Q v H
def tC(v:V):TE:=fun _ H Q=>Q v H
theorem AF{i:Nat}{x:Str}{pos:Pos}(hN:X.N[i]? = some x)(hv:Vis X.env.scope x)(hd:(x == ("__debug__" : Str))=false:=by decide)(hcd:(x == ("__classdict__" : Str))=false:=by decide):PE X (.Name x pos) (KQ i):=by
 intro pins s σ H Q I h
 obtain⟨v,e,h⟩:=h
 obtain⟨m,hn,hl⟩:=I.loc
 obtain⟨u,r,l⟩:=hl i x v hN e hv
 have fin:EP X pins σ Q u s:=⟨v,H,I,r,h⟩
 rcases l with⟨hk,hm⟩|⟨hk,c,hc,hcell⟩
 ·exact wpAny_Name (wpAny_loadName_local I.ok.kind hk hn hm fin) hd
 ·rcases hk with hk|hk
  ·exact wpAny_Name (wpAny_loadName_cell I.ok.kind hk hc hcell fin) hd
  ·exact wpAny_Name (wpAny_loadName_free I.ok.kind hk hc hcell fin hcd) hd
theorem Iz{i j pos}:PE X (.Constant (.int i) j pos) (tC (.int i)):=fun _ _ _ H _ I h=>wpAny_Constant_int ⟨.int i,H,I.tok _,⟨_,rfl⟩,h⟩
theorem Ls{b j pos}:PE X (.Constant (.bool b) j pos) (tC (.bl b)):=fun _ _ _ H _ I h=>Constant_bool ⟨.bl b,H,I,rfl,h⟩
theorem Iy{j pos}:PE X (.Constant .none j pos) (tC .non):=fun _ _ _ H _ I h=>Constant_none ⟨.non,H,I,rfl,h⟩
theorem Iu{x j pos}:PE X (.Constant (.str x) j pos) (tC (.str x)):=fun _ _ _ H _ I h=>Calls.Constant_str ⟨.str x,H,I.tok _,⟨_,rfl⟩,h⟩
def Gl(X:Cx)(x:Str):Prop:=X.env.kindOf x=some .globalImplicit
theorem wc{E:Value→Shared→Prop}{pins:List (Addr × Obj)}{s:Shared}{σ:St}{H:Hp}{x:Str}{u:Value}{pos:Pos}{Q:Value→Shared→Prop}(I:Inv X pins σ H s)(hg:Gl X x)(hm:X.mg x=some u)(h:Q u s)
  (hd:(x == ("__debug__" : Str))=false:=by decide):wpAny (model X.prog X.w) X.A (eval (.Name x pos) X.env) Q E s :=
 Calls.Name_function_global I.ok.kind hg (Calls.loadGlobal_global (by rw[I.ok.glob];exact I.mod.glob.keeps I.bk) hm h) hd
theorem K4{E:Value→Shared→Prop}{pins:List (Addr × Obj)}{s:Shared}{σ:St}{H:Hp}{x:Str}{u:Value}{pos:Pos}{Q:Value→Shared→Prop}(I:Inv X pins σ H s)(hg:Gl X x)(hm:X.mg x=none)(hv:bootBuiltins x=some u)(h:Q u s)
  (hn:x ≠ "__name__" := by decide) (hd:(x == ("__debug__" : Str))=false:=by decide):wpAny (model X.prog X.w) X.A (eval (.Name x pos) X.env) Q E s:=by
 obtain⟨mb,h1,h2⟩:=I.mod.blt
 exact Calls.Name_function_global I.ok.kind hg (Calls.loadGlobal_builtin (by rw[I.ok.glob];exact I.mod.glob.keeps I.bk) hm (by rw[I.ok.blt];exact h1.keeps I.bk) ((h2 x hn).trans hv) h) hd
theorem Eo{x:Str}{v:V}{u:Value}{pos:Pos}(hg:Gl X x)(hm:X.mg x=some u)(r:u6 v u)(hd:(x == ("__debug__" : Str))=false:=by decide):PE X (.Name x pos) (tC v) :=
 fun _ _ _ H _ I h=>wc I hg hm ⟨v,H,I,r,h⟩ hd
theorem Eu{x:Str}{v:V}{u:Value}{pos:Pos}(hg:Gl X x)(hm:X.mg x=none)(hv:bootBuiltins x=some u)(r:u6 v u)(hn:x ≠ "__name__" := by decide)(hd:(x == ("__debug__" : Str))=false:=by decide):PE X (.Name x pos) (tC v) :=
 fun _ _ _ H _ I h=>K4 I hg hm hv ⟨v,H,I,r,h⟩ hn hd
variable {a b:Expr} {ta tb:TE} {pos:Pos}
def PC(X:Cx)(op:CmpOp)(a b:Expr)(t:TE):Prop :=
 ∀(pins:List (Addr × Obj)) (s:Shared) (σ:St) (H:Hp) (Q:VK),Inv X pins σ H s→t σ H Q →
  wpAny (model X.prog X.w) X.A (eval a X.env) (fun v s₁=>wpAny (model X.prog X.w) X.A (eval b X.env) (fun u s₂=>wpAny (model X.prog X.w) X.A (compareOp op v u) (EP X pins σ Q) X.xe s₂) X.xe s₁) X.xe s
theorem AZ(b:Expr){op:CmpOp}(h:op ≠ .In)(h2:op ≠ .NotIn):behindInMarks op b=false:=by
 have e1:(op == CmpOp.In)=false:=by cases op<;>first|rfl|exact absurd rfl h
 have e2:(op == CmpOp.NotIn)=false:=by cases op<;>first|rfl|exact absurd rfl h2
 cases b<;>simp[behindInMarks,e1,e2]
theorem u6.none_iff{x:V}{v:Value}(r:u6 x v):(v == Value.none)=decide (x = .non):=by
 cases x with
 | non=>cases r;rfl
 | bl _=>cases r;rfl
 | int _=>obtain⟨t,rfl⟩:=r;rfl
 | str _=>obtain⟨t,rfl⟩:=r;rfl
 | byt _=>obtain⟨t,rfl⟩:=r;rfl
 | flt _=>obtain⟨t,rfl⟩:=r;rfl
 | ref _=>cases r;rfl
 | ty _=>cases r;rfl
def tB(t:TE):TT:=fun σ H Q=>t σ H fun x H1=>∃ c,x = .bl c∧Q c H1
theorem Ie{op:CmpOp}{t:TE}(h:PC X op a b t)(h1:behindInMarks op b=false:=by first|exact AZ _ (by decide) (by decide)|rfl):PT X (.Compare a [op] [b] pos) (tB t):=by
 intro pins s σ H Q I hw
 refine wpAny_isTrue_Compare1 (thn (h pins s σ H _ I hw) fun v s1 h1=>thn h1 fun u s2 h2=>thn h2 fun c s3 ⟨x,H1,I1,r1,q1⟩=>?_) h1
 obtain⟨d,rfl,q⟩:=q1
 cases r1
 exact wpAny_truthy_bool ⟨H1,I1,q⟩
theorem Ib{e:Expr}{t:TE}(h:PE X e t)(he:∀ whole,isTrue e X.env whole=(do let v ← whole;standAt e.pos;holding [v] (truthy v)):=by intro _;rfl):PT X e (tB t):=by
 intro pins s σ H Q I hw
 refine isTrue_plain (thn (h pins s σ H _ I hw) fun v s1 ⟨x,H1,I1,r1,q1⟩=>?_) (he _)
 obtain⟨d,rfl,q⟩:=q1
 cases r1
 exact wpAny_truthy_bool ⟨H1,I1,q⟩
variable {tA tB':TT} {E8:List Expr}
def MV(t u:TT):TT:=fun σ H Q=>t σ H fun c H1=>if c=true then u σ H1 Q else Q false H1
def tOr(t u:TT):TT:=fun σ H Q=>t σ H fun c H1=>if c=true then Q true H1 else u σ H1 Q
def MP(t:TT):TT:=fun σ H Q=>t σ H fun c H1=>Q (!c) H1
theorem Ea(ha:PT X a tA):PW X (.BoolOp .And [a] pos) tA:=by
 intro wh pins s σ H Q I h
 refine isTrue_and (thn (ha pins s σ H Q I h) fun c s1 e=>?_)
 cases c with
 | true=>exact isTrue_and_nil e
 | false=>exact e
theorem HY(ha:PT X a tA):PW X (.BoolOp .Or [a] pos) tA:=by
 intro wh pins s σ H Q I h
 refine isTrue_or (thn (ha pins s σ H Q I h) fun c s1 e=>?_)
 cases c with
 | false=>exact isTrue_or_nil e
 | true=>exact e
theorem HZ(ha:PT X a tA)(hb:PW X (.BoolOp .And (b :: E8) pos) tB'):PW X (.BoolOp .And (a :: b :: E8) pos) (MV tA tB'):=by
 intro wh pins s σ H Q I h
 refine isTrue_and (thn (ha pins s σ H _ I h) fun c s1 zz=>?_)
 obtain⟨H1,I1,q1⟩:=zz
 cases c with
 | true=>exact hb wh pins s1 σ H1 Q I1 q1
 | false=>exact⟨H1,I1,q1⟩
theorem Ln(ha:PT X a tA)(hb:PW X (.BoolOp .Or (b :: E8) pos) tB'):PW X (.BoolOp .Or (a :: b :: E8) pos) (tOr tA tB'):=by
 intro wh pins s σ H Q I h
 refine isTrue_or (thn (ha pins s σ H _ I h) fun c s1 zz=>?_)
 obtain⟨H1,I1,q1⟩:=zz
 cases c with
 | true=>exact⟨H1,I1,q1⟩
 | false=>exact hb wh pins s1 σ H1 Q I1 q1
theorem Ic(ha:PT X a tA):PT X (.UnaryOp .Not a pos) (MP tA):=by
 intro pins s σ H Q I h
 exact isTrue_not (ha pins s σ H (fun c H1=>Q (!c) H1) I h)
def Le(ta tb:TE):TE:=fun σ H Q=>ta σ H fun x H1=>∃ c,x = .bl c∧if c=true then tb σ H1 Q else Q (.bl false) H1
def MN(ta tb:TE):TE:=fun σ H Q=>ta σ H fun x H1=>∃ c,x = .bl c∧if c=true then Q (.bl true) H1 else tb σ H1 Q
def KU(ta:TE):TE:=fun σ H Q=>ta σ H fun x H1=>∃ c,x = .bl c∧Q (.bl (!c)) H1
theorem Iv{op}{t:TE}(h:PE X a t):PE X (.BoolOp op [a] pos) t:=fun pins s σ H Q I hw=>BoolOp_one (h pins s σ H Q I hw)
theorem IB(ha:PE X a ta)(hb:PE X (.BoolOp .And (b :: E8) pos) tb):PE X (.BoolOp .And (a :: b :: E8) pos) (Le ta tb):=by
 intro pins s σ H Q I h
 refine BoolOp_and (thn (ha pins s σ H _ I h) fun v s1 zz=>?_)
 obtain⟨x,H1,I1,r1,q1⟩:=zz
 obtain⟨c,rfl,q1⟩:=q1
 cases r1
 refine wpAny_truthy_bool ?_
 cases c with
 | true=>exact hb pins s1 σ H1 Q I1 q1
 | false=>exact⟨.bl false,H1,I1,rfl,q1⟩
theorem Lq(ha:PE X a ta)(hb:PE X (.BoolOp .Or (b :: E8) pos) tb):PE X (.BoolOp .Or (a :: b :: E8) pos) (MN ta tb):=by
 intro pins s σ H Q I h
 refine BoolOp_or (thn (ha pins s σ H _ I h) fun v s1 zz=>?_)
 obtain⟨x,H1,I1,r1,q1⟩:=zz
 obtain⟨c,rfl,q1⟩:=q1
 cases r1
 refine wpAny_truthy_bool ?_
 cases c with
 | false=>exact hb pins s1 σ H1 Q I1 q1
 | true=>exact⟨.bl true,H1,I1,rfl,q1⟩
theorem Iw(ha:PE X a ta):PE X (.UnaryOp .Not a pos) (KU ta):=by
 intro pins s σ H Q I h
 refine UnaryOp_ (thn (ha pins s σ H _ I h) fun v s1 zz=>?_)
 obtain⟨x,H1,I1,r1,q1⟩:=zz
 obtain⟨c,rfl,q1⟩:=q1
 cases r1
 exact not_of (wpAny_truthy_bool ⟨.bl (!c),H1,I1,rfl,q1⟩)
def tIf(t:TT)(ta tb:TE):TE:=fun σ H Q=>t σ H fun c H1=>if c=true then ta σ H1 Q else tb σ H1 Q
theorem AI{c:Expr}(hc:PT X c tA)(ha:PE X a ta)(hb:PE X b tb):PE X (.IfExp c a b pos) (tIf tA ta tb):=by
 intro pins s σ H Q I h
 refine wpAny_IfExp (thn (hc pins s σ H _ I h) fun d s1 zz=>?_)
 obtain⟨H1,I1,q1⟩:=zz
 cases d with
 | true=>exact ha pins s1 σ H1 Q I1 q1
 | false=>exact hb pins s1 σ H1 Q I1 q1
end
def SqL(K:Ra)(H:Hp)(a:Addr)(xs:List V):Prop :=
 Rd H a (.lst xs) ∨
  ∃(o:Obj) (its:Array Value) (n:Nat),K.lookup a=some o∧o.cls = .type "list" ∧ o.dict=none∧o.data = .seq its n∧its.size≤sizeLine∧p0 xs its.toList
def SqT(K:Ra)(H:Hp)(a:Addr)(xs:List V):Prop :=
 Rd H a (.tup xs) ∨
  ∃(o:Obj) (its:Array Value) (n:Nat),K.lookup a=some o∧o.cls = .type "tuple" ∧ o.data = .seq its n∧its.size≤sizeLine∧p0 xs its.toList
noncomputable def Nv:Value→Option V
 | .none=>some .non
 | .bool b=>some (.bl b)
 | .int i _=>some (.int i)
 | .str x _=>some (.str x)
 | .bytes b _=>some (.byt b)
 | .float b _=>some (.flt b)
 | .ref a=>some (.ref a)
 | .type n=>some (.ty n)
 | _=>none
theorem u6.abs{x:V}{u:Value}(r:u6 x u):Nv u=some x:=by
 cases x with
 | non=>cases r;rfl
 | bl _=>cases r;rfl
 | int _=>obtain⟨t,rfl⟩:=r;rfl
 | str _=>obtain⟨t,rfl⟩:=r;rfl
 | byt _=>obtain⟨t,rfl⟩:=r;rfl
 | flt _=>obtain⟨t,rfl⟩:=r;rfl
 | ref _=>cases r;rfl
 | ty _=>cases r;rfl
theorem u6.inj{x y:V}{u:Value}(r:u6 x u)(q:u6 y u):x=y:=Option.some.inj (r.abs.symm.trans q.abs)
theorem p0.inj:∀{xs ys:List V} {us:List Value},p0 xs us→p0 ys us→xs=ys
 | _,_,_,.nil,.nil=>rfl
 | _,_,_,.cons r t,.cons r' t'=>by rw[r.inj r',p0.inj t t']
section
variable {X:Cx} {pins:List (Addr × Obj)} {σ:St} {H:Hp} {s:Shared} {a:Addr} {xs ys:List V}
theorem SqL.of{K:Ra}(h:H a=some (.lst xs)):SqL K H a xs:=.inl (.inl h)
theorem SqT.of{K:Ra}(h:H a=some (.tup xs)):SqT K H a xs:=.inl (.inl h)
theorem Inv.list(I:Inv X pins σ H s)(h:SqL X.K H a xs):∃ its:List Value,p0 xs its∧PlainL s.heap a its.toArray∧xs.length≤sizeLine:=by
 rcases h with h|⟨o,its,n,hk,hc,hd,hs,hz,r⟩
 ·obtain⟨z,its,n,r,e⟩:=h.ok I.hok
  exact⟨its,r,⟨_,n,e,rfl,rfl,rfl⟩,z⟩
 ·refine⟨its.toList,r,⟨o,n,I.kIn a o hk,hc,hd,by simpa using hs⟩,?_⟩
  have e:=r.length
  simp only[Array.length_toList]at e
  omega
theorem Inv.tuple(I:Inv X pins σ H s)(h:SqT X.K H a xs):∃ its:List Value,p0 xs its∧IsTup s.heap a its.toArray∧xs.length≤sizeLine:=by
 rcases h with h|⟨o,its,n,hk,hc,hs,hz,r⟩
 ·obtain⟨z,its,r,p⟩:=h.ok I.hok
  exact⟨its,r,p,z⟩
 ·refine⟨its.toList,r,⟨o,I.kIn a o hk,hc,n,by simpa using hs⟩,?_⟩
  have e:=r.length
  simp only[Array.length_toList]at e
  omega
theorem Inv.list_inj(I:Inv X pins σ H s)(h:SqL X.K H a xs)(h':SqL X.K H a ys):xs=ys:=by
 obtain⟨its,r,⟨o,n,e,_,_,d⟩,_⟩:=I.list h
 obtain⟨its',r',⟨o',n',e',_,_,d'⟩,_⟩:=I.list h'
 rw[e]at e';cases e'
 rw[d]at d'
 injection d' with d1 _
 have:its=its':=by simpa using congrArg Array.toList d1
 subst this
 exact r.inj r'
theorem Inv.tuple_inj(I:Inv X pins σ H s)(h:SqT X.K H a xs)(h':SqT X.K H a ys):xs=ys:=by
 obtain⟨its,r,⟨o,e,_,n,d⟩,_⟩:=I.tuple h
 obtain⟨its',r',⟨o',e',_,n',d'⟩,_⟩:=I.tuple h'
 rw[e]at e';cases e'
 rw[d]at d'
 injection d' with d1 _
 have:its=its':=by simpa using congrArg Array.toList d1
 subst this
 exact r.inj r'
end
noncomputable abbrev Cx.wish(X:Cx)(E:Value→Shared→Prop):Cx:={ X with xe:=E }
noncomputable abbrev Cx.nox(X:Cx):Cx:=X.wish fun _ _=>False
theorem Cx.Ok.wish{X:Cx}(ok:X.Ok)(E:Value→Shared→Prop):(X.wish E).Ok :=
 ⟨ok.mod,ok.kind,ok.glob,ok.blt,ok.above,ok.inj,ok.has,ok.cab,ok.hd,ok.frames,ok.stk,ok.exf,ok.bs,ok.bsz,ok.noex,ok.exfs,ok.funs,ok.frf⟩
theorem Cx.Ok.unwish{X:Cx}{E:Value→Shared→Prop}(ok:(X.wish E).Ok):X.Ok :=
 ⟨ok.mod,ok.kind,ok.glob,ok.blt,ok.above,ok.inj,ok.has,ok.cab,ok.hd,ok.frames,ok.stk,ok.exf,ok.bs,ok.bsz,ok.noex,ok.exfs,ok.funs,ok.frf⟩
section
variable {X:Cx} {pins:List (Addr × Obj)} {σ:St} {H:Hp} {s:Shared} {E:Value→Shared→Prop}
theorem Inv.wish(I:Inv X pins σ H s)(E:Value→Shared→Prop):Inv (X.wish E) pins σ H s:=⟨I.ok.wish E,I.os,I.bare,I.base,I.loc,I.cell,I.free,I.freeC,I.pin,I.hok,I.len⟩
theorem Inv.unwish(I:Inv (X.wish E) pins σ H s):Inv X pins σ H s:=⟨I.ok.unwish,I.os,I.bare,I.base,I.loc,I.cell,I.free,I.freeC,I.pin,I.hok,I.len⟩
theorem SP.unwish{D:sF}{f:Flow}{s':Shared}(h:SP (X.wish E) pins D f s'):SP X pins D f s':=by
 cases f with
 | next=>obtain⟨σ',H',I,q⟩:=h;exact⟨σ',H',I.unwish,q⟩
 | brk=>obtain⟨σ',H',I,q⟩:=h;exact⟨σ',H',I.unwish,q⟩
 | cont=>obtain⟨σ',H',I,q⟩:=h;exact⟨σ',H',I.unwish,q⟩
 | ret u=>obtain⟨v,σ',H',I,r,q⟩:=h;exact⟨v,σ',H',I.unwish,r,q⟩
theorem PE.nox{e:Expr}{t:TE}(h:PE X.nox e t):PE X e t:=fun pins s σ H Q I hw =>
 wpAny_mono (h pins s σ H Q (I.wish _) hw) (fun _ _ ⟨v,H',I',r,q⟩=>⟨v,H',I'.unwish,r,q⟩) fun _ _ z=>False.elim z
theorem PT.nox{e:Expr}{t:TT}(h:PT X.nox e t):PT X e t:=fun pins s σ H Q I hw =>
 wpAny_mono (h pins s σ H Q (I.wish _) hw) (fun _ _ ⟨H',I',q⟩=>⟨H',I'.unwish,q⟩) fun _ _ z=>False.elim z
theorem PSs.nox{st:List Stmt}{t:TS}(h:PSs X.nox st t):PSs X st t:=fun pins s σ H D I hw =>
 wpAny_mono (h pins s σ H D (I.wish _) hw) (fun _ _ q=>q.unwish) fun _ _ z=>False.elim z
end
section
variable {X:Cx} {st:Stmt} {E8:List Stmt} {t u:TS} {e:Expr} {te:TE} {pos:Pos}
def KW:TS:=fun D σ H=>D.nx σ H
def MJ(t u:TS):TS:=fun D σ H=>t { D with nx:=u D } σ H
theorem Ed:PSs X [] KW:=fun _ _ σ H _ I h=>wpAny_execs_nil ⟨σ,H,I,h⟩
theorem qW(h1:PS X st t)(h2:PSs X E8 u):PSs X (st :: E8) (MJ t u):=by
 intro pins s σ H D I h
 refine wpAny_execs_cons (thn (h1 pins s σ H { D with nx:=u D } I h) fun f s1 q=>?_)
 cases f with
 | next =>
  obtain⟨σ',H',I',q⟩:=q
  exact h2 pins s1 σ' H' D I' q
 | ret v=>exact q
 | brk=>exact q
 | cont=>exact q
theorem Ec(h1:PS X st t):PSs X [st] t:=by
 intro pins s σ H D I h
 refine wpAny_execs_cons (thn (h1 pins s σ H D I h) fun f s1 q=>?_)
 cases f with
 | next=>exact wpAny_execs_nil q
 | ret v=>exact q
 | brk=>exact q
 | cont=>exact q
theorem Inv.quiet{pins:List (Addr × Obj)}{σ:St}{H:Hp}{s:Shared}(I:Inv X pins σ H s):interactive X.env=false:=by simp[interactive,I.ok.kind]
def Lb(te:TE):TS:=fun D σ H=>te σ H fun _ H1=>D.nx σ H1
theorem Ee(he:PE X e te)(hs:swapsWith e none pos.line X.env=pure false:=by rfl):PS X (.Expr e pos) (Lb te):=by
 intro pins s σ H D I h
 exact wpAny_Expr_any (thn (he pins s σ H _ I h) fun v s1 ⟨x,H1,I1,r1,q1⟩=>⟨σ,H1,I1,q1⟩) I.quiet hs
def ML(te:TE):TS:=fun D σ H=>te σ H D.rt
theorem Ih(he:PE X e te):PS X (.Return (some e) pos) (ML te):=by
 intro pins s σ H D I h
 exact wpAny_Return_some (thn (he pins s σ H _ I h) fun v s1 ⟨x,H1,I1,r1,q1⟩=>⟨x,σ,H1,I1,r1,q1⟩)
def MS(c:TT)(t u:TS):TS:=fun D σ H=>c σ H fun b H1=>if b=true then t D σ H1 else u D σ H1
theorem Lo{c:Expr}{a b:List Stmt}{tc:TT}(hc:PT X c tc)(ha:PSs X a t)(hb:PSs X b u):PS X (.If c a b pos) (MS tc t u):=by
 intro pins s σ H D I h
 refine wpAny_If (thn (hc pins s σ H _ I h) fun d s1 zz=>?_)
 obtain⟨H1,I1,q1⟩:=zz
 cases d with
 | true=>exact ha pins s1 σ H1 D I1 q1
 | false=>exact hb pins s1 σ H1 D I1 q1
def HB:TS:=fun _ _ _=>False
theorem Ax:PS X st HB:=fun _ _ _ _ _ _ h=>h.elim
end
noncomputable abbrev TG:=V→St→Hp→(St→Hp→Prop)→Prop
noncomputable abbrev TGs:=List V→St→Hp→(St→Hp→Prop)→Prop
def PG(X:Cx)(target:Expr)(t:TG):Prop :=
 ∀(pins:List (Addr × Obj)) (s:Shared) (σ:St) (H:Hp) (v:V) (u:Value) (Q:St→Hp→Prop),Inv X pins σ H s→u6 v u→t v σ H Q →
  wpAny (model X.prog X.w) X.A (assign target X.env u) (fun _ s'=>∃ σ' H',Inv X pins σ' H' s'∧Q σ' H') X.xe s
def PGs(X:Cx)(ts:List Expr)(t:TGs):Prop :=
 ∀(pins:List (Addr × Obj)) (s:Shared) (σ:St) (H:Hp) (vs:List V) (us:List Value) (Q:St→Hp→Prop),Inv X pins σ H s→p0 vs us→t vs σ H Q →
  wpAny (model X.prog X.w) X.A (assignInOrder ((assignEach ts X.env).map (·.2)) us) (fun _ s'=>∃ σ' H',Inv X pins σ' H' s'∧Q σ' H') X.xe s
noncomputable abbrev JC:=V→V→V→Hp→(Hp→Prop)→Prop
def My(X:Cx)(t:JC):Prop :=
 ∀(pins:List (Addr × Obj)) (s:Shared) (σ:St) (H:Hp) (o i v:V) (ov iv u:Value) (Q:Hp→Prop),Inv X pins σ H s→u6 o ov→u6 i iv→u6 v u→t o i v H Q →
  wpAny (model X.prog X.w) X.A (setItem ov iv u) (fun _ s'=>∃ H',Inv X pins σ H' s'∧Q H') X.xe s
section
variable {X:Cx} {pos:Pos}
def BA(i:Nat):TG:=fun v σ H Q=>Q (σ.set i (some v)) H
theorem El{i:Nat}{x:Str}(hN:X.N.Nodup)(hi:X.N[i]? = some x)(hx:Loc X.env.scope x)(hf:X.fn x=true∨X.env.scope.names.lookup x=some .local:=by first|exact .inl rfl|exact .inr rfl|assumption):PG X (.Name x pos) (BA i):=by
 intro pins s σ H v u Q I r h
 exact wpAny_assign_Name (dc I hN hi hx r (fun s' I'=>⟨_,H,I',h⟩) hf)
def Nq:TGs:=fun vs σ H Q=>vs=[]∧Q σ H
def LR(t:TG)(u:TGs):TGs:=fun vs σ H Q=>∃ v r,vs=v :: r∧t v σ H fun σ' H'=>u r σ' H' Q
theorem Ej:PGs X [] Nq:=by
 intro pins s σ H vs us Q I r h
 obtain⟨e,h⟩:=h
 subst e
 cases r
 exact assignInOrder_nil ⟨σ,H,I,h⟩
theorem AE{e:Expr}{es:List Expr}{t:TG}{u:TGs}(h1:PG X e t)(h2:PGs X es u)
  (hs:(assignEach (e :: es) X.env).map (·.2)=assign e X.env :: (assignEach es X.env).map (·.2):=by rfl):PGs X (e :: es) (LR t u):=by
 intro pins s σ H vs us Q I r h
 obtain⟨v,vr,e1,h⟩:=h
 subst e1
 cases r with
 | cons r rr =>
  rw[hs]
  refine assignInOrder_cons (thn (h1 pins s σ H _ _ _ I r h) fun _ s1 zz=>?_)
  obtain⟨σ1,H1,I1,q1⟩:=zz
  exact h2 pins s1 σ1 H1 _ _ Q I1 rr q1
def Nn(K:Ra)(n:Nat)(t:TGs):TG:=fun v σ H Q=>∃ a xs,v = .ref a∧SqT K H a xs∧xs.length=n∧t xs σ H Q
theorem Ip{es:List Expr}{k:Nat}{t:TGs}{n:Nat}(hc:X.calm=true)(h:PGs X es t)
  (hn:(assignEach es X.env).length=n:=by rfl) (hst:(assignEach es X.env).findIdx? (·.1)=none:=by rfl):PG X (.Tuple es k pos) (Nn X.K n t):=by
 intro pins s σ H v u Q I r hw
 obtain⟨a,xs,e1,hq,hl,hw⟩:=hw
 subst e1
 cases r
 obtain⟨its,rv,ht,hz⟩:=I.tuple hq
 refine assign_Tuple_tuple (I.ok.hd hc) ht (by simp[hn,← hl,rv.length]) hst fun h' hx=>?_
 have I1:Inv X pins σ H { s with heap:=h' }:=I.kept (t':=s.toks) fun b o e=>hx b o (RY (Rt e)) e
 exact h pins _ σ H xs _ Q I1 (by simpa using rv) hw
def Np(to ti:TE)(t:JC):TG:=fun v σ H Q=>to σ H fun o H1=>ti σ H1 fun i H2=>t o i v H2 fun H3=>Q σ H3
theorem Iq{o i:Expr}{to ti:TE}{t:JC}(ho:PE X o to)(hi:PE X i ti)(hs:My X t)
  (ha:∀ v,assign (.Subscript o i pos) X.env v=(do
   let ov ← holding [v] (eval o X.env)
   let iv ← holding [v,ov] (eval i X.env)
   standAt pos
   holding [v,ov,iv] (setItem ov iv v)
   release [v,ov,iv] []):=by intro _;rfl):PG X (.Subscript o i pos) (Np to ti t):=by
 intro pins s σ H v u Q I r h
 rw[ha]
 refine QZ (wpAny_holding (thn (ho pins s σ H _ I h) fun ov s1 zz=>?_))
 obtain⟨x,H1,I1,r1,q1⟩:=zz
 refine QZ (wpAny_holding (thn (hi pins s1 σ H1 _ I1 q1) fun iv s2 zz=>?_))
 obtain⟨y,H2,I2,r2,q2⟩:=zz
 refine QZ (wpAny_standAt (QZ (wpAny_holding (thn (hs pins s2 σ H2 x y v ov iv u _ I2 r1 r2 r q2) fun _ s3 zz=>?_))))
 obtain⟨H3,I3,q3⟩:=zz
 exact wpAny_release ⟨σ,H3,I3,q3⟩
def HC(te:TE)(g:TG):TS:=fun D σ H=>te σ H fun x H1=>g x σ H1 D.nx
theorem Ik{tg e:Expr}{te:TE}{g:TG}(he:PE X e te)(hg:PG X tg g)(hs:swapsWithSole [tg] e pos.line X.env=pure false:=by rfl)(hw:swappedStores [tg] e X.env=pure none:=by rfl)
  (h1:(assignEach [tg] X.env).map (·.2)=[assign tg X.env]:=by rfl):PS X (.Assign [tg] e pos) (HC te g):=by
 intro pins s σ H D I h
 refine wpAny_Assign_stores (thn (he pins s σ H _ I h) fun v s1 ⟨x,H1,I1,r1,q1⟩=>?_) hs hw
 rw[h1]
 exact thn (hg pins s1 σ H1 x v _ I1 r1 q1) fun _ s2 q=>q
theorem Ig{i:Nat}{x:Str}{e:Expr}{te:TE}{pos':Pos}(hN:X.N.Nodup)(hi:X.N[i]? = some x)(hx:Loc X.env.scope x)(he:PE X e te)(hs:swapsWith e (some (.Name x pos')) pos.line X.env=pure false:=by rfl)(hf:X.fn x=true∨X.env.scope.names.lookup x=some .local:=by first|exact .inl rfl|exact .inr rfl|assumption) :
  PS X (.Assign [.Name x pos'] e pos) (HC te (BA i)):=by
 intro pins s σ H D I h
 refine wpAny_Assign_Name (thn (he pins s σ H _ I h) fun v s1 ⟨y,H1,I1,r1,q1⟩=>?_) hs
 exact dc I1 hN hi hx r1 (fun s2 I2=>⟨_,H1,I2,q1⟩) hf
def MM(i j:Nat)(ta:TA):TS:=fun D σ H=>ta σ H fun vs H1=>∃ v w,vs=[v,w]∧D.nx ((σ.set i (some v)).set j (some w)) H1
theorem Ii{i j:Nat}{x y:Str}{a b:Expr}{ta:TA}{px py pt:Pos}{kt k2 pt2}(hc:X.calm=true)(hN:X.N.Nodup)(hi:X.N[i]? = some x)(hj:X.N[j]? = some y)(hij:i≠j)
  (hx:X.env.scope.names.lookup x=some .local) (hy:X.env.scope.names.lookup y=some .local) (ha:PA X [a,b] ta)
  (hw:swappedStores [.Tuple [.Name x px,.Name y py] kt pt] (.Tuple [a,b] k2 pt2) X.env=pure (some [x,y]))
  (hs:swapsWithSole [.Tuple [.Name x px,.Name y py] kt pt] (.Tuple [a,b] k2 pt2) pos.line X.env=pure false:=by rfl) :
  PS X (.Assign [.Tuple [.Name x px,.Name y py] kt pt] (.Tuple [a,b] k2 pt2) pos) (MM i j ta):=by
 intro pins s σ H D I h
 rw[exec_Assign_arm]
 refine QZ (wpAny_standAt ?_)
 rw[hs]
 refine QZ (Rn ?_)
 rw[if_neg (by decide)]
 refine QZ (Tuple_ (thn (ha _ pins s σ H _ I h) fun us s1 zz=>?_))
 obtain⟨vs,H1,I1,r1,q1⟩:=zz
 obtain⟨v,w,e1,q1⟩:=q1
 subst e1
 obtain⟨u1,u2,rfl,rv,rw'⟩:∃ u1 u2,us=[u1,u2]∧u6 v u1∧u6 w u2:=by
  cases r1 with
  | cons p q =>
   cases q with
   | cons p' q' =>
    cases q'
    exact⟨_,_,rfl,p,p'⟩
 refine wpAny_newObj_type ?_ (by show 2≤sizeLine;decide)
 have I2:Inv X pins σ H1 { s1 with heap:=s1.heap.push { cls:=.type "tuple",data:=.seq [u1,u2].toArray } }:=I1.kept (t':=s1.toks) fun b o e=>Rf _ e
 rw[hw]
 refine QZ (Rn ?_)
 show wpAny (model X.prog X.w) X.A (do rule "assign.swapped-stores";let items ← unpackItems (.ref s1.heap.objs.size) 2 none;assignInOrder [fun v=>bindName X.env y v,fun v=>bindName X.env x v] items.reverse;pure Flow.next) _ _ _
 refine QZ (wpAny_rule (QZ (unpackItems_tuple (items:=#[u1,u2]) (I.ok.hd hc) (IsTup.new s1.heap _) fun h' hx'=>?_)))
 have I3:=I2.kept (h':=h') (t':=s1.toks) fun b o e=>hx' b o (RY (Rt e)) e
 show wpAny _ _ (assignInOrder [fun v=>bindName X.env y v,fun v=>bindName X.env x v] [u2,u1] >>= fun _=>pure Flow.next) _ _ _
 refine QZ (assignInOrder_cons (wpAny_bindName (dc I3 hN hj (.inl hy) rw' (fun s2 I4=>?_) (.inr hy))))
 refine assignInOrder_cons (wpAny_bindName (dc I4 hN hi (.inl hx) rv (fun s3 I5=>assignInOrder_nil (Rn ?_)) (.inr hx)))
 rw[List.set_comm _ _ (Ne.symm hij)]at I5
 exact⟨_,H1,I5,q1⟩
end
section
variable {X:Cx} {pos:Pos}
def HA(c:TT)(tb:TS):TS:=fun D σ H=>∃ W:Nat→St→Hp→Prop,(∃ m,W m σ H)∧∀ m σ H,W m σ H →
 c σ H fun b H1=>if b=true then ∃ N:St→Hp→Prop,(∀ σ' H',N σ' H'→∃ m',m'<m∧W m' σ' H')∧tb { D with nx:=N,ct:=N,bk:=D.nx } σ H1 else D.nx σ H1
theorem Aw{c:Expr}{body:List Stmt}{tc:TT}{tb:TS}(hp:PassesOwn (model X.prog X.w) X.A X.env X.xe)(hc:PT X c tc)(hb:PSs X body tb):PS X (.While c body [] pos) (HA tc tb):=by
 intro pins s σ H D I h
 obtain⟨W,⟨m0,w0⟩,turn⟩:=h
 refine wpAny_While (codeAny_whileLoop (fun n s'=>∃ σ' H',Inv X pins σ' H' s'∧W n σ' H') ?_ m0 ⟨σ,H,I,w0⟩)
 rintro n s1 ⟨σ1,H1,I1,w1⟩
 refine wpAny_passesOwn hp (thn (hc pins s1 σ1 H1 _ I1 (turn n σ1 H1 w1)) fun b s2 zz=>?_)
 obtain⟨H2,I2,q2⟩:=zz
 cases b with
 | true =>
  obtain⟨N,hN,q2⟩:=q2
  rw[if_pos rfl]
  refine wpAny_passesOwn hp (thn (hb pins s2 σ1 H2 _ I2 q2) fun f s3 q3=>?_)
  cases f with
  | next =>
   obtain⟨σ3,H3,I3,n3⟩:=q3
   obtain⟨m',hm,w3⟩:=hN σ3 H3 n3
   exact⟨m',hm,σ3,H3,I3,w3⟩
  | cont =>
   obtain⟨σ3,H3,I3,n3⟩:=q3
   obtain⟨m',hm,w3⟩:=hN σ3 H3 n3
   exact⟨m',hm,σ3,H3,I3,w3⟩
  | brk=>exact q3
  | ret v=>exact q3
 | false =>
  rw[if_neg RF]
  exact wpAny_execs_nil ⟨σ1,H2,I2,q2⟩
end
structure It where
 go:Nat→Hp→Prop
 yld:Nat→Hp→V→Hp→Prop
 stop:Nat→Hp→Prop
def cS(X:Cx)(pins:List (Addr × Obj))(H:Hp)(b:Addr):Prop :=
 H b=none∧b≠X.env.locals∧b∉X.fs∧(b∈X.ex∨X.s₀.heap.objs.size≤b)∧(∀ x c,X.env.cells.lookup x=some c→c≠b)∧∀ p∈X.pn++pins,p.1≠b
theorem Inv.fpOk{X:Cx}{pins:List (Addr × Obj)}{σ:St}{H H':Hp}{s:Shared}{b:Addr}(I:Inv X pins σ H s)(hb:s.heap.objs.size≤b)(hn:H' b=none):cS X pins H' b:=by
 refine⟨hn,Sz (Rk I.lt hb),I.nofs hb,.inr (Ro I.sz hb),fun x c e z=>?_,fun p hp z=>?_⟩
 ·obtain⟨v,q⟩:=I.cell x c e
  exact absurd (Rk q.lt (by rw[z];exact hb)) (SJ _)
 ·exact absurd (Rk (Rt (I.pin p hp).1) (by rw[z];exact hb)) (SJ _)
structure pq(P:Program)(w:World)(K:Ra)(tg:Expr)(J:It)(fp:List Addr)(it:Addr)(tn:Nat→Heap→Prop):Prop where
 mem:it∈fp
 obj:∀ i h,tn i h→∀ b∈fp,∃ o,h.get? b=some o∧∀ v,o.data ≠ .cell v
 keep:∀ i h h',tn i h→(∀ b∈fp,∀ o,h.get? b=some o→h'.get? b=some o)→tn i h'
 item:∀(X:Cx),X.prog=P→X.w=w→X.K=K→X.calm=true→∀(i:Nat) (pins:List (Addr × Obj)) (s:Shared) (σ:St) (H:Hp) (E:Value→Shared→Prop),Inv X pins σ H s→(∀ b∈fp,cS X pins H b)→tn i s.heap→J.go i H →
  wpAny (model P w) X.A (pyNext (.ref it)) (fun r s1=>∃ u,r=some u ∧
   wpAny (model P w) X.A (letOwnedTupleGo tg (.ref it) u) (fun _ s2=>∃ x H',Inv X pins σ H' s2∧u6 x u∧J.yld i H x H'∧tn (i+1) s2.heap∧∀ b∈fp,H' b=none) E s1) E s
 done:∀(X:Cx),X.prog=P→X.w=w→X.K=K→X.calm=true→∀(i:Nat) (pins:List (Addr × Obj)) (s:Shared) (σ:St) (H:Hp) (E:Value→Shared→Prop),Inv X pins σ H s→(∀ b∈fp,cS X pins H b)→tn i s.heap→J.stop i H →
  wpAny (model P w) X.A (pyNext (.ref it)) (fun r s1=>r=none∧Inv X pins σ H s1) E s
 self:∀(A:Around) (i:Nat) (s:Shared) (Q:Value→Shared→Prop) (E:Value→Shared→Prop),tn i s.heap→Q (.ref it) s→wpAny (model P w) A (pyIter (.ref it)) Q E s
noncomputable abbrev TI:=St→Hp→(It→Hp→Prop)→Prop
def PIE(X:Cx)(pins:List (Addr × Obj))(σ:St)(tg:Expr)(R:It→Hp→Prop)(itv:Value)(s2:Shared):Prop :=
 ∃(it:Addr) (fp:List Addr) (tn:Nat→Heap→Prop) (J:It) (H':Hp),itv = .ref it∧Inv X pins σ H' s2∧pq X.prog X.w X.K tg J fp it tn∧tn 0 s2.heap∧(∀ b∈fp,cS X pins H' b)∧R J H'
def PI(X:Cx)(tg iter:Expr)(wi:TI):Prop :=
 ∀(pins:List (Addr × Obj)) (s:Shared) (σ:St) (H:Hp) (R:It→Hp→Prop),Inv X pins σ H s→wi σ H R →
  wpAny (model X.prog X.w) X.A (eval iter X.env) (fun v s1=>wpAny (model X.prog X.w) X.A (pyIter v) (PIE X pins σ tg R) X.xe s1) X.xe s
theorem rP{M:Model}{A:Around}{E:Value→Shared→Prop}{s:Shared}{tg:Expr}{it:Addr}{u:Value}{o:Obj}{n:String}{vs:Array Value}{Q:Unit→Shared→Prop}(ho:s.heap.get? it=some o)(hc:o.cls = .type n)(hd:o.data = .fields vs)
  (hn:["enumerate","zip","dict_itemiterator","dict_reverseitemiterator","odict_iterator","itertools.zip_longest","itertools.pairwise"].contains n=false) (hQ:Q () s):wpAny M A (letOwnedTupleGo tg (.ref it) u) Q E s:=by
 unfold letOwnedTupleGo
 cases tg<;>first
  | exact Rn hQ
  | (cases u<;>first
    | exact Rn hQ
    | (refine QZ (wpAny_load ho ?_);rw[hc,hd];show wpAny M A (if (["enumerate","zip","dict_itemiterator","dict_reverseitemiterator","odict_iterator","itertools.zip_longest","itertools.pairwise"].contains n && vs[0]? == some (rawInt _))=true then _ else _) Q E s;rw[if_neg (by intro h;rw[hn,Wb]at h;cases h)];exact Rn hQ))
noncomputable def Itl(K:Ra)(a:Addr):It :=
 ⟨fun i H=>∃ xs x,SqL K H a xs∧xs[i]? = some x,fun i H x H'=>H'=H∧∀ xs,SqL K H a xs→xs[i]? = some x,fun i H=>∃ xs,SqL K H a xs∧xs.length≤i⟩
noncomputable def Itt(K:Ra)(a:Addr):It :=
 ⟨fun i H=>∃ xs x,SqT K H a xs∧xs[i]? = some x,fun i H x H'=>H'=H∧∀ xs,SqT K H a xs→xs[i]? = some x,fun i H=>∃ xs,SqT K H a xs∧xs.length≤i⟩
noncomputable def Itr(lo:Int)(n:Nat):It:=⟨fun i _=>i<n,fun i H x H'=>H'=H∧x = .int (lo+i),fun i _=>n≤i⟩
theorem xa{P:Program}{w:World}{K:Ra}{tg:Expr}(a it:Addr):pq P w K tg (Itl K a) [it] it (fun i h=>h.IsListIter it a i) where
 mem:=by simp
 obj:=fun i h st b hb=>by
  have e:b=it:=by simpa using hb
  subst e
  obtain⟨o,e,c,d⟩:=st
  exact⟨o,e,fun v z=>by rw[d]at z;cases z⟩
 keep:=fun i h h' st k=>st.at fun o e=>k it (by simp) o e
 item:=by
  intro X hP hw hK hc i pins s σ H E I hf st hg
  subst hP hw hK
  obtain⟨xs,x,hq,hx⟩:=hg
  obtain⟨its,rv,p,hz⟩:=I.list hq
  obtain⟨u,hu,ru⟩:=rv.get hx
  obtain⟨f0,f1,f2,f3,f4,f5⟩:=hf it (by simp)
  refine wpAny_pyNext_list_item st p.isList (x:=u) (by simpa using hu) fun h' st' sb=>?_
  have I1:Inv X pins σ H { s with heap:=h' }:=I.turned (t':=s.toks) (fun b o hb e=>(sb.2 b hb).trans e) f0 f1 f3 f4 f5
  obtain⟨o,e,c,d⟩:=id st'
  exact⟨u,rfl,rP (s:={ s with heap:=h' }) e c d (by decide) ⟨x,H,I1,ru,⟨rfl,fun ys hy=>by rw[I.list_inj hy hq];exact hx⟩,st',fun b hb=>(hf b hb).1⟩⟩
 done:=by
  intro X hP hw hK hc i pins s σ H E I hf st hg
  subst hP hw hK
  obtain⟨xs,hq,hx⟩:=hg
  obtain⟨its,rv,p,hz⟩:=I.list hq
  obtain⟨f0,f1,f2,f3,f4,f5⟩:=hf it (by simp)
  have hl:=rv.length
  exact wpAny_pyNext_list_end (I.ok.hd hc) st p.isList (by simp;omega) fun h' eb=>⟨rfl,I.turned (t':=s.toks) (fun b o hb e=>eb b o hb e) f0 f1 f3 f4 f5⟩
 self:=fun _ _ _ _ _ st h=>wpAny_pyIter_listiter st h
theorem sM{P:Program}{w:World}{K:Ra}{tg:Expr}(a it:Addr):pq P w K tg (Itt K a) [it] it (fun i h=>h.IsTupleIter it a i) where
 mem:=by simp
 obj:=fun i h st b hb=>by
  have e:b=it:=by simpa using hb
  subst e
  obtain⟨o,e,c,d⟩:=st
  exact⟨o,e,fun v z=>by rw[d]at z;cases z⟩
 keep:=fun i h h' st k=>st.at fun o e=>k it (by simp) o e
 item:=by
  intro X hP hw hK hc i pins s σ H E I hf st hg
  subst hP hw hK
  obtain⟨xs,x,hq,hx⟩:=hg
  obtain⟨its,rv,p,hz⟩:=I.tuple hq
  obtain⟨u,hu,ru⟩:=rv.get hx
  obtain⟨f0,f1,f2,f3,f4,f5⟩:=hf it (by simp)
  refine wpAny_pyNext_tuple_item st (show s.heap.IsTuple a its.toArray from p) (x:=u) (by simpa using hu) fun h' st' sb=>?_
  have I1:Inv X pins σ H { s with heap:=h' }:=I.turned (t':=s.toks) (fun b o hb e=>(sb.2 b hb).trans e) f0 f1 f3 f4 f5
  obtain⟨o,e,c,d⟩:=id st'
  exact⟨u,rfl,rP (s:={ s with heap:=h' }) e c d (by decide) ⟨x,H,I1,ru,⟨rfl,fun ys hy=>by rw[I.tuple_inj hy hq];exact hx⟩,st',fun b hb=>(hf b hb).1⟩⟩
 done:=by
  intro X hP hw hK hc i pins s σ H E I hf st hg
  subst hP hw hK
  obtain⟨xs,hq,hx⟩:=hg
  obtain⟨its,rv,p,hz⟩:=I.tuple hq
  obtain⟨f0,f1,f2,f3,f4,f5⟩:=hf it (by simp)
  have hl:=rv.length
  exact wpAny_pyNext_tuple_end (I.ok.hd hc) st (show s.heap.IsTuple a its.toArray from p) (by simp;omega) fun h' eb=>⟨rfl,I.turned (t':=s.toks) (fun b o hb e=>eb b o hb e) f0 f1 f3 f4 f5⟩
 self:=fun _ _ _ _ _ st h=>wpAny_pyIter_tupleiter st h
theorem sN{P:Program}{w:World}{K:Ra}{tg:Expr}(it:Addr)(lo:Int)(n:Nat):pq P w K tg (Itr lo n) [it] it (fun i h=>IsRangeIter h it (lo+(i:Nat)*1) ((n:Int) - (i:Nat)) 1) where
 mem:=by simp
 obj:=fun i h st b hb=>by
  have e:b=it:=by simpa using hb
  subst e
  exact⟨_,st,fun v z=>by
   have z':Data.fields _=Data.cell v:=z
   cases z'⟩
 keep:=fun i h h' st k=>k it (by simp) _ st
 item:=by
  intro X hP hw hK hc i pins s σ H E I hf st hg
  subst hP hw hK
  obtain⟨f0,f1,f2,f3,f4,f5⟩:=hf it (by simp)
  have W:=Walks.range (prog:=X.prog) (w:=X.w) (I.ok.hd hc) it lo 1 n
  refine W.item i s _ _ hg st fun v h' tk hv st' kk=>?_
  obtain⟨t,rfl⟩:=hv
  have I1:Inv X pins σ H { s with heap:=h',toks:=tk }:=I.turned (fun b o hb e=>kk b o (by simpa using hb) e) f0 f1 f3 f4 f5
  refine⟨_,rfl,rP (s:={ s with heap:=h',toks:=tk }) (n := "range_iterator") st' rfl rfl (by decide) ⟨.int (lo+i),H,I1,⟨t,?_⟩,⟨rfl,rfl⟩,st',fun b hb=>(hf b hb).1⟩⟩
  rw[Int.mul_one]
 done:=by
  intro X hP hw hK hc i pins s σ H E I hf st hg
  subst hP hw hK
  obtain⟨f0,f1,f2,f3,f4,f5⟩:=hf it (by simp)
  exact wpAny_pyNext_range_end (I.ok.hd hc) st (by have:n≤i:=hg;omega) fun h' eb=>⟨rfl,I.turned (t':=s.toks) (fun b o hb e=>eb b o hb e) f0 f1 f3 f4 f5⟩
 self:=fun _ _ _ _ _ st h=>wpAny_pyIter_rangeiter st h
section
variable {X:Cx} {tg:Expr}
theorem qU{pins:List (Addr × Obj)}{σ:St}{H:Hp}{s:Shared}{R:It→Hp→Prop}{E:Value→Shared→Prop}{lo hi:Int}{t u v:Tok}{tk:Nat}(I:Inv X pins σ H s)(h1:-(2 ^ 62)≤lo)(h2:lo<2 ^ 62)(h3:-(2 ^ 62)≤hi)(h4:hi<2 ^ 62)
  (q:R (Itr lo (hi - lo).toNat) H):wpAny (model X.prog X.w) X.A (pyIter (.ref s.heap.objs.size)) (PIE X pins σ tg R) E { s with heap:=s.heap.push { cls:=.type "range",data:=.fields #[.int lo t,.int hi u,.int 1 v] },toks:=tk }:=by
 refine wpAny_pyIter_range (IsRange.new ..) (small_one h1 h2 h3 h4) ?_
 have I1:Inv X pins σ H { s with heap:=s.heap.push { cls:=.type "range",data:=.fields #[.int lo t,.int hi u,.int 1 v] },toks:=tk }:=I.kept fun b o e=>Rf _ e
 refine⟨(s.heap.push { cls:=.type "range",data:=.fields #[.int lo t,.int hi u,.int 1 v] }).objs.size,[(s.heap.push { cls:=.type "range",data:=.fields #[.int lo t,.int hi u,.int 1 v] }).objs.size],_,_,H,rfl,
  I1.kept (t':=tk) fun b o e=>Rf _ e,sN _ lo (hi - lo).toNat,?_,fun b hb=>?_,q⟩
 ·have e1:lo+((0:Nat):Int)*1=lo:=by simp
  have e2:(((hi - lo).toNat:Nat):Int) - ((0:Nat):Int)=Builtin.Range.rangeSize lo hi 1:=by rw[rangeSize_one];split<;>omega
  show IsRangeIter _ _ (lo+((0:Nat):Int)*1) ((((hi - lo).toNat:Nat):Int) - ((0:Nat):Int)) 1
  rw[e1,e2]
  exact Rp _ rfl
 ·have e:b=(s.heap.push { cls:=.type "range",data:=.fields #[.int lo t,.int hi u,.int 1 v] }).objs.size:=by simpa using hb
  subst e
  exact I1.fpOk (Rx _) (I1.hok.fresh (Rx _))
def LL(ta:TA):TI:=fun σ H R=>ta σ H fun vs H1=>∃ j:Int,vs=[.int j]∧-(2 ^ 62)≤j∧j<2 ^ 62∧R (Itr 0 j.toNat) H1
def LK(ta:TA):TI:=fun σ H R=>ta σ H fun vs H1=>∃ i j:Int,vs=[.int i,.int j]∧(-(2 ^ 62)≤i∧i<2 ^ 62∧-(2 ^ 62)≤j∧j<2 ^ 62)∧R (Itr i (j - i).toNat) H1
theorem xD{a:Expr}{ta:TA}{p pos:Pos}(hg:Gl X "range")(hm:X.mg "range" = none)(ha:PA X [a] ta)(hs:starEach [a] X.env=[(false,eval a X.env)]:=by rfl):PI X tg (.Call (.Name "range" p) [a] [] pos) (LL ta):=by
 intro pins s σ H R I h
 refine Call_ (K4 I hg hm boot_range (PyProof.Rows.callWith_type1 (thn (ha pos pins s σ H _ I h) fun us s1 ⟨vs,H1,I1,r1,q1⟩=>?_) hs rfl))
 obtain⟨j,e,q1,q2,q⟩:=q1
 subst e
 cases r1 with
 | cons r rr =>
  cases rr
  obtain⟨t,rfl⟩:=r
  exact call_range_1 (qU I1 (by omega) (by omega) q1 q2 (by simpa using q))
theorem xC{a b:Expr}{ta:TA}{p pos:Pos}(hg:Gl X "range")(hm:X.mg "range" = none)(ha:PA X [a,b] ta)(hs:starEach [a,b] X.env=[(false,eval a X.env),(false,eval b X.env)]:=by rfl)(hs2:starEach [b] X.env=[(false,eval b X.env)]:=by rfl) :
  PI X tg (.Call (.Name "range" p) [a,b] [] pos) (LK ta):=by
 intro pins s σ H R I h
 refine Call_ (K4 I hg hm boot_range (PyProof.Rows.callWith_type1 (thn (ha pos pins s σ H _ I h) fun us s1 ⟨vs,H1,I1,r1,q1⟩=>?_) (by rw[hs,hs2]) (by rw[hs2];rfl)))
 obtain⟨i,j,e,⟨q1,q2,q3,q4⟩,q⟩:=q1
 subst e
 cases r1 with
 | cons r rr =>
  cases rr with
  | cons r' rr =>
   cases rr
   obtain⟨t,rfl⟩:=r
   obtain⟨t',rfl⟩:=r'
   exact call_range_2 (qU I1 q1 q2 q3 q4 q)
def MT(wi:TI)(g:TG)(tb:TS):TS:=fun D σ H=>wi σ H fun J H1=>∃ W:Nat→Nat→St→Hp→Prop,(∃ m,W 0 m σ H1)∧∀ i m σ H,W i m σ H →
 (J.stop i H∧D.nx σ H)∨(J.go i H∧∃ N:St→Hp→Prop,(∀ σ' H',N σ' H'→∃ m',m'<m∧W (i+1) m' σ' H')∧∀ x H',J.yld i H x H'→g x σ H' fun σ2 H2=>tb { D with nx:=N,ct:=N,bk:=D.nx } σ2 H2)
noncomputable def om(fp:List Addr)(h:Heap):List (Addr × Obj):=fp.filterMap fun b=>(h.get? b).map fun o=>(b,o)
theorem K3{fp:List Addr}{h:Heap}{b:Addr}{o:Obj}(hb:b∈fp)(e:h.get? b=some o):(b,o)∈om fp h:=Vm.mpr ⟨b,hb,by rw[e];rfl⟩
theorem xF{fp:List Addr}{h:Heap}{p:Addr × Obj}(hp:p∈om fp h):p.1∈fp∧h.get? p.1=some p.2:=by
 obtain⟨b,hb,e⟩:=Vm.mp hp
 cases q:h.get? b with
 | none=>rw[q]at e;cases e
 | some o =>
  rw[q]at e
  have e':(b,o)=p:=Option.some.inj e
  subst e'
  exact⟨hb,q⟩
theorem Inv.pinned{pins:List (Addr × Obj)}{σ:St}{H:Hp}{s:Shared}{fp:List Addr}(I:Inv X pins σ H s)(hf:∀ b∈fp,cS X pins H b)(ho:∀ b∈fp,∃ o,s.heap.get? b=some o∧∀ v,o.data ≠ .cell v):Inv X (pins++om fp s.heap) σ H s :=
 I.pins_of fun p hp=>(RI.mp hp).elim (fun z=>I.pin p (RN _ z)) fun z=>by
  obtain⟨hb,e⟩:=xF z
  obtain⟨f0,f1,f2,_⟩:=hf p.1 hb
  obtain⟨o,e',d⟩:=ho p.1 hb
  rw[e]at e';cases e'
  exact⟨e,f0,f1,f2,d⟩
theorem Inv.unpinned{pins pl:List (Addr × Obj)}{σ:St}{H:Hp}{s:Shared}(I:Inv X (pins++pl) σ H s):Inv X pins σ H s:=I.pins_of fun p hp=>I.pin p (RN _ (TZ _ hp))
theorem Ij{iter:Expr}{body:List Stmt}{wi:TI}{g:TG}{tb:TS}{pos:Pos}(hp:PassesOwn (model X.prog X.w) X.A X.env X.xe)(hc:X.calm=true)(hi:PI X tg iter wi)(hg:PG X tg g)(hb:PSs X body tb)
  (hs:∀ x,foldedSetIterable iter X.env x=pure x:=by intro _;rfl):PS X (.For tg iter body [] pos) (MT wi g tb):=by
 intro pins s σ H D I h
 refine wpAny_For (thn (hi pins s σ H _ I h) fun v s1 h1=>thn h1 fun itv s2 h2=>?_) hs
 obtain⟨it,fp,tn,J,H2,e,I2,T,st2,f2,W,⟨m0,w0⟩,turn⟩:=h2
 subst e
 have stat:∀{H':Hp},(∀ b∈fp,H' b=none)→∀ b∈fp,cS X pins H' b:=fun hn b hb=>⟨hn b hb,(f2 b hb).2⟩
 refine codeAny_forLoop_any (fun n s'=>∃ i σ' H',Inv X pins σ' H' s'∧tn i s'.heap∧(∀ b∈fp,H' b=none)∧W i n σ' H') ?_ m0 ⟨0,σ,H2,I2,st2,fun b hb=>(f2 b hb).1,w0⟩
 rintro n s3 ⟨i,σ3,H3,I3,st3,fr3,w3⟩
 rcases turn i n σ3 H3 w3 with⟨stop,qn⟩|⟨go,N,hN,step⟩
 ·refine wpAny_passesOwn hp (thn (T.done X rfl rfl rfl hc i pins s3 σ3 H3 X.xe I3 (stat fr3) st3 stop) fun r s4 zz=>?_)
  obtain⟨hr,I4⟩:=zz
  subst hr
  exact wpAny_execs_nil ⟨σ3,H3,I4,qn⟩
 ·refine wpAny_passesOwn hp (thn (T.item X rfl rfl rfl hc i pins s3 σ3 H3 X.xe I3 (stat fr3) st3 go) fun r s4 zz=>?_)
  obtain⟨u,hr,h4⟩:=zz
  subst hr
  refine wpAny_passesOwn hp (thn h4 fun _ s5 zz=>?_)
  obtain⟨x,H5,I5,r5,y5,st5,fr5⟩:=zz
  have I5':=I5.pinned (stat fr5) (T.obj _ _ st5)
  refine wpAny_passesOwn hp (thn (hg _ s5 σ3 H5 x u _ I5' r5 (step x H5 y5)) fun _ s6 zz=>?_)
  obtain⟨σ6,H6,I6,q6⟩:=zz
  refine wpAny_passesOwn hp (thn (hb _ s6 σ6 H6 _ I6 q6) fun f s7 q7=>?_)
  have again:∀{σ7:St} {H7:Hp},Inv X (pins++om fp s5.heap) σ7 H7 s7→N σ7 H7→∃ m,m<n∧∃ i σ' H',Inv X pins σ' H' s7∧tn i s7.heap∧(∀ b∈fp,H' b=none)∧W i m σ' H':=fun{σ7 H7} I7 n7=>by
   obtain⟨m',hm,w7⟩:=hN σ7 H7 n7
   refine⟨m',hm,i+1,σ7,H7,I7.unpinned,T.keep _ _ _ st5 fun b hb o e=>(I7.pin (b,o) (RN _ (RN _ (K3 hb e)))).1,fun b hb=>?_,w7⟩
   obtain⟨o,e,d⟩:=T.obj _ _ st5 b hb
   exact(I7.pin (b,o) (RN _ (RN _ (K3 hb e)))).2.1
  cases f with
  | next=>obtain⟨σ7,H7,I7,n7⟩:=q7;exact again I7 n7
  | cont=>obtain⟨σ7,H7,I7,n7⟩:=q7;exact again I7 n7
  | brk=>obtain⟨σ7,H7,I7,q7⟩:=q7;exact⟨σ7,H7,I7.unpinned,q7⟩
  | ret v=>obtain⟨x7,σ7,H7,I7,r7,q7⟩:=q7;exact⟨x7,σ7,H7,I7.unpinned,r7,q7⟩
end
noncomputable abbrev R2:=V→V→Hp→VK→Prop
def OpR(X:Cx)(f:Value→Value→Sem Value)(r:R2):Prop :=
 ∀(pins:List (Addr × Obj)) (s:Shared) (σ:St) (H:Hp) (x y:V) (v u:Value) (Q:VK),Inv X pins σ H s→u6 x v→u6 y u→r x y H Q →
  wpAny (model X.prog X.w) X.A (f v u) (EP X pins σ Q) X.xe s
def UnR(X:Cx)(f:Value→Sem Value)(r:V→Hp→VK→Prop):Prop :=
 ∀(pins:List (Addr × Obj)) (s:Shared) (σ:St) (H:Hp) (x:V) (v:Value) (Q:VK),Inv X pins σ H s→u6 x v→r x H Q →
  wpAny (model X.prog X.w) X.A (f v) (EP X pins σ Q) X.xe s
def E5(X:Cx)(f:Value)(r:List V→Hp→VK→Prop):Prop :=
 ∀(pins:List (Addr × Obj)) (s:Shared) (σ:St) (H:Hp) (xs:List V) (us:List Value) (Q:VK),Inv X pins σ H s→p0 xs us→r xs H Q →
  wpAny (model X.prog X.w) X.A (call f us) (EP X pins σ Q) X.xe s
def tOp(r:R2)(ta tb:TE):TE:=fun σ H Q=>ta σ H fun x H1=>tb σ H1 fun y H2=>r x y H2 Q
def tUn(r:V→Hp→VK→Prop)(ta:TE):TE:=fun σ H Q=>ta σ H fun x H1=>r x H1 Q
def rI(C:Int→Int→Prop)(g:Int→Int→V):R2:=fun x y H Q=>∃ i j,x = .int i∧y = .int j∧C i j∧Q (g i j) H
def rI0(g:Int→Int→V):R2:=fun x y H Q=>∃ i j,x = .int i∧y = .int j∧Q (g i j) H
noncomputable def rU(g:Int→V):V→Hp→VK→Prop:=fun x H Q=>∃ i,x = .int i∧Q (g i) H
section
variable {X:Cx} {a b c:Expr} {ta tb tc:TE} {pos:Pos}
theorem Jx(ha:PE X a ta)(hb:PE X b tb){pins:List (Addr × Obj)}{s:Shared}{σ:St}{H:Hp}{R:V→V→Hp→Prop}(I:Inv X pins σ H s)
  (h:ta σ H fun x H1=>tb σ H1 fun y H2=>R x y H2) {Q:Value→Shared→Prop} {f:Value→Value→Sem Value}
  (hf:∀ v u s2 x y H2,Inv X pins σ H2 s2→u6 x v→u6 y u→R x y H2→wpAny (model X.prog X.w) X.A (f v u) Q X.xe s2) :
  wpAny (model X.prog X.w) X.A (eval a X.env) (fun v s₁=>wpAny (model X.prog X.w) X.A (eval b X.env) (fun u s₂=>wpAny (model X.prog X.w) X.A (f v u) Q X.xe s₂) X.xe s₁) X.xe s:=by
 refine thn (ha pins s σ H _ I h) fun v s1 zz=>?_
 obtain⟨x,H1,I1,r1,q1⟩:=zz
 refine thn (hb pins s1 σ H1 _ I1 q1) fun u s2 zz=>?_
 obtain⟨y,H2,I2,r2,q2⟩:=zz
 exact hf v u s2 x y H2 I2 r1 r2 q2
theorem Gz{op:Operator}{r:R2}(ho:OpR X (binaryOp op) r)(ha:PE X a ta)(hb:PE X b tb):PE X (.BinOp a op b pos) (tOp r ta tb):=by
 intro pins s σ H Q I h
 exact wpAny_BinOp (Jx ha hb I h fun v u s2 x y H2 I2 rx ry q=>ho pins s2 σ H2 x y v u Q I2 rx ry q)
theorem Lp{op:UnaryOp}{r:V→Hp→VK→Prop}(ho:UnR X (unaryOp op) r)(ha:PE X a ta):PE X (.UnaryOp op a pos) (tUn r ta):=by
 intro pins s σ H Q I h
 exact UnaryOp_ (thn (ha pins s σ H _ I h) fun v s1 ⟨x,H1,I1,r1,q1⟩=>ho pins s1 σ H1 x v Q I1 r1 q1)
theorem opI{f:Value→Value→Sem Value}{C:Int→Int→Prop}{g:Int→Int→Int}
  (rule:∀(i j:Int) (t u:Tok) (s:Shared) (Q:Value→Shared→Prop) (E:Value→Shared→Prop),C i j→Q (.int (g i j) s.toks) { s with toks:=s.toks+1 }→wpAny (model X.prog X.w) X.A (f (.int i t) (.int j u)) Q E s) :
  OpR X f (rI C fun i j=>.int (g i j)):=by
 intro pins s σ H x y v u Q I rx ry h
 obtain⟨i,j,rfl,rfl,hc,q⟩:=h
 obtain⟨t,rfl⟩:=rx
 obtain⟨t',rfl⟩:=ry
 exact rule i j t t' s _ _ hc ⟨.int (g i j),H,I.tok _,⟨_,rfl⟩,q⟩
theorem Lz{f:Value→Value→Sem Value}{g:Int→Int→Int}
  (rule:∀(i j:Int) (t u:Tok) (s:Shared) (Q:Value→Shared→Prop) (E:Value→Shared→Prop),Q (.int (g i j) s.toks) { s with toks:=s.toks+1 }→wpAny (model X.prog X.w) X.A (f (.int i t) (.int j u)) Q E s) :
  OpR X f (rI0 fun i j=>.int (g i j)):=by
 intro pins s σ H x y v u Q I rx ry h
 obtain⟨i,j,rfl,rfl,q⟩:=h
 obtain⟨t,rfl⟩:=rx
 obtain⟨t',rfl⟩:=ry
 exact rule i j t t' s _ _ ⟨.int (g i j),H,I.tok _,⟨_,rfl⟩,q⟩
theorem IH{f:Value→Value→Sem Value}{g:Int→Int→Bool}
  (rule:∀(i j:Int) (t u:Tok) (s:Shared) (Q:Value→Shared→Prop) (E:Value→Shared→Prop),Q (.bool (g i j)) s→wpAny (model X.prog X.w) X.A (f (.int i t) (.int j u)) Q E s) :
  OpR X f (rI0 fun i j=>.bl (g i j)):=by
 intro pins s σ H x y v u Q I rx ry h
 obtain⟨i,j,rfl,rfl,q⟩:=h
 obtain⟨t,rfl⟩:=rx
 obtain⟨t',rfl⟩:=ry
 exact rule i j t t' s _ _ ⟨.bl (g i j),H,I,rfl,q⟩
def sG(i j:Int):Prop:=0≤j∧j≤1000000∧i.natAbs<2 ^ 64
theorem IG:OpR X (binaryOp .Add) (rI0 fun i j=>.int (i+j)):=Lz fun _ _ _ _ _ _ _ q=>add_int q
theorem ID:OpR X (binaryOp .Sub) (rI0 fun i j=>.int (i - j)):=Lz fun _ _ _ _ _ _ _ q=>sub_int q
theorem IF:OpR X (binaryOp .Mod) (rI (fun _ j=>0<j) fun i j=>.int (i % j)):=opI fun i j _ _ _ _ _ hc q=>by
 have h1:(0:Int)<j:=hc
 exact mod_int' (by omega) (by rw[Int.fmod_eq_emod_of_nonneg i (by omega)];exact q)
theorem IE:OpR X (binaryOp .Pow) (rI sG fun i j=>.int (i ^ j.toNat)):=opI fun _ _ _ _ _ _ _ hc q=>pow_int_small hc.1 hc.2.1 hc.2.2 q
theorem unI{f:Value→Sem Value}{g:Int→Int}
  (rule:∀(i:Int) (t:Tok) (s:Shared) (Q:Value→Shared→Prop) (E:Value→Shared→Prop),Q (.int (g i) s.toks) { s with toks:=s.toks+1 }→wpAny (model X.prog X.w) X.A (f (.int i t)) Q E s) :
  UnR X f (rU fun i=>.int (g i)):=by
 intro pins s σ H x v Q I rx h
 obtain⟨i,rfl,q⟩:=h
 obtain⟨t,rfl⟩:=rx
 exact rule i t s _ _ ⟨.int (g i),H,I.tok _,⟨_,rfl⟩,q⟩
theorem Hz:UnR X (unaryOp .USub) (rU fun i=>.int (-i)):=unI fun _ _ _ _ _ q=>neg_int q
end
noncomputable def Lg:V→V→Bool
 | .non,.non=>true|.non,.int _=>true|.int _,.non=>true|.non,.bl _=>true|.bl _,.non=>true|.non,.str _=>true|.str _,.non=>true
 | .int _,.int _=>true|.bl _,.bl _=>true|.str _,.str _=>true|.byt _,.byt _=>true
 | .int _,.str _=>true|.str _,.int _=>true|.bl _,.str _=>true|.str _,.bl _=>true
 | _,_=>false
def rEq:R2:=fun x y H Q=>Lg x y=true∧Q (.bl (decide (x=y))) H
def rNe:R2:=fun x y H Q=>Lg x y=true∧Q (.bl (!decide (x=y))) H
theorem wF{i j:Int}:decide (V.int i=V.int j)=(i == j):=by
 rw[Ud]
 simp
theorem BS{i j:Bool}:decide (V.bl i=V.bl j)=(i == j):=by
 rw[Ud]
 simp
theorem wD{i j:Str}:decide (V.str i=V.str j)=(i == j):=by
 rw[Ud]
 simp
theorem wG{i j:Array UInt8}:decide (V.byt i=V.byt j)=(i.toList == j.toList):=by
 rw[Ud]
 cases i
 cases j
 simp
section
variable {X:Cx} {a b c:Expr} {ta tb tc:TE} {pos:Pos}
theorem v9{pins:List (Addr × Obj)}{σ:St}{H:Hp}{s:Shared}{Q:VK}{k k':Bool}(I:Inv X pins σ H s)(q:Q (.bl k) H)(e:k=k'):EP X pins σ Q (.bool k') s:=by
 subst e
 exact⟨.bl k,H,I,rfl,q⟩
theorem GC:OpR X (compareOp .Eq) rEq:=by
 intro pins s σ H x y v u Q I rx ry h
 obtain⟨hs,q⟩:=h
 cases x with
 | non =>
  cases rx
  cases y with
  | non=>cases ry;exact PySem.EqNone.eq_none_none (v9 I q (by simp))
  | bl j=>cases ry;exact PySem.EqNone.eq_none_bool (v9 I q (by simp))
  | int j=>obtain⟨t',rfl⟩:=ry;exact PySem.EqNone.eq_none_int (v9 I q (by simp))
  | str j=>obtain⟨t',rfl⟩:=ry;exact PySem.EqNone.eq_none_str (v9 I q (by simp))
  | _=>exact absurd (show false=true from hs) RF
 | bl i =>
  cases rx
  cases y with
  | non=>cases ry;exact PySem.EqNone.eq_bool_none (v9 I q (by simp))
  | bl j=>cases ry;exact eq_bool (v9 I q BS)
  | str j=>obtain⟨t',rfl⟩:=ry;exact PySem.EqMixed.eq_bool_str (v9 I q (by simp))
  | _=>exact absurd (show false=true from hs) RF
 | int i =>
  obtain⟨t,rfl⟩:=rx
  cases y with
  | non=>cases ry;exact PySem.EqNone.eq_int_none (v9 I q (by simp))
  | int j=>obtain⟨t',rfl⟩:=ry;exact eq_int (v9 I q wF)
  | str j=>obtain⟨t',rfl⟩:=ry;exact PySem.EqMixed.eq_int_str (v9 I q (by simp))
  | _=>exact absurd (show false=true from hs) RF
 | str i =>
  obtain⟨t,rfl⟩:=rx
  cases y with
  | non=>cases ry;exact PySem.EqNone.eq_str_none (v9 I q (by simp))
  | bl j=>cases ry;exact PySem.EqMixed.eq_str_bool (v9 I q (by simp))
  | int j=>obtain⟨t',rfl⟩:=ry;exact PySem.EqMixed.eq_str_int (v9 I q (by simp))
  | str j=>obtain⟨t',rfl⟩:=ry;exact eq_str (v9 I q wD)
  | _=>exact absurd (show false=true from hs) RF
 | byt i =>
  obtain⟨t,rfl⟩:=rx
  cases y with
  | byt j=>obtain⟨t',rfl⟩:=ry;exact PySem.W.eq_bytes (v9 I q wG)
  | _=>exact absurd (show false=true from hs) RF
 | _=>cases y<;>exact absurd (show false=true from hs) RF
theorem GB:OpR X (compareOp .NotEq) rNe:=by
 intro pins s σ H x y v u Q I rx ry h
 obtain⟨hs,q⟩:=h
 cases x with
 | non =>
  cases rx
  cases y with
  | non=>cases ry;exact PySem.EqNone.ne_none_none (v9 I q (by simp))
  | bl j=>cases ry;exact PySem.EqNone.ne_none_bool (v9 I q (by simp))
  | int j=>obtain⟨t',rfl⟩:=ry;exact PySem.EqNone.ne_none_int (v9 I q (by simp))
  | str j=>obtain⟨t',rfl⟩:=ry;exact PySem.EqNone.ne_none_str (v9 I q (by simp))
  | _=>exact absurd (show false=true from hs) RF
 | bl i =>
  cases rx
  cases y with
  | non=>cases ry;exact PySem.EqNone.ne_bool_none (v9 I q (by simp))
  | bl j=>cases ry;exact ne_bool (v9 I q (congrArg not BS))
  | str j=>obtain⟨t',rfl⟩:=ry;exact PySem.EqMixed.ne_bool_str (v9 I q (by simp))
  | _=>exact absurd (show false=true from hs) RF
 | int i =>
  obtain⟨t,rfl⟩:=rx
  cases y with
  | non=>cases ry;exact PySem.EqNone.ne_int_none (v9 I q (by simp))
  | int j=>obtain⟨t',rfl⟩:=ry;exact ne_int (v9 I q (congrArg not wF))
  | str j=>obtain⟨t',rfl⟩:=ry;exact PySem.EqMixed.ne_int_str (v9 I q (by simp))
  | _=>exact absurd (show false=true from hs) RF
 | str i =>
  obtain⟨t,rfl⟩:=rx
  cases y with
  | non=>cases ry;exact PySem.EqNone.ne_str_none (v9 I q (by simp))
  | bl j=>cases ry;exact PySem.EqMixed.ne_str_bool (v9 I q (by simp))
  | int j=>obtain⟨t',rfl⟩:=ry;exact PySem.EqMixed.ne_str_int (v9 I q (by simp))
  | str j=>obtain⟨t',rfl⟩:=ry;exact ne_str (v9 I q (congrArg not wD))
  | _=>exact absurd (show false=true from hs) RF
 | byt i =>
  obtain⟨t,rfl⟩:=rx
  cases y with
  | byt j=>obtain⟨t',rfl⟩:=ry;exact PySem.W.ne_bytes (v9 I q (congrArg not wG))
  | _=>exact absurd (show false=true from hs) RF
 | _=>cases y<;>exact absurd (show false=true from hs) RF
theorem Lw:OpR X (compareOp .Lt) (rI0 fun i j=>.bl (decide (i<j))):=IH fun _ _ _ _ _ _ _ q=>lt_int q
theorem Lx:OpR X (compareOp .LtE) (rI0 fun i j=>.bl (decide (i≤j))):=IH fun _ _ _ _ _ _ _ q=>le_int q
theorem Ly:OpR X (compareOp .Gt) (rI0 fun i j=>.bl (decide (j<i))):=IH fun _ _ _ _ _ _ _ q=>gt_int q
theorem OpR.or{f:Value→Value→Sem Value}{r r':R2}(h:OpR X f r)(h':OpR X f r'):OpR X f (fun x y H Q=>r x y H Q∨r' x y H Q):=by
 intro pins s σ H x y v u Q I rx ry q
 rcases q with q|q
 ·exact h pins s σ H x y v u Q I rx ry q
 ·exact h' pins s σ H x y v u Q I rx ry q
theorem AY(b:Expr){op:CmpOp}(h:op ≠ .In:=by decide)(h2:op ≠ .NotIn:=by decide):behindInMarks op b=false:=by
 have e1:(op == CmpOp.In)=false:=by cases op<;>first|rfl|exact absurd rfl h
 have e2:(op == CmpOp.NotIn)=false:=by cases op<;>first|rfl|exact absurd rfl h2
 cases b<;>simp[behindInMarks,e1,e2]
theorem Es{op:CmpOp}{r:R2}(ho:OpR X (compareOp op) r)(ha:PE X a ta)(hb:PE X b tb)(hm:behindInMarks op b=false):PE X (.Compare a [op] [b] pos) (tOp r ta tb):=by
 intro pins s σ H Q I h
 exact wpAny_Compare1 (Jx ha hb I h fun v u s2 x y H2 I2 rx ry q=>ho pins s2 σ H2 x y v u Q I2 rx ry q) hm
def KR(t:TE):TT:=fun σ H Q=>t σ H fun x H'=>∃ k,x = .bl k∧Q k H'
theorem Eb{op:CmpOp}{r:R2}(ho:OpR X (compareOp op) r)(ha:PE X a ta)(hb:PE X b tb)(hm:behindInMarks op b=false):PT X (.Compare a [op] [b] pos) (KR (tOp r ta tb)):=by
 intro pins s σ H Q I h
 refine wpAny_isTrue_Compare1 (thn (ha pins s σ H _ I h) fun v s1 ⟨x,H1,I1,r1,q1⟩=>thn (hb pins s1 σ H1 _ I1 q1) fun u s2 ⟨y,H2,I2,r2,q2⟩ =>
  thn (ho pins s2 σ H2 x y v u _ I2 r1 r2 q2) fun c s3 ⟨z,H3,I3,r3,k,e,q3⟩=>?_) hm
 subst e
 cases r3
 exact wpAny_truthy_bool ⟨H3,I3,q3⟩
theorem oO:(sizeLine:Nat)<2 ^ 63:=by rw[sizeLine_eq];decide
theorem Y8{x:V}{us:List Value}(r:p0 [x] us):∃ u,us=[u]∧u6 x u:=by
 cases r with
 | cons r1 r2=>cases r2;exact⟨_,rfl,r1⟩
theorem zK{x y:V}{us:List Value}(r:p0 [x,y] us):∃ u w',us=[u,w']∧u6 x u∧u6 y w':=by
 cases r with
 | cons r1 r2 =>
  cases r2 with
  | cons r3 r4=>cases r4;exact⟨_,_,rfl,r1,r3⟩
theorem Cd:E5 X (.builtin "abs") (fun xs H Q=>∃ i,xs=[.int i]∧Q (.int (if i<0 then -i else i)) H):=by
 intro pins s σ H xs us Q I r h
 obtain⟨i,rfl,q⟩:=h
 obtain⟨u,rfl,t,rfl⟩:=Y8 r
 exact call_abs_int fun u tk=>⟨.int (if i<0 then -i else i),H,I.tok _,⟨_,rfl⟩,q⟩
theorem ye(hc:X.calm=true):E5 X (.builtin "max") (fun xs H Q=>∃ i j,xs=[.int i,.int j]∧Q (.int (if j > i then j else i)) H):=by
 intro pins s σ H xs us Q I r h
 obtain⟨i,j,rfl,q⟩:=h
 obtain⟨u,w',rfl,⟨t,rfl⟩,⟨t',rfl⟩⟩:=zK r
 refine max_two_ints (I.ok.hd hc) fun h' tk k=>⟨_,H,I.kept k,?_,q⟩
 by_cases hj:j > i
 ·rw[if_pos hj,if_pos hj];exact⟨_,rfl⟩
 ·rw[if_neg hj,if_neg hj];exact⟨_,rfl⟩
end
structure JH(h:Heap)(x dx C:Addr)(mA:Str→Option Value):Prop where
 obj:h.get? x=some (PySem.W.instObj C dx)
 ns:h.Ns1 dx mA
 ne:dx≠x
theorem xM{h:Heap}{dx:Addr}{mA:Str→Option Value}(n:h.Ns1 dx mA):∃ od,h.get? dx=some od∧∀ name,PySem.W.lookIn name od=some (mA name):=by
 obtain⟨o,es,ep,ho,hd,hk,_,hm⟩:=n
 refine⟨o,ho,fun name=>?_⟩
 have e:=hm name
 unfold nsFind findBy at e
 rw[← Array.find?_toList]at e
 unfold PySem.W.lookIn
 rw[hd]
 dsimp only
 split
 ·rename_i y q
  rw[q]at e
  exact congrArg some e
 ·rename_i q
  rw[q]at e
  have a:es.toList.any (·.refKey)=false:=by
   rw[Tp]
   intro y hy
   obtain⟨z,t,hkey⟩:=hk y (Array.mem_toList_iff.mp hy)
   simp[DictEntry.refKey,hkey]
  have a':¬ es.toList.any (·.refKey)=true:=by rw[a];exact RF
  rw[if_neg a']
  exact congrArg some e
theorem JH.look{h:Heap}{x dx C:Addr}{mA:Str→Option Value}(I:JH h x dx C mA):∃ od,PySem.W.InstAt h x (PySem.W.instObj C dx) C (some od)∧∀ name,PySem.W.lookIn name od=some (mA name) :=
 let ⟨od,ho,hl⟩:=xM I.ns
 ⟨od,⟨I.obj,rfl,rfl,ho⟩,hl⟩
section
variable {prog:Program} {w:World} {A:Around} {E:Value→Shared→Prop} {s:Shared} {K:Ra} {x dx C f:Addr} {mA:Str→Option Value} {name:Str} {v:Value}
end
section
variable {P:Program} {w:World} {H H':Hp} {h h':Heap} {a C dx:Addr} {fs fs':List (Str × V)}
theorem ET(hok:HOk P w H h)(e:H a=some (.ins C dx fs)):∃ mA,JH h a dx C mA∧(∀ f,JF (fs.lookup f) (mA f))∧PySem.Within mA (fs.map (·.1))∧fs.length≤1000∧H dx=some (.own a):=by
 obtain⟨d,z,ne,ob,mA,n,r,q⟩:=(show E4 P w H h a (.ins C dx fs)from hok a _ e)
 exact⟨mA,⟨ob,n,ne⟩,r,q,z,d⟩
end
structure Cls(K:Ra)(C:Addr):Prop where
 pg:PySem.W.plainGet K C Str.empty=true
 hd:PySem.W.hasDictIn K C=true
 po:PySem.W.plainOver K C=true
 sa:PySem.W.findIn K (.ref C) "__setattr__" = some (some (.builtin "object.__setattr__"))
theorem Cls.get{K:Ra}{C:Addr}(c:Cls K C)(f:Str):PySem.W.plainGet K C f=true:=c.pg
section
variable {X:Cx} {pins:List (Addr × Obj)} {σ:St} {H:Hp} {s:Shared} {a C dx:Addr} {fs:List (Str × V)} {f:Str} {v:V} {A:Around} {E:Value→Shared→Prop}
end
section
variable {X:Cx} {o e value:Expr} {f:Str} {pos pos' tpos:Pos} {ta tv:TE}
end
section
variable {X:Cx} {pins:List (Addr × Obj)} {σ:St} {H:Hp} {s:Shared} {A:Around} {E:Value→Shared→Prop} {Q:Value→Shared→Prop} {c:Value} {b:Bool}
inductive fX (K:Ra) (H:Hp):V→Value→Prop where
 | non:fX K H .non (.type "NoneType")
 | bl (x:Bool):fX K H (.bl x) (.type "bool")
 | int (i:Int):fX K H (.int i) (.type "int")
 | str (x:Str):fX K H (.str x) (.type "str")
 | flt (x:UInt64):fX K H (.flt x) (.type "float")
 | lst {a:Addr} {xs:List V} (e:H a=some (.lst xs)):fX K H (.ref a) (.type "list")
 | frz {a:Addr} {o:Obj} {xs:List V} (e:H a=some (.frz o (.lst xs))):fX K H (.ref a) (.type "list")
 | tup {a:Addr} {xs:List V} (e:H a=some (.tup xs)):fX K H (.ref a) (.type "tuple")
 | dK {a:Addr} {kvs:List (Key × V)} (e:H a=some (.dK kvs)):fX K H (.ref a) (.type "dict")
 | dT {a:Addr} {kvs:List (List Key × V)} (e:H a=some (.dT kvs)):fX K H (.ref a) (.type "dict")
 | ins {a C dx:Addr} {fs:List (Str × V)} (e:H a=some (.ins C dx fs)) (cl:Cls K C) (ha:PySem.W.findIn K (.ref C) "__class__" = some (some (.builtin "object.__class__")))
   (hn:PySem.W.specialIn K (.builtin "object.__class__") "__get__" = some (some (.builtin "getset_descriptor.__get__"))) (htk:PySem.W.takesIn K (.builtin "object.__class__")=some true)
   (hm:PySem.W.mroIn K C (.type "object")=some true):fX K H (.ref a) (.ref C)
theorem T9{x:V}{u t:Value}(I:Inv X pins σ H s)(rx:u6 x u)(ty:fX X.K H x t)(e:PySem.W.kitOne X.K t c=some b)(h:∀ tk,Q (.bool b) { s with toks:=tk }) :
  wpAny (model X.prog X.w) A (call (.builtin "isinstance") [u,c]) Q E s:=by
 cases ty with
 | non=>cases(show u=Value.none from rx);exact PySem.W.kia_one PySem.W.kitx_none I.kIn True.intro e (fun z=>nomatch z) h
 | bl y=>cases(show u=Value.bool y from rx);exact PySem.W.kia_one PySem.W.kitx_bool I.kIn True.intro e (fun z=>nomatch z) h
 | int i=>obtain⟨t,q⟩:=(show ∃ t,u=Value.int i t from rx);cases q;exact PySem.W.kia_one PySem.W.kitx_int I.kIn True.intro e (fun z=>nomatch z) h
 | str y=>obtain⟨t,q⟩:=(show ∃ t,u=Value.str y t from rx);cases q;exact PySem.W.kia_one PySem.W.kitx_str I.kIn True.intro e (fun z=>nomatch z) h
 | flt y=>obtain⟨t,q⟩:=(show ∃ t,u=Value.float y t from rx);cases q;exact PySem.W.kia_one PySem.W.kitx_float I.kIn True.intro e (fun z=>nomatch z) h
 | @lst a xs ea =>
  cases(show u=Value.ref a from rx)
  obtain⟨_,_,n,_,h1⟩:=(show E4 X.prog X.w H s.heap a (.lst xs)from I.hok a _ ea)
  exact PySem.W.kia_one PySem.W.kitx_list I.kIn ⟨_,h1,rfl⟩ e (fun z=>nomatch z) h
 | @frz a ob xs ea =>
  cases(show u=Value.ref a from rx)
  obtain⟨_,_,_,n,_,h1⟩:=(show E4 X.prog X.w H s.heap a (.frz ob (.lst xs))from I.hok a _ ea)
  exact PySem.W.kia_one PySem.W.kitx_list I.kIn ⟨_,h1,rfl⟩ e (fun z=>nomatch z) h
 | @tup a xs ea =>
  cases(show u=Value.ref a from rx)
  obtain⟨_,_,_,p⟩:=(show E4 X.prog X.w H s.heap a (.tup xs)from I.hok a _ ea)
  obtain⟨o,h1,h2,_⟩:=p
  exact PySem.W.kia_one PySem.W.kitx_tuple I.kIn ⟨o,h1,h2⟩ e (fun z=>nomatch z) h
 | @dK a kvs ea =>
  cases(show u=Value.ref a from rx)
  obtain⟨_,_,vs,_,p⟩:=(show E4 X.prog X.w H s.heap a (.dK kvs)from I.hok a _ ea)
  obtain⟨o,es,ep,h1,h2,_⟩:=p
  exact PySem.W.kia_one PySem.W.kitx_dict I.kIn ⟨o,h1,h2.1⟩ e (fun z=>nomatch z) h
 | @dT a kvs ea =>
  cases(show u=Value.ref a from rx)
  obtain⟨_,_,xs,_,o,es,ep,h1,h2,_⟩:=(show E4 X.prog X.w H s.heap a (.dT kvs)from I.hok a _ ea)
  exact PySem.W.kia_one PySem.W.kitx_dict I.kIn ⟨o,h1,h2.1⟩ e (fun z=>nomatch z) h
 | @ins a C dx fs ea cl ha hn htk hm =>
  cases(show u=Value.ref a from rx)
  obtain⟨mA,O,_⟩:=ET I.hok ea
  obtain⟨od,J,_⟩:=O.look
  exact PySem.W.kia_one (PySem.W.kitx_own (cl.get _) cl.hd ha hn htk hm) I.kIn J e (fun z=>nomatch z) h
end
structure M8(k:Nat)(A:Around):Prop where
 hd:A.handled=none
 dp:A.depth+3*k+5<recursionLimit
 un:A.units+16*k+200<cLine
theorem M8.mono{j k:Nat}{A:Around}(r:M8 k A)(h:j≤k):M8 j A:=⟨r.hd,by have:=r.dp;omega,by have:=r.un;omega⟩
theorem M8.deeper{k:Nat}{A:Around}(r:M8 (k+1) A)(env:Env):M8 k (A.deeper env) :=
 ⟨r.hd,by have:=r.dp;show A.depth+1+3*k+5<_;omega,by have:=r.un;show A.units+3+16*k+200<_;omega⟩
theorem M8.in1{k:Nat}{A:Around}(r:M8 (k+1) A):M8 k A.in1 :=
 ⟨r.hd,by have:=r.dp;show A.depth+3*k+5<_;omega,by have:=r.un;show A.units+1+16*k+200<_;omega⟩
theorem M8.depth{k:Nat}{A:Around}(r:M8 k A):A.depth<recursionLimit:=by have:=r.dp;omega
theorem M8.units{k:Nat}{A:Around}(r:M8 k A):A.units+64<cLine:=by have:=r.un;omega
def MQ:TA:=fun _ H Q=>Q [] H
def Lc(ta:TE)(tr:TA):TA:=fun σ H Q=>ta σ H fun x H1=>tr σ H1 fun xs H2=>Q (x :: xs) H2
section
variable {X:Cx} {e:Expr} {es:List Expr} {te:TE} {t:TA} {pos:Pos}
theorem ou:PA X [] MQ:=fun _ _ _ _ H Q I h=>Calls.spliced_nil ⟨[],H,I,.nil,h⟩
theorem gH(ha:PE X e te)(hr:PA X es t)(hs:starEach (e :: es) X.env=(false,eval e X.env) :: starEach es X.env:=by rfl):PA X (e :: es) (Lc te t):=by
 intro pos pins s σ H Q I h
 rw[hs]
 show wpAny _ _ (spliced ((false,eval e X.env) :: backTo pos (starEach es X.env))) _ _ s
 refine Calls.spliced_cons (thn (ha pins s σ H _ I h) fun u s1 zz=>?_)
 obtain⟨x,H1,I1,r1,q1⟩:=zz
 exact thn (hr pos pins s1 σ H1 _ I1 q1) fun us s2 ⟨xs,H2,I2,r2,q2⟩=>⟨x :: xs,H2,I2,.cons r1 r2,q2⟩
def MI(t:TA):TE:=fun σ H Q=>t σ H fun xs H1=>xs.length≤sizeLine∧∀ p,H1 p=none→Q (.ref p) (upd H1 p (.tup xs))
def MR(t:TA):TE:=fun σ H Q=>t σ H fun xs H1=>xs.length≤sizeLine∧∀ p,H1 p=none→Q (.ref p) (upd H1 p (.lst xs))
theorem Ir{x1}(h:PA X es t):PE X (.Tuple es x1 pos) (MI t):=by
 intro pins s σ H Q I hq
 refine wpAny_Tuple_spliced (thn (h pos pins s σ H _ I hq) fun us s1 ⟨xs,H1,I1,r,z,q⟩=>⟨by rw[← r.length];exact z,?_⟩)
 have hf:H1 s1.heap.objs.size=none:=I1.hok.fresh (Rx _)
 refine⟨.ref s1.heap.objs.size,upd H1 s1.heap.objs.size (.tup xs),I1.laid (t':=s1.toks) (fun b u e=>Rf _ e) (Rx _) ?_,rfl,q _ hf⟩
 exact⟨z,us,r,⟨_,Rp _ rfl,rfl,_,rfl⟩⟩
theorem AH(h:PA X es t):PE X (.List es pos) (MR t):=by
 intro pins s σ H Q I hq
 refine wpAny_List_spliced (thn (h pos pins s σ H _ I hq) fun us s1 ⟨xs,H1,I1,r,z,q⟩=>⟨by rw[← r.length];exact z,?_⟩)
 have hf:H1 s1.heap.objs.size=none:=I1.hok.fresh (Rx _)
 refine⟨.ref s1.heap.objs.size,upd H1 s1.heap.objs.size (.lst xs),I1.laid (t':=s1.toks) (fun b u e=>Rf _ e) (Rx _) ?_,rfl,q _ hf⟩
 exact⟨z,us,0,r,Rp _ rfl⟩
end
noncomputable abbrev Sp:=List V→Hp→VK→XK→Prop
noncomputable abbrev CXT:=List Env→Hp→Shared→XK→Value→Shared→Prop
structure uD(P:Program)(w:World)(K:Ra)(mg:Str→Option Value)(base:Heap)(A:Around)(outer:List Env)(s:Shared)(H:Hp):Prop where
 frames:A.frames=some outer
 mod:Mod K mg base
 bs:∀ b o,base.get? b=some o→s.heap.get? b=some o∧H b=none
 bsz:base.objs.size≤s.heap.objs.size
 funs:s.heap.FunFrames base outer
 frf:∀ b∈frs outer,H b=none
 hok:HOk P w H s.heap
 bare:AllBare s.gens
def CE(outer:List Env)(P:Program)(w:World)(H:Hp)(s:Shared)(Q:VK)(u:Value)(s':Shared):Prop :=
 ∃ v H',s'.os=s.os∧AllBare s'.gens∧Un (frs outer) [] H H' s.heap s'.heap∧HOk P w H' s'.heap∧u6 v u∧Q v H'
def CR(CX:CXT)(outer:List Env)(P:Program)(w:World)(H:Hp)(s:Shared)(Q:VK)(E:XK)(r:Result)(s':Shared):Prop :=
 match r with
 | .ok (.ret u)=>CE outer P w H s Q u s'
 | .ok _=>False
 | .error e=>CX outer H s E e s'
structure Y6(P:Program)(w:World)(K:Ra)(mg:Str→Option Value)(base:Heap)(CX:CXT)(k:Nat)(f:Addr)(fd:FuncData)(ps:List Str)(sp:Sp):Prop where
 len:∀ vs H Q E,sp vs H Q E→vs.length=ps.length
 run:∀(A:Around) (outer:List Env) (s:Shared) (H:Hp) (args:Args) (us:List Value) (vs:List V) (Q:VK) (E:XK),M8 k A→uD P w K mg base A outer s H→BindsTo s fd args (ps.zip us)→p0 vs us→sp vs H Q E →
  codeAny (model P w) A (.call (.ref f) args) (CR CX outer P w H s Q E) s
theorem Y6.mono{P:Program}{w:World}{K:Ra}{mg:Str→Option Value}{base:Heap}{CX:CXT}{j k:Nat}{f:Addr}{fd:FuncData}{ps:List Str}{sp:Sp}(F:Y6 P w K mg base CX j f fd ps sp)(h:j≤k) :
  Y6 P w K mg base CX k f fd ps sp:=⟨F.len,fun A outer s H args us vs Q E hr=>F.run A outer s H args us vs Q E (hr.mono h)⟩
theorem Y6.imp{P:Program}{w:World}{K:Ra}{mg:Str→Option Value}{base:Heap}{CX:CXT}{k:Nat}{f:Addr}{fd:FuncData}{ps:List Str}{sp sp':Sp}(F:Y6 P w K mg base CX k f fd ps sp)
  (h:∀ vs H Q E,sp' vs H Q E→sp vs H Q E):Y6 P w K mg base CX k f fd ps sp' :=
 ⟨fun vs H Q E q=>F.len vs H Q E (h _ _ _ _ q),fun A outer s H args us vs Q E hr he hb hv hs=>F.run A outer s H args us vs Q E hr he hb hv (h _ _ _ _ hs)⟩
theorem uD.in1{P:Program}{w:World}{K:Ra}{mg:Str→Option Value}{base:Heap}{A:Around}{outer:List Env}{s:Shared}{H:Hp}(e:uD P w K mg base A outer s H) :
  uD P w K mg base A.in1 outer s H:=⟨e.frames,e.mod,e.bs,e.bsz,e.funs,e.frf,e.hok,e.bare⟩
section
variable {X:Cx} {pins:List (Addr × Obj)} {σ:St} {H:Hp} {s s':Shared}
theorem Inv.env0(I:Inv X pins σ H s):uD X.prog X.w X.K X.mg X.base X.A X.stack s H :=
 ⟨I.ok.frames,I.ok.mod,I.bs,Ro I.ok.bsz I.sz,I.stack,I.stkFree,I.hok,I.bare⟩
theorem Inv.after{Q:VK}{u:Value}(I:Inv X pins σ H s)(h:CE X.stack X.prog X.w H s Q u s'):EP X pins σ Q u s':=by
 obtain⟨v,H',os,bare,un,hok,r,q⟩:=h
 obtain⟨hh,g,d,t,os'⟩:=s'
 obtain rfl:os'=s.os:=os
 exact⟨v,H',I.call (h':=hh) (g':=g) (d':=d) (t':=t) (ch:=[]) un hok bare (fun b z=>absurd z (by simp)),r,q⟩
end
def Ld(sp:Sp)(dvs:List V)(E:XK)(t:TA):TE:=fun σ H Q=>t σ H fun vs H1=>sp (vs++dvs) H1 Q E
def jP(K:Ra)(fd:FuncData)(ps:List Str)(ds:List Value):Prop :=
 ∀(s:Shared) (us:List Value),K.In s.heap→(us++ds).length=ps.length→BindsTo s fd ⟨us,[]⟩ (ps.zip (us++ds))
theorem jP.all{K:Ra}{fd:FuncData}{ps:List Str}(h:∀ us:List Value,us.length=ps.length→bindArgs fd ⟨us,[]⟩=pure (ps.zip us)):jP K fd ps []:=fun s us _ hl=>by
 rw[SE]at hl ⊢
 exact .of_eq (h us hl)
def pA(CX:CXT)(X:Cx)(E:XK):Prop:=∀(pins:List (Addr × Obj)) (σ:St) (H:Hp) (s:Shared) (e:Value) (s':Shared),Inv X pins σ H s→CX X.stack H s E e s'→X.xe e s'
section
variable {X:Cx} {CX:CXT} {k:Nat} {f C:Addr} {fd:FuncData} {ps:List Str} {sp:Sp} {dvs:List V} {ds:List Value} {E:XK} {x m:Str} {p pos apos:Pos} {e o:Expr} {es:List Expr} {ta:TE} {t:TA}
theorem HR{pins:List (Addr × Obj)}{σ:St}{H:Hp}{s:Shared}{Q:VK}{us:List Value}{vs:List V}(F:Y6 X.prog X.w X.K X.mg X.base CX k f fd ps sp)(hr:M8 k X.A)(hb:jP X.K fd ps ds)(hd:p0 dvs ds)(hx:pA CX X E)
  (I:Inv X pins σ H s) (r:p0 vs us) (h:sp (vs++dvs) H Q E):wpAny (model X.prog X.w) X.A (call (.ref f) us) (EP X pins σ Q) X.xe s:=by
 have r2:p0 (vs++dvs) (us++ds):=r.append hd
 have hl:(us++ds).length=ps.length:=by rw[← r2.length];exact F.len _ _ _ _ h
 refine wpAny_call (codeAny_mono (F.run X.A X.stack s H ⟨us,[]⟩ (us++ds) (vs++dvs) Q E hr I.env0 (hb s us I.kIn hl) r2 h) fun r s' hq=>?_)
 cases r with
 | error e=>exact hx pins σ H s e s' I hq
 | ok fl =>
  cases fl with
  | ret u=>exact I.after hq
  | next=>exact False.elim hq
  | brk=>exact False.elim hq
  | cont=>exact False.elim hq
theorem Et(F:Y6 X.prog X.w X.K X.mg X.base CX k f fd ps sp)(hr:M8 k X.A)(hg:Gl X x)(hm:X.mg x=some (.ref f))(hk:PySem.W.keepIn X.K (.ref f)=true)(hb:jP X.K fd ps ds)(hd:p0 dvs ds)(hx:pA CX X E)
  (ha:PA X (e :: es) t) (hdb:(x == ("__debug__" : Str))=false:=by decide) (he:starEach (e :: es) X.env=(false,eval e X.env) :: starEach es X.env:=by rfl) (hpl:(backTo pos (starEach es X.env)).any (·.1)=false:=by rfl) :
  PE X (.Call (.Name x p) (e :: es) [] pos) (Ld sp dvs E t):=by
 intro pins s σ H Q I h
 refine wpAny_Call_Name_kw (wc I hg hm ?_ hdb)
 refine PySem.W.callWith_K (h₀:=X.base) I.ok.mod.kin hk (thn (ha pos pins s σ H _ I h) fun us s1 ⟨vs,H1,I1,r,q⟩=>⟨I1.kIn,?_⟩) he hpl
 exact HR F hr hb hd hx I1 r q
end
section
variable {X:Cx} {CX:CXT} {k:Nat} {f C:Addr} {fd:FuncData} {ps ks:List Str} {sp:Sp} {E:XK} {x m:Str} {p pos apos kpos:Pos} {e o:Expr} {es:List Expr} {kws:List Keyword} {te ta:TE} {t tk:TA} {nm:Option Str}
variable {g:List Value→List Value→List Value} {gV:List V→List V→List V}
end
structure f8(N P:List Str)(sc:Scope):Prop where
 kind:sc.kind = .function
 co:sc.isCoroutine=false
 gen:sc.isGenerator=false
 nd:N.Nodup
 pre:N.take P.length=P
 par:∀ x∈P,sc.names.lookup x=some .local∨sc.names.lookup x=some .cell
 nofree:∀ y∈sc.names,y.2 ≠ .free
theorem mP{kindOf:Str→Option NameKind}{x:Str}:∀{binds:List (Str × Value)} {m:Str→Option Value},(∀ v,(x,v)∉binds)→bindL kindOf binds m x=m x
 | [],_,_=>rfl
 | (n,v) :: r,m,h=>by
  unfold bindL
  rw[mP fun w hw=>h w (RH _ hw)]
  split
  ·have:x≠n:=by rintro rfl;exact h v RX
   simp[this]
  ·rfl
theorem mR{kindOf:Str→Option NameKind}{x:Str}:∀{binds:List (Str × Value)} {m:Str→Option Value},(∀ v,(x,v)∉binds)→bindC kindOf binds m x=m x
 | [],_,_=>rfl
 | (n,v) :: r,m,h=>by
  unfold bindC
  rw[mR fun w hw=>h w (RH _ hw)]
  split
  ·rfl
  ·have:x≠n:=by rintro rfl;exact h v RX
   simp[this]
theorem mQ{kindOf:Str→Option NameKind}{x:Str}{v:Value}:∀{P:List Str} {vs:List Value} {i:Nat} {m:Str→Option Value},P.Nodup→P[i]? = some x→vs[i]? = some v→kindOf x=some .local →
  bindL kindOf (P.zip vs) m x=some v
 | [],_,_,_,_,h,_,_=>by simp at h
 | _ :: _,[],_,_,_,_,h,_=>by simp at h
 | p :: P,w :: vs,0,m,nd,h1,h2,hk=>by
  simp at h1 h2;subst h1;subst h2
  show bindL kindOf ((p,w) :: P.zip vs) m p=_
  unfold bindL
  rw[mP fun v hv=>(Ue.mp nd).1 (UL hv).1,if_pos hk]
  simp
 | p :: P,w :: vs,i+1,m,nd,h1,h2,hk=>by
  show bindL kindOf ((p,w) :: P.zip vs) m x=_
  unfold bindL
  exact mQ (i:=i) (Ue.mp nd).2 (by simpa using h1) (by simpa using h2) hk
theorem mS{kindOf:Str→Option NameKind}{x:Str}{v:Value}:∀{P:List Str} {vs:List Value} {i:Nat} {m:Str→Option Value},P.Nodup→P[i]? = some x→vs[i]? = some v→kindOf x≠some .local →
  bindC kindOf (P.zip vs) m x=some v
 | [],_,_,_,_,h,_,_=>by simp at h
 | _ :: _,[],_,_,_,_,h,_=>by simp at h
 | p :: P,w :: vs,0,m,nd,h1,h2,hk=>by
  simp at h1 h2;subst h1;subst h2
  show bindC kindOf ((p,w) :: P.zip vs) m p=_
  unfold bindC
  rw[mR fun v hv=>(Ue.mp nd).1 (UL hv).1,if_neg hk]
  simp
 | p :: P,w :: vs,i+1,m,nd,h1,h2,hk=>by
  show bindC kindOf ((p,w) :: P.zip vs) m x=_
  unfold bindC
  exact mS (i:=i) (Ue.mp nd).2 (by simpa using h1) (by simpa using h2) hk
noncomputable def start(N:List Str)(vs:List V):St:=vs.map some++Tf (N.length - vs.length) none
noncomputable def uw(CX:CXT)(P:Program)(w:World)(K:Ra)(mg:Str→Option Value)(base:Heap)(N:List Str)(qual:Str)(scope:Scope)(f:Addr)(cd:Value)(A:Around)(outer:List Env)(s:Shared)(H:Hp)(E:XK):Cx where
 prog:=P
 w:=w
 K:=K
 mg:=mg
 base:=base
 A:=A.deeper (envOfC qual scope s.heap.objs.size f cd)
 N:=N
 s₀:=s
 H₀:=H
 env:=envOfC qual scope s.heap.objs.size f cd
 outer:=outer
 stack:=envOfC qual scope s.heap.objs.size f cd :: outer
 ex:=[]
 calm:=true
 fn:=fun _=>true
 pn:=[]
 xe:=fun e s'=>wpAny (model P w) (A.deeper (envOfC qual scope s.heap.objs.size f cd)) (leaving (envOfC qual scope s.heap.objs.size f cd) e) (fun _ s''=>CX outer H s E e s'') (fun e' s''=>CX outer H s E e' s'') s'
theorem so{sc:Scope}{n:Nat}{x:Str}(h:sc.names.lookup x=some .cell):∃ c,(cellsFrom n sc.names []).lookup x=some c:=by
 have q:=PySem.W.cellsFrom_some sc.names n [] (.inl h)
 exact Option.isSome_iff_exists.mp q
theorem xU{CX:CXT}{P:Program}{w:World}{K:Ra}{mg:Str→Option Value}{base:Heap}{N ps:List Str}{qual:Str}{scope:Scope}{f:Addr}{cd:Value}{A:Around}{outer:List Env}{s s1:Shared}{H:Hp}{E:XK}{us:List Value}{vs:List V}
  (S:f8 N ps scope) (hd:A.handled=none) (e0:uD P w K mg base A outer s H) (hl:vs.length=ps.length) (r:p0 vs us)
  (x:InCallC s s.heap.objs.size (bindL (envOfC qual scope s.heap.objs.size f cd).kindOf (ps.zip us) fun _=>none) (cellsFrom (s.heap.objs.size+1) scope.names []) (bindC (envOfC qual scope s.heap.objs.size f cd).kindOf (ps.zip us) fun _=>none) s1) :
  Inv (uw CX P w K mg base N qual scope f cd A outer s H E) [] (start N vs) H s1:=by
 have hpl:ps.length≤N.length:=by have:=congrArg Vc S.pre;rw[Ss]at this;omega
 obtain⟨h1,tk,rfl,hk⟩:=x.done
 have noA:∀ b:Addr,b∉(uw CX P w K mg base N qual scope f cd A outer s H E).ex:=fun b z=>absurd (show b∈([]:List Addr)from z) (by simp)
 refine⟨⟨e0.mod,S.kind,rfl,rfl,Rx _,fun y z c h1 h2=>?_,fun y hy=>?_,fun y c _ h=>?_,fun _=>hd,Around.frames_deeper e0.frames,.inr ⟨rfl,rfl⟩,fun b z=>absurd z (noA b),e0.bs,e0.bsz,fun b _ _=>noA b,fun b z=>absurd z (noA b),e0.funs,e0.frf⟩,
  rfl,e0.bare,Un.kept hk,⟨_,x.toInCall.ns,fun i y v h1 h2 h3=>?_⟩,fun y c h=>⟨_,x.cell y c h⟩,e0.hok.fresh (Rx _),fun y c h=>?_,fun p hp=>absurd (show p∈([]:List (Addr × Obj))from hp) (by simp),e0.hok.kept hk,?_⟩
 ·exact name_of_addr x.apart (PySem.mem_of_lookup h1) (PySem.mem_of_lookup h2)
 ·have hy:scope.names.lookup y=some .cell∨scope.names.lookup y=some .free:=hy
  rcases hy with hy|hy
  ·exact so hy
  ·exact absurd rfl (S.nofree _ (PySem.mem_of_lookup hy))
 ·exact TK (x.above y c (PySem.mem_of_lookup h))
 ·have hi:i<vs.length:=by
   unfold start at h2
   by_cases hi:i<vs.length
   ·exact hi
   ·rw[Tq (by simpa using hi)]at h2
    rw[SK]at h2
    split at h2<;>cases h2
  have ha:vs[i]? = some v:=by
   unfold start at h2
   rw[Ts (by simpa using hi),Rj]at h2
   cases e:vs[i]? with
   | none=>rw[e]at h2;cases h2
   | some a=>rw[e]at h2;cases h2;rfl
  obtain⟨u,hu,rv⟩:=r.get ha
  have hp:ps[i]? = some y:=by
   rw[← S.pre,List.getElem?_take_of_lt (by omega)];exact h1
  have ndP:ps.Nodup:=by rw[← S.pre];exact S.nd.sublist (List.take_sublist _ _)
  refine⟨u,rv,?_⟩
  rcases S.par y (Rg hp)with k|k
  ·exact .inl ⟨k,mQ ndP hp hu k⟩
  ·obtain⟨c,e⟩:=so (n:=s.heap.objs.size+1) k
   refine .inr ⟨.inl k,c,e,?_⟩
   have q:=x.cell y c e
   rw[mS ndP hp hu (by show scope.names.lookup y≠_;rw[k];decide)]at q
   exact q
 ·exact e0.hok.fresh (TK (x.above y c (PySem.mem_of_lookup h)))
 ·unfold start
  show _=N.length
  rw[RD,Rh,TL]
  omega
theorem LW{CX:CXT}{P:Program}{w:World}{K:Ra}{mg:Str→Option Value}{base:Heap}{k:Nat}{f:Addr}{name qual:Str}{params:Arguments}{body:List Stmt}{scope:Scope}{dV kV doc pm cdv ct oc:Value}{an od:Option Addr}
  {osl:Array (Option Value)} {N ps:List Str} {sp:Sp} (lk:K.lookup f=some ⟨oc,od,.func (PySem.W.fnOf name qual params body scope dV kV doc pm an cdv ct),osl⟩) (hcd:PySem.W.codeIn K cdv qual=true) (S:f8 N ps scope)
  (len:∀ vs H Q E,sp vs H Q E→vs.length=ps.length)
  (hbody:∀(A:Around) (outer:List Env) (s:Shared) (H:Hp) (vs:List V) (Q:VK) (E:XK),M8 k (A.deeper (envOfC qual scope s.heap.objs.size f cdv))→sp vs H Q E →
   ∃ t,PSs (uw CX P w K mg base N qual scope f cdv A outer s H E) body t∧t { nx:=fun _ H'=>Q .non H',rt:=Q } (start N vs) H) :
  Y6 P w K mg base CX (k+1) f (PySem.W.fnOf name qual params body scope dV kV doc pm an cdv ct) ps sp:=by
 refine⟨len,fun A outer s H args us vs Q E hr e0 hb r hsp=>?_⟩
 have hl:=len _ _ _ _ hsp
 have KX:K.In s.heap:=e0.mod.kin.keeps fun b o e=>(e0.bs b o e).1
 have lim:s.heap.NoLimit:=e0.mod.nolimit.keeps fun b o e=>(e0.bs b o e).1
 have hkind:∀ y∈ps.zip us,scope.names.lookup y.1=some .local∨(scope.names.lookup y.1=some .cell∧((cellsFrom (s.heap.objs.size+1) scope.names []).lookup y.1).isSome=true):=fun⟨n,v⟩ hy=>by
  rcases S.par n (UL hy).1 with q|q
  ·exact .inl q
  ·exact .inr ⟨q,PySem.W.cellsFrom_some _ _ _ (.inl q)⟩
 refine codeAny_call_function hr.depth (KX _ _ lk) rfl S.co S.gen rfl (PySem.W.codeRec_of KX hcd) (hb _ _ _ _ ?_)
 refine wpAny_newFunctionEnv_cells S.kind hkind fun env he s1 x=>?_
 subst he
 refine⟨lim.keeps x.toInCall.keep,codeAny_func ?_⟩
 obtain⟨t,ht,hq⟩:=hbody A outer s H vs Q E (hr.deeper _) hsp
 have I:Inv (uw CX P w K mg base N qual scope f cdv A outer s H E) [] (start N vs) H s1:=xU S hr.hd e0 hl r x
 refine wpAny_mono (ht [] s1 (start N vs) H _ I hq) (fun fl s' hs=>?_) fun e s' hs=>hs
 have fin:∀{σ':St} {H':Hp} {v:V} {u:Value},Inv (uw CX P w K mg base N qual scope f cdv A outer s H E) [] σ' H' s'→u6 v u→Q v H'→CE outer P w H s Q u s' :=
  fun{σ' H' v u} J rv q=>⟨v,H',J.os,J.bare,J.base,J.hok,rv,q⟩
 cases fl with
 | ret u =>
  obtain⟨v,σ',H',J,rv,q⟩:=hs
  exact fin J rv q
 | next =>
  obtain⟨σ',H',J,q⟩:=hs
  exact fin (v:=V.non) (u:=Value.none) J rfl q
 | brk =>
  obtain⟨_,_,_,q⟩:=hs
  exact False.elim q
 | cont =>
  obtain⟨_,_,_,q⟩:=hs
  exact False.elim q
section
variable {X:Cx} {x:Str} {p pos:Pos} {e:Expr} {es:List Expr} {t:TA} {id T:String} {r:List V→Hp→VK→Prop}
def tCB(r:List V→Hp→VK→Prop)(t:TA):TE:=fun σ H Q=>t σ H fun vs H1=>r vs H1 Q
theorem AJ(hc:E5 X (.builtin id) r)(hg:Gl X x)(hm:X.mg x=none)(hv:bootBuiltins x=some (.builtin id))(ha:PA X (e :: es) t)(hn:x ≠ "__name__" := by decide)(hdb:(x == ("__debug__" : Str))=false:=by decide)
  (he:starEach (e :: es) X.env=(false,eval e X.env) :: starEach es X.env:=by rfl) (hpl:(backTo pos (starEach es X.env)).any (·.1)=false:=by rfl):PE X (.Call (.Name x p) (e :: es) [] pos) (tCB r t):=by
 intro pins s σ H Q I h
 refine wpAny_Call_Name_kw (K4 I hg hm hv ?_ hn hdb)
 exact PyProof.Rows.callWith_builtin1 (thn (ha pos pins s σ H _ I h) fun us s1 ⟨vs,H1,I1,r1,q1⟩=>hc pins s1 σ H1 vs us Q I1 r1 q1) he hpl
theorem T6(hc:E5 X (.type T) r)(hg:Gl X x)(hm:X.mg x=none)(hv:bootBuiltins x=some (.type T))(ha:PA X (e :: es) t)(hn:x ≠ "__name__" := by decide)(hdb:(x == ("__debug__" : Str))=false:=by decide)
  (he:starEach (e :: es) X.env=(false,eval e X.env) :: starEach es X.env:=by rfl) (hpl:(backTo pos (starEach es X.env)).any (·.1)=false:=by rfl):PE X (.Call (.Name x p) (e :: es) [] pos) (tCB r t):=by
 intro pins s σ H Q I h
 refine wpAny_Call_Name_kw (K4 I hg hm hv ?_ hn hdb)
 exact PyProof.Rows.callWith_type1 (thn (ha pos pins s σ H _ I h) fun us s1 ⟨vs,H1,I1,r1,q1⟩=>hc pins s1 σ H1 vs us Q I1 r1 q1) he hpl
end
end L2
namespace HT
open PySem PyProof.Rows
noncomputable def D2:List Int→List Int→Bool
 | [],[]=>false
 | [],_ :: _=>true
 | _ :: _,[]=>false
 | x :: xs,y :: ys=>if x=y then D2 xs ys else decide (x<y)
theorem cN(x y:Int)(xs ys:List Int):D2 (x :: xs) (y :: ys)=if x=y then D2 xs ys else decide (x<y):=rfl
theorem bP:D2 [] []=false:=rfl
theorem jA(y:Int)(ys:List Int):D2 [] (y :: ys)=true:=rfl
theorem jB(x:Int)(xs:List Int):D2 (x :: xs) []=false:=rfl
theorem BG(A:Around)(s:Shared)(a:Int)(t:Tok)(c:Int)(u:Tok):∃ e,SeqAt.EqAt A s (.int a t) (.int c u) e∧(e=true↔a=c) :=
 ⟨(a == c),SeqAt.EqAt.int_int a t c u,by simp⟩
theorem As(A:Around)(s:Shared)(a:Int)(t:Tok)(c:Int)(u:Tok)(prog:Program)(w:World)(E:Value→Shared→Prop)(Q:Value→Shared→Prop)(h:Q (.bool (decide (a<c))) s) :
  wpAny (model prog w) A (richCompare .Lt (.int a t) (.int c u)) Q E s :=
 (PyProof.Rows.lt_int h:wpAny (model prog w) A (compareOp .Lt (.int a t) (.int c u)) Q E s)
section
open PySem.SeqAt
open PySem.AutoSeq1 (wpAny_loadPart')
open PySem.MeetsSeq PySem.MeetsSeq2 PySem.MeetsSeq3
theorem jQ(l b:Addr)(items items2:Array Value)(n n2:Nat)(dd dd2:Option Addr)(sl sl2:Array (Option Value))(ns ms:List Int)(hi:IntsAre items.toList ns)(hj:IntsAre items2.toList ms) :
  Meets (Builtin.«tuple.__lt__» ⟨[.ref l,.ref b],[]⟩)
   (fun _ R s=>s.heap.get? l=some { cls:=.type "tuple",dict:=dd,data:=.seq items n,slots:=sl }∧s.heap.get? b=some { cls:=.type "tuple",dict:=dd2,data:=.seq items2 n2,slots:=sl2 } ∧
    R (.ok (.ret (.bool (D2 ns ms)))) s) :=
 .of_wp fun prog w A R s h=>by
  obtain⟨hp,g,d,tk,os⟩:=s;obtain⟨hl,hb,h⟩:=h
  have f2:=AutoSeq1.sub_tuple_tuple
  have z1:items.size=ns.length:=by rw[← hi.length];simp
  have z2:items2.size=ms.length:=by rw[← hj.length];simp
  wp_walk using wpAny_loadPart' hl,wpAny_loadPart' hb,wpAny_forIn_list _ (fun E8 b s'=>b.1=none∧s' = ⟨hp,g,d,tk,os⟩∧∃(vs ws:List Value) (ns' ms':List Int),E8=vs.zip ws ∧
   IntsAre vs ns'∧IntsAre ws ms'∧ns'.length+items2.size=ms'.length+items.size∧R (.ok (.ret (.bool (D2 ns' ms')))) ⟨hp,g,d,tk,os⟩) _
  case turn =>
   rintro⟨y,x⟩ E8 b s' ⟨hb',rfl,vs,ws,ns',ms',hz,hvi,hwi,hlen,hR⟩
   cases hvi with
   | nil=>rw[List.zip_nil_left]at hz;cases hz
   | cons a t hvi' =>
    cases hwi with
    | nil=>rw[List.zip_nil_right]at hz;cases hz
    | cons c u hwi' =>
     rw[Vn]at hz
     injection hz with hyx hrest
     injection hyx with hy hx
     subst hy hx
     rw[cN]at hR
     simp only[RV]at hlen
     obtain⟨e,he,hiff⟩:=BG A.in1 ⟨hp,g,d,tk,os⟩ a t c u
     refine QZ (he prog w _ _ ?_)
     cases e with
     | true =>
      rw[if_pos (hiff.mp rfl)]at hR
      wp_walk
      exact⟨rfl,rfl,_,_,_,_,hrest,hvi',hwi',by omega,hR⟩
     | false =>
      rw[if_neg (fun q=>absurd (hiff.mpr q) RF)]at hR
      have hri:=As A.in1 ⟨hp,g,d,tk,os⟩ a t c u prog w
      wp_walk using hri
      exact⟨_,rfl,by simpa using hR⟩
  case fin =>
   rintro⟨b1,b2⟩ s' ⟨hb',rfl,vs,ws,ns',ms',hz,hvi,hwi,hlen,hR⟩
   simp only at hb'
   subst hb'
   have hv:D2 ns' ms'=decide (items.size<items2.size):=by
    cases hvi with
    | nil =>
     cases hwi with
     | nil =>
      simp only[SQ]at hlen
      rw[bP]
      exact(decide_eq_false (by omega)).symm
     | cons c u hw =>
      simp only[SQ,RV]at hlen
      rw[jA]
      exact(decide_eq_true (by omega)).symm
    | cons a t hv =>
     cases hwi with
     | nil =>
      simp only[SQ,RV]at hlen
      rw[jB]
      exact(decide_eq_false (by omega)).symm
     | cons c u hw =>
      rw[Vn]at hz
      cases hz
   rw[hv]at hR
   wp_walk
   exact⟨_,rfl,by simpa[Builtin.Tuple.tupleCompareSizes]using hR⟩
  case h =>
   exact⟨rfl,rfl,items.toList,items2.toList,ns,ms,rfl,hi,hj,by omega,h⟩
end
section
variable {prog:Program} {w:World} {A:Around} {E:Value→Shared→Prop} {s:Shared}
theorem uj{l b:Addr}{items items2:Array Value}{ns ms:List Int}{Q:Value→Shared→Prop}(hl:IsTup s.heap l items)(hb:IsTup s.heap b items2)(hi:IntsAre items.toList ns)(hj:IntsAre items2.toList ms)
  (hu:A.units<cLine) (h:Q (.bool (D2 ns ms)) s):wpAny (model prog w) A (compareOp .Lt (.ref l) (.ref b)) Q E s:=by
 obtain⟨⟨cls,dd,data,sl⟩,ho,hc,n,hd⟩:=id hl
 obtain⟨⟨cls2,dd2,data2,sl2⟩,ho2,hc2,n2,hd2⟩:=id hb
 simp only at hc hd hc2 hd2
 subst hc hd hc2 hd2
 exact richCompare_meets_room (op:=.Lt) ⟨_,ho,rfl⟩ ⟨_,ho2,rfl⟩ PySem.F.slot_tuple_lt PySem.F.entry_tuple_lt (PySem.F.args_tuple_lt_2 _ _) (jQ l b items items2 n n2 dd dd2 sl sl2 ns ms hi hj)
  ⟨ho,ho2,show Value.bool (D2 ns ms)≠Value.notImplemented∧Q (.bool (D2 ns ms)) s from⟨(fun x=>nomatch x),h⟩⟩ hu
theorem Fp{t b:Addr}{vs ws:List Value}{Q:Value→Shared→Prop}(ht:IsTup s.heap t vs.toArray)(hb:IsTup s.heap b ws.toArray)(hv:vs≠[])
  (h1:ws=[]→Q (.ref t) s) (h2:ws≠[]→Q (.ref s.heap.objs.size) { s with heap:=s.heap.push { cls:=.type "tuple",data:=.seq (vs++ws).toArray } })
  (hsz:vs.length+ws.length≤sizeLine):wpAny (model prog w) A (binaryOp .Add (.ref t) (.ref b)) Q E s:=by
 obtain⟨⟨cls,dd,data,sl⟩,ho,hc,n,hd⟩:=id ht
 obtain⟨⟨cls2,dd2,data2,sl2⟩,ho2,hc2,n2,hd2⟩:=id hb
 simp only at hc hd hc2 hd2
 subst hc hd hc2 hd2
 have e:vs.toArray++ws.toArray=(vs++ws).toArray:=by simp
 by_cases hw:ws=[]
 ·exact concat_meets ⟨_,ho,rfl⟩ ⟨_,ho2,rfl⟩ noFill_tuple_add seq_tuple_add PySem.F.slot_tuple_add PySem.F.entry_tuple_add (PySem.F.args_tuple_add_2 _ _)
   (tuple_addW1 t b vs.toArray ws.toArray n n2 dd dd2 sl sl2 (by simpa using hv) (by simp[hw])) ⟨ho,ho2,h1 hw⟩
 ·refine concat_meets ⟨_,ho,rfl⟩ ⟨_,ho2,rfl⟩ noFill_tuple_add seq_tuple_add PySem.F.slot_tuple_add PySem.F.entry_tuple_add (PySem.F.args_tuple_add_2 _ _)
   (tuple_addW2 t b vs.toArray ws.toArray n n2 dd dd2 sl sl2 (by simpa using hv) (by simpa using hw) (by rw[Rw,Rw];exact hsz)) ⟨ho,ho2,?_⟩
  rw[e]
  exact h2 hw
noncomputable def sIx(n d:Nat):Option Int→Nat
 | none=>d
 | some v=>if v<0 then(v+(n:Int)).toNat else min v.toNat n
theorem Ak(n d:Nat):sIx n d none=d:=rfl
theorem DT(n d k:Nat):sIx n d (some (k:Int))=min k n:=by
 show(if (k:Int)<0 then((k:Int)+(n:Int)).toNat else min (k:Int).toNat n)=min k n
 rw[if_neg (by omega),SD]
theorem HP(n d:Nat)(hd:d≤n)(o:Option Int):sIx n d o≤n:=by
 cases o with
 | none=>exact hd
 | some v =>
  show(if v<0 then(v+(n:Int)).toNat else min v.toNat n)≤n
  by_cases hv:v<0
  ·rw[if_pos hv];omega
  ·rw[if_neg hv];exact UD _ _
theorem wJ(v:Int)(n d:Nat):(if v<0 then max (v+(n:Int)) 0 else min v (n:Int))=((sIx n d (some v):Nat):Int):=by
 show(if v<0 then max (v+(n:Int)) 0 else min v (n:Int))=(((if v<0 then(v+(n:Int)).toNat else min v.toNat n):Nat):Int)
 by_cases hv:v<0
 ·simp only[if_pos hv];omega
 ·simp only[if_neg hv];omega
theorem uB(lo hi:Option Int)(n:Nat):Builtin.Slice.sliceAdjust lo hi 1 (n:Int)=(((sIx n 0 lo:Nat):Int),((sIx n n hi:Nat):Int)):=by
 have h1:¬ ((1:Int)<0):=by omega
 unfold Builtin.Slice.sliceAdjust
 simp only[h1,if_false]
 refine Prod.ext ?_ ?_
 ·cases lo with
  | none=>rfl
  | some v=>exact wJ v n 0
 ·cases hi with
  | none=>rfl
  | some v=>exact wJ v n n
theorem tU(i j:Nat):Builtin.Slice.slicePlaces (i:Int) (j:Int) 1=j - i:=by
 unfold Builtin.Slice.slicePlaces
 have h1:(1:Int) > 0:=by omega
 simp only[h1,if_true,Int.ediv_one]
 split<;>omega
theorem iJ{v:Value}{o:Option Int}{Q:Option Int→Shared→Prop}(p:IsPart v o)(h:Q o s):wpAny (model prog w) A (Builtin.Slice.slicePartIndex v) Q E s:=by
 cases p with
 | none=>exact slicePart_none h
 | int i t=>exact slicePart_int h
theorem ez{sl:Addr}{vl vu:Value}{lo hi:Option Int}{n:Nat}{Q:Int × Int × Nat→Shared→Prop}(hs:s.heap.IsSliceOf sl vl vu .none)(pl:IsPart vl lo)(pu:IsPart vu hi)
  (h:Q (((sIx n 0 lo:Nat):Int),1,sIx n n hi - sIx n 0 lo) s):wpAny (model prog w) A (Builtin.Slice.sliceApplied (.ref sl) (pure (n:Int))) Q E s:=by
 obtain⟨os,hos,hcs,hds⟩:=id hs
 unfold Builtin.Slice.sliceApplied Builtin.Slice.sliceFields
 refine QZ (QZ (wpAny_field hos hds (x:=vl) rfl (QZ (wpAny_field hos hds (x:=vu) rfl (QZ (wpAny_field hos hds (x:=.none) rfl (Rn ?_)))))))
 refine QZ (slicePart_none ?_)
 show wpAny _ _ (if ((1:Int) == 0)=true then _ else _) _ _ s
 rw[if_neg (by decide)]
 refine QZ (iJ pl (QZ (iJ pu (QZ (Rn ?_)))))
 show wpAny _ _ (match Builtin.Slice.sliceAdjust lo hi 1 (n:Int)with|(lo,hi)=>pure (lo,(1:Int),Builtin.Slice.slicePlaces lo hi 1)) _ _ s
 rw[uB lo hi n]
 show wpAny _ _ (pure (((sIx n 0 lo:Nat):Int),(1:Int),Builtin.Slice.slicePlaces ((sIx n 0 lo:Nat):Int) ((sIx n n hi:Nat):Int) 1)) _ _ s
 rw[tU]
 exact Rn h
theorem AD(xs:Array Value)(i k:Nat):((Sl k).filterMap fun(m:Nat)=>xs[((i:Int)+(m:Int)*1).toNat]?).toArray=((xs.toList.drop i).take k).toArray:=by
 have e:(fun(m:Nat)=>xs[((i:Int)+(m:Int)*1).toNat]?)=fun m=>xs[i+m]?:=by
  funext m
  have:((i:Int)+(m:Int)*1).toNat=i+m:=by omega
  rw[this]
 rw[e]
 have:=pick_run xs i k
 rw[List.filterMap_map]at this
 have e2:((fun x=>xs[x]?) ∘ fun x=>i+x)=fun m=>xs[i+m]?:=rfl
 rw[e2]at this
 rw[this]
theorem dU{t sl:Addr}{items:Array Value}{vl vu:Value}{lo hi:Option Int}{Q:Value→Shared→Prop}(ht:IsTup s.heap t items)(hs:s.heap.IsSliceOf sl vl vu .none)(pl:IsPart vl lo)(pu:IsPart vu hi)
  (hw:¬ (sIx items.size 0 lo=0∧sIx items.size items.size hi=items.size))
  (h:Q (.ref s.heap.objs.size) { s with heap:=s.heap.push { cls:=.type "tuple",data:=.seq ((items.toList.drop (sIx items.size 0 lo)).take (sIx items.size items.size hi - sIx items.size 0 lo)).toArray } })
  (hsz:items.size≤sizeLine):wpAny (model prog w) A (getItem (.ref t) (.ref sl)) Q E s:=by
 have htake:sizeOk (.seq ((items.toList.drop (sIx items.size 0 lo)).take (sIx items.size items.size hi - sIx items.size 0 lo)).toArray):=by
  show((items.toList.drop (sIx items.size 0 lo)).take (sIx items.size items.size hi - sIx items.size 0 lo)).toArray.size≤sizeLine
  rw[Rw,Ss,Te,Array.length_toList]
  omega
 have hj:sIx items.size items.size hi≤items.size:=HP _ _ (Rx _) hi
 obtain⟨os,hos,hcs,hds⟩:=id hs
 have hTs:s.TypeIs (.ref sl) "slice" := ⟨os,hos,hcs⟩
 unfold getItem
 try with_reducible refine wpAny_holding ?_
 first|refine QZ (Rn ?_)|skip
 refine QZ (wpAny_sequenceKey ht.typeIs (by decide) ?_)
 refine QZ (wpAny_callSpecial?_slot (name:=Str.ofString "__getitem__") ht.typeIs PyProof.Rows.slot_tuple_getitem
  (wpAny_call_entry PyProof.Rows.slot_tuple_getitem ht.typeIs entry_tuple_getitem ?_ (args_tuple_getitem _ _)))
 show wpAny _ _ (Builtin.Tuple.tupleItemsOf (.ref t) >>= _) _ _ s
 refine QZ (tupleItemsOf_ ht ?_)
 refine QZ (wpAny_typeOf hTs ?_)
 rw[if_pos (by decide)]
 refine QZ (ez hs pl pu ?_)
 have hno:¬ ((((sIx items.size 0 lo:Nat):Int) == 0 && (1:Int) == 1 && (sIx items.size items.size hi - sIx items.size 0 lo) == items.size)=true):=by
  intro q
  rw[TQ,TQ]at q
  have q1:((sIx items.size 0 lo:Nat):Int)=0:=eq_of_beq q.1.1
  have q2:sIx items.size items.size hi - sIx items.size 0 lo=items.size:=eq_of_beq q.2
  exact hw ⟨by omega,by omega⟩
 show wpAny _ _ (if (((sIx items.size 0 lo:Nat):Int) == 0 && (1:Int) == 1 && (sIx items.size items.size hi - sIx items.size 0 lo) == items.size)=true then _ else _) _ _ s
 rw[if_neg hno,AD]
 first
  | exact QZ (m:=Builtin.Tuple.tupleExact _) (wpAny_newObj_type (Rn ⟨_,rfl,Rn h⟩) htake)
  | exact QZ (m:=Builtin.Tuple.tupleExact _) (wpAny_newObj_type (QZ (Rn (Rn ⟨_,rfl,Rn h⟩))) htake)
  | exact QZ (QZ (m:=Builtin.Tuple.tupleExact _) (wpAny_newObj_type (Rn (Rn ⟨_,rfl,Rn h⟩)) htake))
  | exact QZ (QZ (m:=Builtin.Tuple.tupleExact _) (wpAny_newObj_type (Rn ⟨_,rfl,Rn h⟩) htake))
end
end HT
namespace L2
open PySem PySem.Spec PyProof.Rows
noncomputable abbrev TO:=St→Hp→(Option Int→Hp→Prop)→Prop
def PO(X:Cx)(e:Option Expr)(t:TO):Prop :=
 ∀(pins:List (Addr × Obj)) (s:Shared) (σ:St) (H:Hp) (Q:Option Int→Hp→Prop),Inv X pins σ H s→t σ H Q →
  wpAny (model X.prog X.w) X.A (evalPart e X.env) (fun u s'=>∃ o H',Inv X pins σ H' s'∧IsPart u o∧Q o H') X.xe s
def DG:TO:=fun _ H Q=>Q none H
def KS(t:TE):TO:=fun σ H Q=>t σ H fun x H1=>∃ i,x = .int i∧Q (some i) H1
theorem uo{ns:List Int}:∀{us:List Value},p0 (ns.map V.int) us→IntsAre us ns:=by
 induction ns with
 | nil=>intro us r;rw[SV]at r;cases r;exact .nil
 | cons n ns ih =>
  intro us r
  rw[Sh]at r
  cases r with
  | cons r1 r2 =>
   obtain⟨t,e⟩:=r1
   subst e
   exact .cons n t (ih r2)
section
variable {X:Cx} {e:Expr} {te:TE} {lo hi:Option Expr} {tl th:TO} {pos p2:Pos}
theorem Eg:PO X none DG:=by
 intro pins s σ H Q I h
 rw[evalPart_none]
 exact Rn ⟨none,H,I,.none,h⟩
theorem Ef(h:PE X e te):PO X (some e) (KS te):=by
 intro pins s σ H Q I hw
 rw[evalPart_some]
 refine thn (h pins s σ H _ I hw) fun u s1 zz=>?_
 obtain⟨x,H1,I1,r1,q1⟩:=zz
 obtain⟨i,rfl,q⟩:=q1
 obtain⟨t,rfl⟩:=r1
 exact⟨some i,H1,I1,.int i t,q⟩
def SlR(X:Cx)(r:V→Option Int→Option Int→Hp→VK→Prop):Prop :=
 ∀(pins:List (Addr × Obj)) (s:Shared) (σ:St) (H:Hp) (x:V) (v vl vu:Value) (lo hi:Option Int) (sl:Addr) (Q:VK),Inv X pins σ H s→u6 x v→s.heap.IsSliceOf sl vl vu .none→IsPart vl lo→IsPart vu hi→r x lo hi H Q →
  ∃ T id,typeLookup (.type T) "__getitem__" = pure (some (.builtin id))∧s.TypeIs v T∧wpAny (model X.prog X.w) X.A (getItem v (.ref sl)) (EP X pins σ Q) X.xe s
theorem SlR.or{r r':V→Option Int→Option Int→Hp→VK→Prop}(h:SlR X r)(h':SlR X r'):SlR X (fun x lo hi H Q=>r x lo hi H Q∨r' x lo hi H Q):=by
 intro pins s σ H x v vl vu lo hi sl Q I rx hs pl pu q
 rcases q with q|q
 ·exact h pins s σ H x v vl vu lo hi sl Q I rx hs pl pu q
 ·exact h' pins s σ H x v vl vu lo hi sl Q I rx hs pl pu q
def tSl(r:V→Option Int→Option Int→Hp→VK→Prop)(te:TE)(tl th:TO):TE:=fun σ H Q=>te σ H fun x H1=>tl σ H1 fun l H2=>th σ H2 fun u H3=>r x l u H3 Q
theorem AG{r:V→Option Int→Option Int→Hp→VK→Prop}(hr:SlR X r)(he:PE X e te)(hl:PO X lo tl)(hu:PO X hi th):PE X (.Subscript e (.Slice lo hi none p2) pos) (tSl r te tl th):=by
 intro pins s σ H Q I h
 refine Subscript_ (thn (he pins s σ H _ I h) fun v s1 zz=>?_)
 obtain⟨x,H1,I1,r1,q1⟩:=zz
 refine wpAny_Slice (thn (hl pins s1 σ H1 _ I1 q1) fun vl s2 ⟨l,H2,I2,pl,q2⟩=>thn (hu pins s2 σ H2 _ I2 q2) fun vu s3 zz=>?_)
 obtain⟨u,H3,I3,pu,q3⟩:=zz
 rw[evalPart_none]
 refine Rn ?_
 have I4:Inv X pins σ H3 { s3 with heap:=s3.heap.push { cls:=.type "slice",data:=.fields #[vl,vu,.none] } }:=I3.kept (t':=s3.toks) fun b ob q=>Rf _ q
 obtain⟨T,id,hT,ht,hg⟩:=hr pins { s3 with heap:=s3.heap.push { cls:=.type "slice",data:=.fields #[vl,vu,.none] } } σ H3 x v vl vu l u s3.heap.objs.size Q I4 r1 (Heap.IsSliceOf.new ..) pl pu q3
 show wpAny (model X.prog X.w) X.A (subscriptTail e (.Slice lo hi none p2) v (.ref s3.heap.objs.size)) (EP X pins σ Q) X.xe { s3 with heap:=s3.heap.push { cls:=.type "slice",data:=.fields #[vl,vu,.none] } }
 exact tail_any (ops:=[.ref s3.heap.objs.size,v]) ht hT hg (by with_unfolding_all rfl)
noncomputable def rX(xs:List V)(lo hi:Option Int):List V:=(xs.drop (HT.sIx xs.length 0 lo)).take (HT.sIx xs.length xs.length hi - HT.sIx xs.length 0 lo)
theorem fG(xs:List V)(lo hi:Option Int):(rX xs lo hi).length≤xs.length:=by
 unfold rX
 rw[Ss,Te]
 omega
noncomputable def MX(K:Ra):V→Option Int→Option Int→Hp→VK→Prop:=fun x lo hi H Q=>∃ a xs,x = .ref a∧SqT K H a xs ∧
 ¬ (HT.sIx xs.length 0 lo=0∧HT.sIx xs.length xs.length hi=xs.length)∧∀ p,H p=none→Q (.ref p) (upd H p (.tup (rX xs lo hi)))
theorem HH:SlR X (MX X.K):=by
 intro pins s σ H x v vl vu lo hi sl Q I rx hs pl pu h
 obtain⟨a,xs,rfl,hx,hw,q⟩:=h
 cases rx
 obtain⟨its,r,ht,hz⟩:=I.tuple hx
 have hlen:its.toArray.size=xs.length:=by rw[Rw];exact r.length.symm
 refine⟨"tuple",_,PyProof.Rows.slot_tuple_getitem.lookup,ht.typeIs,?_⟩
 refine HT.dU ht hs pl pu (by rw[hlen];exact hw) ?_ (by rw[hlen];exact hz)
 rw[hlen]
 refine⟨.ref s.heap.objs.size,_,I.laid (t':=s.toks) (o:=.tup (rX xs lo hi)) (fun b ob q=>Rf _ q) (Rx _) ?_,rfl,q _ (I.hok.fresh (Rx _))⟩
 exact⟨Ro (fG xs lo hi) hz,_,(r.drop (HT.sIx xs.length 0 lo)).take (HT.sIx xs.length xs.length hi - HT.sIx xs.length 0 lo),IsTup.new _ _⟩
def Ll(K:Ra):R2:=fun x y H Q=>∃ a b xs ys,x = .ref a∧y = .ref b∧SqT K H a xs∧SqT K H b ys∧xs≠[]∧xs.length+ys.length≤sizeLine ∧
 (ys=[]→Q (.ref a) H)∧(ys≠[]→∀ p,H p=none→Q (.ref p) (upd H p (.tup (xs++ys))))
theorem p0.nil_iff{xs:List V}{us:List Value}(r:p0 xs us):us=[]↔xs=[]:=by
 cases r with
 | nil=>simp
 | cons _ _=>simp
theorem Ez:OpR X (binaryOp .Add) (Ll X.K):=by
 intro pins s σ H x y v u Q I rx ry h
 obtain⟨a,b,xs,ys,rfl,rfl,ha,hb,hx,hz,q1,q2⟩:=h
 cases rx
 cases ry
 obtain⟨its,r1,p1,_⟩:=I.tuple ha
 obtain⟨its2,r2,p2,_⟩:=I.tuple hb
 refine HT.Fp p1 p2 (fun z=>hx (r1.nil_iff.mp z)) (fun z=>⟨.ref a,H,I,rfl,q1 (r2.nil_iff.mp z)⟩) (fun z=>?_) (by rw[← r1.length,← r2.length];exact hz)
 refine⟨.ref s.heap.objs.size,_,I.laid (t':=s.toks) (o:=.tup (xs++ys)) (fun b ob q=>Rf _ q) (Rx _) ?_,rfl,q2 (fun w=>z (r2.nil_iff.mpr w)) _ (I.hok.fresh (Rx _))⟩
 exact⟨by rw[RD];exact hz,_,r1.append r2,IsTup.new _ _⟩
end
noncomputable def ixN(n:Nat)(i:Int):Option Nat:=if 0≤i then(if i<n then some i.toNat else none)else if -(n:Int)≤i then some (i+n).toNat else none
noncomputable def atI{α:Type}(xs:List α)(i:Int):Option α:=(ixN xs.length i).bind fun j=>xs[j]?
theorem wj{n:Nat}{i:Int}{j:Nat}(h:ixN n i=some j):seqIndex? i n=some j∧j<n∧-(n:Int)≤i∧i<n:=by
 unfold ixN at h
 by_cases h0:0≤i
 ·rw[if_pos h0]at h
  by_cases h1:i<n
  ·rw[if_pos h1]at h
   have e:i.toNat=j:=Option.some.inj h
   exact⟨by rw[seqIndex_of h0 h1,e],by omega,by omega,h1⟩
  ·rw[if_neg h1]at h;cases h
 ·rw[if_neg h0]at h
  by_cases h1:-(n:Int)≤i
  ·rw[if_pos h1]at h
   have e:(i+n).toNat=j:=Option.some.inj h
   exact⟨by rw[seqIndex_neg (by omega) h1,e],by omega,h1,by omega⟩
  ·rw[if_neg h1]at h;cases h
theorem wK{α:Type}{xs:List α}{i:Int}{v:α}(h:atI xs i=some v):∃ j,seqIndex? i xs.length=some j∧xs[j]? = some v∧j<xs.length∧-(xs.length:Int)≤i∧i<xs.length:=by
 unfold atI at h
 cases e:ixN xs.length i with
 | none=>rw[e]at h;cases h
 | some j =>
  rw[e]at h
  obtain⟨h1,h2,h3,h4⟩:=wj e
  exact⟨j,h1,h,h2,h3,h4⟩
def pz(b:Expr):Prop:=∀ o i,subscripted b false o i=operate [o,i] (getItem o i)
def IxR(X:Cx)(r:R2):Prop :=
 ∀(value slice:Expr) (pins:List (Addr × Obj)) (s:Shared) (σ:St) (H:Hp) (x y:V) (v u:Value) (Q:VK),Inv X pins σ H s→u6 x v→u6 y u→r x y H Q →
  subscripted slice false v u=operate [v,u] (getItem v u)→wpAny (model X.prog X.w) X.A (subscriptTail value slice v u) (EP X pins σ Q) X.xe s
def MtR(X:Cx)(id:String)(r:V→List V→Hp→VK→Prop):Prop :=
 ∀(pins:List (Addr × Obj)) (s:Shared) (σ:St) (H:Hp) (x:V) (xs:List V) (v:Value) (us:List Value) (Q:VK),Inv X pins σ H s→u6 x v→p0 xs us→r x xs H Q →
  wpAny (model X.prog X.w) X.A (call (.builtin id) (v :: us)) (EP X pins σ Q) X.xe s
section
variable {X:Cx} {a b:Expr} {ta tb:TE} {pos:Pos}
theorem IxR.or{r r':R2}(h:IxR X r)(h':IxR X r'):IxR X (fun x y H Q=>r x y H Q∨r' x y H Q):=by
 intro value slice pins s σ H x y v u Q I rx ry q hs
 rcases q with q|q
 ·exact h value slice pins s σ H x y v u Q I rx ry q hs
 ·exact h' value slice pins s σ H x y v u Q I rx ry q hs
theorem MtR.or{id:String}{r r':V→List V→Hp→VK→Prop}(h:MtR X id r)(h':MtR X id r'):MtR X id (fun x xs H Q=>r x xs H Q∨r' x xs H Q):=by
 intro pins s σ H x xs v us Q I rx rs q
 rcases q with q|q
 ·exact h pins s σ H x xs v us Q I rx rs q
 ·exact h' pins s σ H x xs v us Q I rx rs q
theorem Lr{r:R2}(hr:IxR X r)(ha:PE X a ta)(hb:PE X b tb)(hs:pz b):PE X (.Subscript a b pos) (tOp r ta tb):=by
 intro pins s σ H Q I h
 exact Subscript_ (Jx ha hb I h fun v u s2 x y H2 I2 rx ry q=>hr a b pins s2 σ H2 x y v u Q I2 rx ry q (hs _ _))
def Na(K:Ra):R2:=fun x y H Q=>∃ p xs i v,x = .ref p∧y = .int i∧SqL K H p xs∧atI xs i=some v∧Q v H
def MZ(K:Ra):R2:=fun x y H Q=>∃ p xs i v,x = .ref p∧y = .int i∧SqT K H p xs∧atI xs i=some v∧Q v H
theorem ES:IxR X (Na X.K):=by
 intro value slice pins s σ H x y v u Q I rx ry h hs
 obtain⟨p,xs,i,z,rfl,rfl,hq,he,q⟩:=h
 cases rx
 obtain⟨t,rfl⟩:=ry
 obtain⟨its,r,pl,hz⟩:=I.list hq
 obtain⟨j,h1,h2,h3,h4,h5⟩:=wK he
 obtain⟨w,ew,rw'⟩:=r.get h2
 have hl:=r.length
 have hn:=oO
 have fin:EP X pins σ Q w s:=⟨z,H,I,rw',q⟩
 by_cases h0:0≤i
 ·have hj:i.toNat=j:=by
   rw[seqIndex_of h0 h5]at h1
   exact Option.some.inj h1
  exact item_listR pl.isList h0 (by omega) (by rw[hj];simpa using ew) fin hs
 ·have hj:(i+(its.toArray.size:Int)).toNat=j:=by
   rw[seqIndex_neg (by omega) h4]at h1
   rw[Rw,← hl]
   exact Option.some.inj h1
  exact subscriptTail_builtinR (x:=w) pl.isList.typeIs slot_list_getitem.lookup
   (wpAny_getItem_list_neg (Q:=fun r s'=>r=w∧EP X pins σ Q r s') pl.isList (by omega) (by rw[Rw]<;>omega) (by omega) (by rw[hj];simpa using ew) ⟨rfl,fin⟩) hs
theorem Jb:IxR X (MZ X.K):=by
 intro value slice pins s σ H x y v u Q I rx ry h hs
 obtain⟨p,xs,i,z,rfl,rfl,hq,he,q⟩:=h
 cases rx
 obtain⟨t,rfl⟩:=ry
 obtain⟨its,r,pl,hz⟩:=I.tuple hq
 obtain⟨j,h1,h2,h3,h4,h5⟩:=wK he
 obtain⟨w,ew,rw'⟩:=r.get h2
 have hl:=r.length
 have hn:=oO
 have fin:EP X pins σ Q w s:=⟨z,H,I,rw',q⟩
 exact subscriptTail_builtinR (x:=w) pl.typeIs slot_tuple_getitem.lookup
  (getItem_tuple (j:=j) (Q:=fun r s'=>r=w∧EP X pins σ Q r s') pl (by omega) (by omega) (by rw[Rw,← hl];exact h1) (by simpa using ew) ⟨rfl,fin⟩) hs
theorem ui(its:List Value)(n j:Nat)(u:Value):Obj.mapSeq (·.setIfInBounds j u) { cls:=.type "list",data:=.seq its.toArray n } = { cls:=.type "list",data:=.seq (its.set j u).toArray n }:=by
 simp[Obj.mapSeq]
theorem Inv.lst{pins:List (Addr × Obj)}{σ:St}{H:Hp}{s:Shared}{p:Addr}{xs:List V}(I:Inv X pins σ H s)(h:H p=some (.lst xs)) :
  ∃(its:List Value) (n:Nat),p0 xs its∧s.heap.get? p=some { cls:=.type "list",data:=.seq its.toArray n }∧xs.length≤sizeLine:=by
 obtain⟨z,its,n,r,e⟩:=I.hok p _ h
 exact⟨its,n,r,e,z⟩
theorem Inv.lstUpd{pins:List (Addr × Obj)}{σ:St}{H:Hp}{s:Shared}{p:Addr}{xs ys:List V}{its its':List Value}{n n':Nat}{f:Obj→Obj}(I:Inv X pins σ H s)(h:H p=some (.lst xs))
  (ho:s.heap.get? p=some { cls:=.type "list",data:=.seq its.toArray n }) (hf:f { cls:=.type "list",data:=.seq its.toArray n } = { cls:=.type "list",data:=.seq its'.toArray n' }) (r:p0 ys its') (hz:ys.length≤sizeLine) (t:Nat) :
  Inv X pins σ (upd H p (.lst ys)) { s with heap:=s.heap.update p f,toks:=t }:=by
 have e:(s.heap.update p f).get? p=some { cls:=.type "list",data:=.seq its'.toArray n' }:=by
  rw[Sd f ho (by rw[hf]<;>rfl),hf]
 refine I.write (x:=p) (e:=p) (by rw[h];trivial) (.inl rfl) (fun b u hb q=>(RT _ _ (Ne.symm hb)).trans q) ⟨_,e⟩ ?_
 exact⟨hz,its',n',r,e⟩
noncomputable def Lj:V→V→V→Hp→(Hp→Prop)→Prop:=fun o i v H Q=>∃ p xs k j,o = .ref p∧i = .int k∧H p=some (.lst xs)∧ixN xs.length k=some j∧Q (upd H p (.lst (xs.set j v)))
theorem Aa:My X Lj:=by
 intro pins s σ H o i v ov iv u Q I ro ri rv h
 obtain⟨p,xs,k,j,rfl,rfl,hp,hj,q⟩:=h
 cases ro
 obtain⟨t,rfl⟩:=ri
 obtain⟨its,n,r,ho,hz⟩:=I.lst hp
 obtain⟨h1,h2,h3,h4⟩:=wj hj
 have hl:=r.length
 have hn:=oO
 have I':Inv X pins σ (upd H p (.lst (xs.set j v))) { s with heap:=s.heap.update p (Obj.mapSeq (·.setIfInBounds j u)) } :=
  I.lstUpd hp ho (ui its n j u) (r.set rv j) (by rw[UM];exact hz) s.toks
 by_cases h0:0≤k
 ·have hk:k.toNat=j:=by
   rw[seqIndex_of h0 h4]at h1
   exact Option.some.inj h1
  exact PySem.W.ki_setAt ho h0 (by omega) (by rw[Rw,← hl];exact h4) (by rw[hk];exact⟨_,I',q⟩)
 ·have hk:(k+(its.toArray.size:Int)).toNat=j:=by
   rw[seqIndex_neg (by omega) h3]at h1
   rw[Rw,← hl]
   exact Option.some.inj h1
  exact PySem.W.ki_setBack ho (by omega) (by rw[Rw,← hl];exact h3) (by omega) (by rw[hk];exact⟨_,I',q⟩)
theorem mX(lo hi:Option Int)(n:Nat):(sliceBounds lo hi none n).1=((HT.sIx n 0 lo:Nat):Int)∧(sliceBounds lo hi none n).2.1=((HT.sIx n n hi:Nat):Int)∧(sliceBounds lo hi none n).2.2=1:=by
 refine⟨?_,?_,rfl⟩
 ·cases lo with
  | none=>simp[sliceBounds,HT.sIx]
  | some i =>
   simp only[sliceBounds,HT.sIx,VI,show(1:Int) > 0 by decide,if_true]
   by_cases h:i<0
   ·simp only[h,if_true]<;>omega
   ·simp only[h,if_false]<;>omega
 ·cases hi with
  | none=>simp[sliceBounds,HT.sIx]
  | some i =>
   simp only[sliceBounds,HT.sIx,VI,show(1:Int) > 0 by decide,if_true]
   by_cases h:i<0
   ·simp only[h,if_true]<;>omega
   ·simp only[h,if_false]<;>omega
theorem jR(its:List Value)(lo hi:Option Int):slicePick its.toArray lo hi none=((its.drop (HT.sIx its.length 0 lo)).take (HT.sIx its.length its.length hi - HT.sIx its.length 0 lo)).toArray:=by
 obtain⟨h1,h2,h3⟩:=mX lo hi its.toArray.size
 unfold slicePick
 rw[h1,h2,h3]
 simp only[sliceRange_one,pick_run,Rw]<;>rfl
noncomputable def MY(K:Ra):V→Option Int→Option Int→Hp→VK→Prop:=fun x lo hi H Q=>∃ a xs,x = .ref a∧SqL K H a xs∧∀ p,H p=none→Q (.ref p) (upd H p (.lst (rX xs lo hi)))
theorem DM:SlR X (MY X.K):=by
 intro pins s σ H x v vl vu lo hi sl Q I rx hs pl pu h
 obtain⟨a,xs,rfl,hx,q⟩:=h
 cases rx
 obtain⟨its,r,ht,hz⟩:=I.list hx
 have hlen:=r.length
 refine⟨"list",_,slot_list_getitem.lookup,ht.isList.typeIs,?_⟩
 refine wpAny_getItem_list_slice ht.isList hs pl pu .none (by simp) ?_ (by rw[Rw]<;>omega)
 rw[jR,← hlen]
 refine⟨.ref s.heap.objs.size,_,I.laid (t':=s.toks) (o:=.lst (rX xs lo hi)) (fun b ob q=>Rf _ q) (Rx _) ?_,rfl,q _ (I.hok.fresh (Rx _))⟩
 exact⟨Ro (fG xs lo hi) hz,_,0,(r.drop (HT.sIx xs.length 0 lo)).take (HT.sIx xs.length xs.length hi - HT.sIx xs.length 0 lo),Rp _ rfl⟩
theorem ph:E5 X (.builtin "len") (fun xs H Q=>∃ p ys,xs=[.ref p]∧(SqL X.K H p ys∨SqT X.K H p ys)∧Q (.int ys.length) H):=by
 intro pins s σ H xs us Q I r h
 obtain⟨p,ys,rfl,hq,q⟩:=h
 obtain⟨u,rfl,rx⟩:=Y8 r
 cases rx
 have hn:=oO
 rcases hq with hq|hq
 ·obtain⟨its,r',pl,hz⟩:=I.list hq
  have hlen:=r'.length
  exact Calls.call_len_list pl.isList (by simp only[Rw]<;>omega) ⟨.int ys.length,H,I.tok _,⟨s.toks+1,by rw[Rw,hlen]⟩,q⟩
 ·obtain⟨its,r',pl,hz⟩:=I.tuple hq
  have hlen:=r'.length
  exact len_tuple pl (by simp only[Rw]<;>omega) ⟨.int ys.length,H,I.tok _,⟨s.toks+1,by rw[Rw,hlen]⟩,q⟩
theorem E5.or{f:Value}{r r':List V→Hp→VK→Prop}(h:E5 X f r)(h':E5 X f r'):E5 X f (fun xs H Q=>r xs H Q∨r' xs H Q):=by
 intro pins s σ H xs us Q I rs q
 rcases q with q|q
 ·exact h pins s σ H xs us Q I rs q
 ·exact h' pins s σ H xs us Q I rs q
theorem dY:E5 X (.type "list") (fun xs H Q=>∃ p ys,xs=[.ref p]∧(SqL X.K H p ys∨SqT X.K H p ys)∧∀ l,H l=none→Q (.ref l) (upd H l (.lst ys))):=by
 intro pins s σ H xs us Q I r h
 obtain⟨p,ys,rfl,hq,q⟩:=h
 obtain⟨u,rfl,rx⟩:=Y8 r
 cases rx
 have fin:∀(its:List Value),p0 ys its→ys.length≤sizeLine→∀(h':Heap) (c':Nat),(∀ b o',s.heap.get? b=some o'→h'.get? b=some o') →
   h'.get? s.heap.objs.size=some { cls:=.type "list",dict:=none,data:=.seq its.toArray c',slots:=#[] }→EP X pins σ Q (.ref s.heap.objs.size) { s with heap:=h' }:=fun its r' hz h' c' kp e =>
  ⟨.ref s.heap.objs.size,_,I.laid (t':=s.toks) kp (Rx _) (show E4 X.prog X.w _ h' _ (.lst ys)from⟨hz,its,c',r',e⟩),rfl,q _ (I.hok.fresh (Rx _))⟩
 rcases hq with hq|hq
 ·obtain⟨its,r',pl,hz⟩:=I.list hq
  have hlen:=r'.length
  obtain⟨o,ho,hc,n,hd⟩:=pl.isList
  exact call_list_seq p (.inl rfl) ho hc hd (fun h' c' kp e=>fin its r' hz h' c' kp e) (by simp only[Rw]<;>omega)
 ·obtain⟨its,r',pl,hz⟩:=I.tuple hq
  have hlen:=r'.length
  obtain⟨o,ho,hc,n,hd⟩:=pl
  exact call_list_seq p (.inr rfl) ho hc hd (fun h' c' kp e=>fin its r' hz h' c' kp e) (by simp only[Rw]<;>omega)
theorem kR:E5 X (.type "tuple") (fun xs H Q=>∃ p ys,xs=[.ref p]∧((SqL X.K H p ys∧∀ l,H l=none→Q (.ref l) (upd H l (.tup ys)))∨(SqT X.K H p ys∧Q (.ref p) H))):=by
 intro pins s σ H xs us Q I r h
 obtain⟨p,ys,rfl,h⟩:=h
 obtain⟨u,rfl,rx⟩:=Y8 r
 cases rx
 rcases h with⟨hq,q⟩|⟨hq,q⟩
 ·obtain⟨its,r',pl,hz⟩:=I.list hq
  have hlen:=r'.length
  refine call_tuple_list pl.isList (fun h' kp=>?_) (by simp only[Rw]<;>omega)
  have I1:Inv X pins σ H { s with heap:=h' }:=I.kept (t':=s.toks) kp
  have I2:Inv X pins σ (upd H h'.objs.size (.tup ys)) { s with heap:=h'.push { cls:=.type "tuple",data:=.seq its.toArray } } :=
   I1.laid (t':=s.toks) (fun b o e=>Rf _ e) (Rx _) (show E4 X.prog X.w _ _ _ (.tup ys)from⟨hz,its,r',IsTup.new _ _⟩)
  exact⟨.ref h'.objs.size,_,I2,rfl,q _ (I1.hok.fresh (Rx _))⟩
 ·obtain⟨its,r',pl,hz⟩:=I.tuple hq
  exact call_tuple_same pl ⟨.ref p,H,I,rfl,q⟩
def tyV(K:Ra)(T:String)(x:V)(H:Hp):Prop:=match x with
 | .str _=>T = "str"
 | .int _=>T = "int"
 | .ref p=>(T = "list" ∧ ∃ xs,SqL K H p xs)∨(T = "tuple" ∧ ∃ o,K.lookup p=some o∧o.cls = .type "tuple" ∧ o.dict=none) ∨
   (T = "dict" ∧ ((∃ kvs,H p=some (.dK kvs)) ∨ ∃ kvs,H p=some (.dT kvs)))∨(T = "set" ∧ ∃ S n,H p=some (.set S n))
 | _=>False
theorem zL{pins:List (Addr × Obj)}{σ:St}{H:Hp}{s:Shared}{T:String}{x:V}{v:Value}(I:Inv X pins σ H s)(r:u6 x v)(ty:tyV X.K T x H) :
  s.TypeIs v T∧∀ a,v = .ref a→∃ ob,s.heap.get? a=some ob∧ob.dict=none:=by
 cases x with
 | str z =>
  obtain⟨t,rfl⟩:=r
  cases(show T = "str" from ty)
  exact⟨typeIs_str s z t,fun _ e=>nomatch e⟩
 | int i =>
  obtain⟨t,rfl⟩:=r
  cases(show T = "int" from ty)
  exact⟨typeIs_int s i t,fun _ e=>nomatch e⟩
 | ref p =>
  cases r
  rcases ty with⟨rfl,xs,hq⟩|⟨rfl,o,hk,hc,hd⟩|⟨rfl,hk⟩|⟨rfl,S,n,hk⟩
  ·obtain⟨its,_,pl,_⟩:=I.list hq
   refine⟨pl.isList.typeIs,fun a e=>?_⟩
   cases e
   obtain⟨o,n,e,c,hd,_⟩:=pl
   exact⟨o,e,hd⟩
  ·refine⟨⟨o,I.kIn p o hk,hc⟩,fun a e=>?_⟩
   cases e
   exact⟨o,I.kIn _ o hk,hd⟩
  ·have z:∃ o,s.heap.get? p=some o∧o.ExactDict:=by
    rcases hk with⟨kvs,hk⟩|⟨kvs,hk⟩
    ·obtain⟨_,_,_,_,o,_,_,e,ex,_⟩:=I.hok p _ hk
     exact⟨o,e,ex⟩
    ·obtain⟨_,_,_,_,o,_,_,e,ex,_⟩:=I.hok p _ hk
     exact⟨o,e,ex⟩
   obtain⟨o,e,ex⟩:=z
   refine⟨⟨o,e,ex.1⟩,fun a e2=>?_⟩
   cases e2
   exact⟨o,e,ex.2.1⟩
  ·obtain⟨o,_,_,_,e,ex,_⟩:=I.hok p _ hk
   refine⟨⟨o,e,ex.1⟩,fun a e2=>?_⟩
   cases e2
   exact⟨o,e,ex.2.1⟩
 | _=>exact False.elim ty
def MU(K:Ra)(T:String)(r:V→List V→Hp→VK→Prop)(to:TE):TE:=fun σ H Q=>to σ H fun x H1=>tyV K T x H1∧r x [] H1 Q
def tBM(K:Ra)(T:String)(r:V→List V→Hp→VK→Prop)(to:TE)(t:TA):TE:=fun σ H Q=>to σ H fun x H1=>tyV K T x H1∧t σ H1 fun xs H2=>r x xs H2 Q
variable {o e:Expr} {es:List Expr} {to:TE} {t:TA} {name:Str} {apos cpos:Pos} {T id:String} {r:V→List V→Hp→VK→Prop}
theorem IA(pa:PlainAttrs T)(slot:Slot T name id)(hty:typeOf (.builtin id)=pure (.type "method_descriptor"))(hm:MtR X id r)(ho:PE X o to)
  (hbase:attributeBase o name X.env (eval o X.env)=eval o X.env:=by rfl) (hline:(apos.endLine == cpos.line)=true:=by rfl):PE X (.Call (.Attribute o name apos) [] [] cpos) (MU X.K T r to):=by
 intro pins s σ H Q I h
 refine wpAny_Call_method0_late hbase hline (thn (ho pins s σ H _ I h) fun v s1 zz=>?_)
 obtain⟨x,H1,I1,r1,ty,q1⟩:=zz
 obtain⟨h1,h2⟩:=zL I1 r1 ty
 exact⟨T,id,pa,slot,hty,h1,h2,Calls.callWith_builtin rfl (PySem.evalArgs_none (hm pins s1 σ H1 x [] v [] Q I1 r1 .nil q1))⟩
theorem GA(pa:PlainAttrs T)(slot:Slot T name id)(hty:typeOf (.builtin id)=pure (.type "method_descriptor"))(hm:MtR X id r)(ho:PE X o to)(ha:PA X (e :: es) t)
  (hbase:attributeBase o name X.env (eval o X.env)=eval o X.env:=by rfl)
  (hfew:((backTo cpos (starEach (e :: es) X.env)).all (fun x=>!x.1) && (backToKw cpos (keywordEach [] X.env)).all (fun x=>x.1.isSome)
   && decide ((e :: es).length+([]:List Keyword).length+(if ([]:List Keyword).isEmpty then 0 else 1)<30))=true:=by rfl)
  (hline:(apos.endLine == cpos.line)=true:=by rfl) (hs:starEach (e :: es) X.env=(false,eval e X.env) :: starEach es X.env:=by rfl) (hplain:(backTo cpos (starEach es X.env)).any (·.1)=false:=by rfl) :
  PE X (.Call (.Attribute o name apos) (e :: es) [] cpos) (tBM X.K T r to t):=by
 intro pins s σ H Q I h
 refine wpAny_Call_method_late hbase hfew hline rfl (thn (ho pins s σ H _ I h) fun v s1 zz=>?_)
 obtain⟨x,H1,I1,r1,ty,q1⟩:=zz
 obtain⟨h1,h2⟩:=zL I1 r1 ty
 refine⟨T,id,pa,slot,hty,h1,h2,?_⟩
 have hA:=ha cpos pins s1 σ H1 _ I1 q1
 rw[hs]at hA ⊢
 refine Calls.callWith_builtin (by show(false || (backTo cpos (starEach es X.env)).any (·.1))=false;rw[hplain]<;>rfl) (Calls.evalArgs_plain ?_)
 exact thn hA fun us s2 ⟨vs,H2,I2,r2,q2⟩=>hm pins s2 σ H2 x vs v us Q I2 r1 r2 q2
end
def MtM(X:Cx)(id:String)(r:V→List V→Hp→VK→Prop):Prop :=
 ∀(pins:List (Addr × Obj)) (s:Shared) (σ:St) (H:Hp) (x:V) (xs:List V) (v:Value) (us:List Value) (Q:VK),Inv X pins σ H s→u6 x v→p0 xs us→r x xs H Q →
  wpAny (model X.prog X.w) X.A (call (.builtin id) (v :: us)) (EP X pins σ Q) X.xe s
theorem p0.one{x:V}{us:List Value}(h:p0 [x] us):∃ u,us=[u]∧u6 x u:=by
 cases h with|cons r t=>cases t;exact⟨_,rfl,r⟩
theorem p0.two{x y:V}{us:List Value}(h:p0 [x,y] us):∃ u v,us=[u,v]∧u6 x u∧u6 y v:=by
 cases h with|cons r t=>cases t with|cons q t2=>cases t2;exact⟨_,_,rfl,r,q⟩
theorem p0.zero:∀{us:List Value},p0 [] us→us=[]
 | _,.nil=>rfl
theorem p0.reverse{xs:List V}{us:List Value}(h:p0 xs us):p0 xs.reverse us.reverse:=by
 induction h with
 | nil=>exact .nil
 | cons r t ih=>rw[TJ,TJ];exact p0.append ih (.cons r .nil)
section
variable {X:Cx} {pins:List (Addr × Obj)} {σ:St} {H:Hp} {s:Shared} {l b:Addr} {xs ys zs:List V}
theorem Inv.lset{its its':List Value}{n:Nat}{f:Array Value→Array Value}{t':Nat}(I:Inv X pins σ H s)(hH:H l=some (.lst xs))
  (e:s.heap.get? l=some { cls:=.type "list",data:=.seq its.toArray n }) (hf:f its.toArray=its'.toArray) (hv:p0 ys its') (hz:ys.length≤sizeLine) :
  Inv X pins σ (upd H l (.lst ys)) { s with heap:=s.heap.update l (Obj.mapSeq f),toks:=t' }:=by
 have q:=PySem.IsL.update e f
 rw[hf]at q
 refine I.write (x:=l) (e:=l) (by rw[hH];exact trivial) (.inl rfl) (fun b' u hb hu=>(RT s.heap (Obj.mapSeq f) (Ne.symm hb)).trans hu) ⟨_,q⟩ ?_
 exact⟨hz,its',_,hv,q⟩
theorem Inv.lnew{its:List Value}{t':Nat}(I:Inv X pins σ H s)(hv:p0 ys its)(hz:ys.length≤sizeLine) :
  Inv X pins σ (upd H s.heap.objs.size (.lst ys)) { s with heap:=s.heap.push { cls:=.type "list",data:=.seq its.toArray },toks:=t' } :=
 I.laid (fun _ _ q=>Rf _ q) (Rx _) ⟨hz,its,0,hv,Rp _ rfl⟩
theorem Inv.fresh(I:Inv X pins σ H s):H s.heap.objs.size=none:=I.hok.fresh (Rx _)
theorem Inv.lstM(I:Inv X pins σ H s)(hH:H l=some (.lst xs)):xs.length≤sizeLine∧∃(its:List Value) (n:Nat),p0 xs its∧xs.length=its.length∧s.heap.get? l=some { cls:=.type "list",data:=.seq its.toArray n }:=by
 obtain⟨z,its,n,r,e⟩:=I.hok l _ hH
 exact⟨z,its,n,r,r.length,e⟩
theorem AX{n:Nat}(h:n≤sizeLine):Builtin.List.listTooLong n=false:=by
 unfold Builtin.List.listTooLong
 exact decide_eq_false (by omega)
end
section
variable {X:Cx}
noncomputable def vT:V→List V→Hp→VK→Prop:=fun x vs H Q=>∃ l xs y,x = .ref l∧vs=[y]∧H l=some (.lst xs)∧xs.length<sizeLine∧Q .non (upd H l (.lst (xs++[y])))
theorem mE:MtM X "list.append" vT:=by
 intro pins s σ H x vs v us Q I rx rv h
 obtain⟨l,xs,y,rfl,rfl,hH,hz,q⟩:=h
 cases rx
 obtain⟨u,rfl,ru⟩:=rv.one
 obtain⟨z,its,n,r,hl,e⟩:=I.lstM hH
 refine call_meets F.slot_list_append ⟨_,e,rfl⟩ F.entry_list_append (F.args_list_append_2 _ _) (PySem.list_append l its.toArray n u (by rw[Rw];omega)) ⟨e,?_⟩
 refine⟨.non,_,I.lset (its':=its++[u]) hH e (by simp) (r.append (.cons ru .nil)) ?_,rfl,q⟩
 rw[RD,List.length_singleton]
 omega
noncomputable def vS:V→List V→Hp→VK→Prop:=fun x vs H Q=>∃ l b xs zs,x = .ref l∧vs=[.ref b]∧H l=some (.lst xs)∧H b=some (.lst zs)∧xs.length+zs.length≤sizeLine∧Q .non (upd H l (.lst (xs++zs)))
theorem xI:MtM X "list.extend" vS:=by
 intro pins s σ H x vs v us Q I rx rv h
 obtain⟨l,b,xs,zs,rfl,rfl,hH,hB,hz,q⟩:=h
 cases rx
 obtain⟨u,rfl,ru⟩:=rv.one
 cases ru
 obtain⟨z,its,n,r,hl,e⟩:=I.lstM hH
 obtain⟨z2,its2,n2,r2,hl2,e2⟩:=I.lstM hB
 have hsz:its.toArray.size+its2.toArray.size≤sizeLine:=by rw[Rw,Rw];omega
 have hlong:¬ (!its.toArray.isEmpty && Builtin.List.listTooLong (its.toArray.size+its2.toArray.size))=true:=by
  rw[AX hsz,Bool.and_false]
  exact RF
 refine call_meets F.slot_list_extend ⟨_,e,rfl⟩ F.entry_list_extend (F.args_list_extend_2 _ _)
  (AutoSeq1.list_extend_list_list_0 l its.toArray n b its2.toArray n2 hlong (by rw[Rw];omega) (by omega)) ⟨e,e2,?_⟩
 refine⟨.non,_,I.lset (its':=its++its2) hH e (by simp) (r.append r2) ?_,rfl,q⟩
 rw[RD]
 omega
end
section
variable {prog:Program} {w:World} {A:Around} {E:Value→Shared→Prop} {s:Shared}
end
section
variable {X:Cx}
end
end L2
namespace Att
open PySem PySem.W PySem.Calls PyProof.Rows
theorem fU{P:Params}{h:Heap}:∀(ns:List Int) (vs:List Value),WellAll P h vs (ns.map WData.int)→IntsAre vs ns:=by
 intro ns
 induction ns with
 | nil =>
  intro vs w
  rw[SV]at w
  cases w
  exact .nil
 | cons n ns ih =>
  intro vs w
  rw[Sh]at w
  cases w with
  | cons a b =>
   cases a
   exact .cons _ _ (ih _ b)
theorem xp{l:OpenLaw}{n:Nat}(hn:l.most=some n){P:Params}{h:Heap}{args:List WData}{vals:List Value}
  (hpre:l.row.toRowW.claim.pre args=true) (hwl:WellAll P h vals args) :
  ∃ a vs ns,vals=[Value.ref a]∧args=[WData.list (ns.map WData.int)]∧h.get? a=some { cls:=.type "list",data:=.seq vs.toArray }∧IntsAre vs ns∧ns.length≤n:=by
 have hsh:WShape.hasAll [] args [.list .int]=true:=(pre_splitW hpre).1
 have hc:l.pre.holds [] { args:=args } = true:=(pre_splitW hpre).2
 obtain⟨d,r,rfl,h1,h2⟩:=hasAllW_cons hsh
 obtain rfl:=hasAllW_nil h2
 obtain⟨xs,rfl,h3⟩:=hasW_list h1
 obtain⟨ns,rfl⟩:=items_int h3
 have hlen:ns.length≤n:=by
  unfold OpenLaw.pre at hc
  have h4:(WTm.not (.lt (.lit (.int (n:Int))) (.len (.arg 0)))).holds [] { args:=[.list (ns.map .int)] } = true:=by
   have h4:=(holds_andW hc).1
   rw[hn]at h4
   exact h4
  have h5:=condW_of h4 (w_not (w_lt w_lit (w_len_list (w_arg rfl))))
  rw[Rh]at h5
  refine VJ fun q=>?_
  have q':(n:Int)<((ns.length:Nat):Int):=by omega
  first
   | (rw[decide_eq_true q']at h5;exact absurd h5 (by decide))
   | (simp at h5;omega)
 cases hwl with
 | cons w1 w2 =>
  cases w2
  cases w1 with
  | list ho hall=>exact⟨_,_,ns,rfl,rfl,ho,fU ns _ hall,hlen⟩
theorem xB(l:OpenLaw)(args:List WData):l.row.toRowW.claim.post args (.bool true) args=true :=
 postW_of (r:=l.row.toRowW) (X:=(true == true))
  (show WShape.has [] (.bool true) .bool=true by first|rfl|decide|simp[WShape.has,WShape.arms,WShape.armsAll])
  (show(WTm.eq .res (.lit (.bool true))).value [] { args:=args,res:=some (.bool true),after:=args } = some (.bool (true == true))from w_eq_bool (w_res rfl) w_lit) rfl
theorem sv{l:OpenLaw}{n:Nat}{q:Program}{loose:List Str}{XP:(Str→Option Value)→Heap→Prop}{YP:World→Heap→Prop}{d:DefRec}
  (hn:l.most=some n) (hdf:d.params.defaults=[])
  (call:∀(w:World) (s₀ s₁:Shared) (mg mb:Str→Option Value) (fa:Addr) (o:Obj) (pm cd doc:Value) (a:Addr) (vs:List Value) (ns:List Int),
   Ground q loose [] XP w s₀ mg mb s₁.heap→YP w s₁.heap →
   s₁.heap.get? fa=some o→o.data = .func (docDef d.name d.params d.body d.scope pm cd doc)→s₁.heap.CodeRec cd d.name→mg d.name=some (.ref fa) →
   s₁.heap.get? a=some { cls:=.type "list",data:=.seq vs.toArray }→IntsAre vs ns→ns.length≤n→s₁.gens = #[] →
   codeAny (model l.prog w) callerA (.call (.ref fa) ⟨[.ref a],[]⟩) (fun r s'=>r = .ok (.ret (.bool true))∧OldK s₁.heap s'.heap∧s'.os=s₁.os∧AllBare s'.gens) s₁) :
  WalkO q loose XP YP l.row.toRowW d [] (fun f vs=>PySem.call f vs):=by
 intro w s₀ s₁ mg mb G Y fa o pm cd doc dV kV ho hd hcd hD hmg hg args vals as hpre hlay hrd hwl hlo
 obtain rfl:dV = .none:=Dflts.none hD hdf
 obtain rfl:kV = .none:=Dflts.noKw hD
 obtain⟨a,vs,ns,rfl,rfl,hobj,hints,hlen⟩:=xp hn hpre hwl
 refine enter_call (codeAny_mono (call w s₀ s₁ mg mb fa o pm cd doc a vs ns G Y ho (fd_plain hd) hcd hmg hobj hints hlen hg) fun r s' hq=>?_)
 obtain⟨rfl,h2,h3,h4⟩:=hq
 exact⟨.inl ⟨.bool true,.bool true,[],rfl,fun _=>rfl,.bool true,xB l _,fun _=>⟨List.Pairwise.nil,fun _ hm=>(nomatch hm)⟩⟩,h2,h3,h4⟩
section
variable {prog:Program} {w:World} {A:Around} {E:Value→Shared→Prop} {s:Shared} {K:Frag}
end
end Att
namespace L2
open PySem PySem.Spec PyProof.Rows
theorem mm:∀{vs:List Value} {ns:List Int},IntsAre vs ns→p0 (ns.map V.int) vs
 | _,_,.nil=>.nil
 | _,_,.cons n t h=>.cons ⟨t,rfl⟩ (mm h)
def yj(H:Hp):Prop:=∀ b,H b=none ∨ ∃ o xs,H b=some (.frz o (.lst xs))
theorem Bh{P:Program}{w:World}{K:Ra}{mg mb:Str→Option Value}{CX:CXT}{k:Nat}{fa a:Addr}{fd:FuncData}{x:Str}{sp:Sp}{s₁:Shared}{vs:List Value}{ns:List Int}
  (KX:K.In s₁.heap) (hns:s₁.heap.Ns mainGlobals mg) (hb:s₁.heap.Ns builtinsNs mb) (hbb:∀ x:Str,x ≠ "__name__" → mb x=bootBuiltins x) (hlim:s₁.heap.NoLimit) (hg:s₁.gens = #[])
  (ha:s₁.heap.get? a=some { cls:=.type "list",data:=.seq vs.toArray }) (hi:IntsAre vs ns) (hl:ns.length≤sizeLine) (hr:M8 k callerA)
  (F:∀ base:Heap,K.In base→base.Ns mainGlobals mg→Y6 P w K mg base CX k fa fd [x] sp) (hbind:∀(s:Shared) (u:Value),BindsTo s fd ⟨[u],[]⟩ [(x,u)])
  (hsp:∀ H:Hp,yj H→SqL K H a (ns.map V.int)→sp [.ref a] H (fun v _=>v = .bl true) fun _ _ _=>False)
  (hCX:∀ H e s',CX [] H s₁ (fun _ _ _=>False) e s'→False) :
  codeAny (model P w) callerA (.call (.ref fa) ⟨[.ref a],[]⟩) (fun r s'=>r = .ok (.ret (.bool true))∧OldK s₁.heap s'.heap∧s'.os=s₁.os∧AllBare s'.gens) s₁:=by
 have rv:=mm hi
 have lenV:=hi.length
 have core:∀ H:Hp,yj H→SqL K H a (ns.map V.int)→HOk P w H s₁.heap→(∀ b,H b≠none→b=a)→(H a≠none→K.lookup a=none) →
   codeAny (model P w) callerA (.call (.ref fa) ⟨[.ref a],[]⟩) (fun r s'=>r = .ok (.ret (.bool true))∧OldK s₁.heap s'.heap∧s'.os=s₁.os∧AllBare s'.gens) s₁:=by
  intro H hO hS hok hA hK
  have base_of:∀{b:Addr} {o:Obj},s₁.heap.get? b=some o→H b=none→(oW s₁.heap H).get? b=some o:=fun e n=>Bv e n
  have noA:∀{b:Addr} {o:Obj} {es:Array DictEntry} {ep:Nat},s₁.heap.get? b=some o→o.data = .dict es ep→H b=none:=fun{b o es ep} e d=>by
   cases q:H b with
   | none=>rfl
   | some u =>
    have e':b=a:=hA b (by rw[q];simp)
    subst e'
    rw[ha]at e;cases e
    have d':Data.seq vs.toArray _=Data.dict es ep:=d
    cases d'
  have nsK:∀{b:Addr} {m:Str→Option Value},s₁.heap.Ns b m→(oW s₁.heap H).Ns b m:=fun{b m} ⟨o,es,ep,e,d,r⟩=>⟨o,es,ep,base_of e (noA e d),d,r⟩
  have hKb:K.In (oW s₁.heap H):=fun b o e=>base_of (KX b o e) (by
   cases q:H b with
   | none=>rfl
   | some u =>
    have e':b=a:=hA b (by rw[q];simp)
    subst e'
    rw[hK (by rw[q];simp)]at e;cases e)
  have hM:Mod K mg (oW s₁.heap H):=⟨hKb,nsK hns,⟨mb,nsK hb,hbb⟩,let ⟨mc,h1,h2⟩:=hlim;⟨mc,nsK h1,h2⟩⟩
  have e0:uD P w K mg (oW s₁.heap H) callerA [] s₁ H:=⟨rfl,hM,fun b o e=>EI e,UN (xV _ _),trivial,fun b hb=>absurd (show b∈([]:List Addr)from hb) (by simp),hok,.of_eq hg⟩
  refine codeAny_mono ((F _ hKb (nsK hns)).run callerA [] s₁ H ⟨[.ref a],[]⟩ [.ref a] [.ref a] _ _ hr e0 (hbind s₁ (.ref a)) (.cons rfl .nil) (hsp H hO hS)) fun r s' h=>?_
  cases r with
  | error e=>exact(hCX H e s' h).elim
  | ok fl =>
   cases fl with
   | next=>exact False.elim h
   | brk=>exact False.elim h
   | cont=>exact False.elim h
   | ret u =>
    obtain⟨v,H',os,bare,un,hok',r',q⟩:=h
    have q':v = .bl true:=q
    subst q'
    obtain rfl:u=Value.bool true:=r'
    refine⟨rfl,OldK.of_keep fun b o e=>?_,os,bare⟩
    cases q:H b with
    | none=>exact un.keep b o e q (by intro z;exact absurd (show b∈([]:List Addr)from z) (by simp)) (by simp)
    | some u =>
     rcases hO b with z|⟨ob,xs,z⟩
     ·rw[q]at z;cases z
     ·have z2:=un.frzs b ob _ z
      obtain⟨e1,_⟩:=hok b _ z
      obtain⟨e2,_⟩:=hok' b _ z2
      rw[e]at e1;cases e1
      exact e2
 cases hk:K.lookup a with
 | some o =>
  have e:=KX a o hk
  rw[ha]at e
  cases e
  refine core (fun _=>none) (fun _=>.inl rfl) (.inr ⟨_,vs.toArray,_,hk,rfl,rfl,rfl,by rw[Rw,lenV];exact hl,by simpa using rv⟩) (fun b u z=>by have z':(none:Option HO)=some u:=z;cases z') (fun b z=>absurd rfl z) fun z=>absurd rfl z
 | none =>
  refine core (fun b=>if b=a then some (.frz { cls:=.type "list",data:=.seq vs.toArray } (.lst (ns.map V.int)))else none) (fun b=>?_) (.inl (.inr ⟨{ cls:=.type "list",data:=.seq vs.toArray },if_pos rfl⟩)) (fun b u z=>?_) (fun b z=>?_) fun _=>hk
  ·by_cases hb:b=a
   ·exact .inr ⟨_,_,if_pos hb⟩
   ·exact .inl (if_neg hb)
  ·by_cases hb:b=a
   ·have z':=(if_pos hb).symm.trans z
    cases z'
    subst hb
    exact⟨ha,by rw[Rh];exact hl,vs,_,rv,ha⟩
   ·have z':=(if_neg hb).symm.trans z
    cases z'
  ·by_cases hb:b=a
   ·exact hb
   ·exact absurd (if_neg hb) z
theorem DE{l:PySem.W.OpenLaw}{n k:Nat}{q:Program}{loose:List Str}{XP:(Str→Option Value)→Heap→Prop}{YP:World→Heap→Prop}{d:DefRec}{K:Params→Ra}{CX:World→CXT}{sp:World→Sp}{x:Str}
  (hn:l.most=some n) (hn2:n≤sizeLine) (hdf:d.params.defaults=[]) (hr:M8 k callerA)
  (hY:∀(w:World) (h:Heap),YP w h→(K w.params).In h)
  (F:∀(w:World) (mg:Str→Option Value) (fa:Addr) (h:Heap),(K w.params).In h→h.Ns mainGlobals mg→mg d.name=some (.ref fa) →
   ∃ fd:FuncData,(∀(s:Shared) (u:Value),BindsTo s fd ⟨[u],[]⟩ [(x,u)]) ∧
    ∀ base:Heap,(K w.params).In base→base.Ns mainGlobals mg→Y6 l.prog w (K w.params) mg base (CX w) k fa fd [x] (sp w))
  (hsp:∀(w:World) (H:Hp) (a:Addr) (ns:List Int),ns.length≤n→yj H→SqL (K w.params) H a (ns.map V.int)→sp w [.ref a] H (fun v _=>v = .bl true) fun _ _ _=>False)
  (hCX:∀(w:World) (H:Hp) (s:Shared) (e:Value) (s':Shared),CX w [] H s (fun _ _ _=>False) e s'→False) :
  PySem.W.WalkO q loose XP YP l.row.toRowW d [] (fun f vs=>PySem.call f vs):=by
 refine Att.sv hn hdf fun w s₀ s₁ mg mb fa o pm cd doc a vs ns G Y ho hd hcd hmg hobj hints hlen hg=>?_
 have KX:=hY w _ Y
 obtain⟨fd,hb,hF⟩:=F w mg fa _ KX G.T.g hmg
 exact Bh KX G.T.g G.T.b G.T.builtins G.T.nolimit hg hobj hints (Ro hlen hn2) hr hF hb (fun H hO hS=>hsp w H a ns hlen hO hS) fun H e s'=>hCX w H s₁ e s'
theorem zI{l:PySem.W.OpenLaw}{n k:Nat}{q:Program}{loose:List Str}{XP:(Str→Option Value)→Heap→Prop}{YP:World→Heap→Prop}{d:DefRec}{K:Params→Ra}{CX:CXT}{sp:Ra→Sp}{x:Str}
  (hn:l.most=some n) (hn2:n≤sizeLine) (hdf:d.params.defaults=[]) (hr:M8 k callerA)
  (hY:∀(w:World) (h:Heap),YP w h→(K w.params).In h)
  (F:∀(w:World) (mg:Str→Option Value) (fa:Addr) (h:Heap),(K w.params).In h→h.Ns mainGlobals mg→mg d.name=some (.ref fa) →
   ∃ fd:FuncData,(∀(s:Shared) (u:Value),BindsTo s fd ⟨[u],[]⟩ [(x,u)]) ∧
    ∀ base:Heap,(K w.params).In base→base.Ns mainGlobals mg→Y6 l.prog w (K w.params) mg base CX k fa fd [x] (sp (K w.params)))
  (hsp:∀(K:Ra) (H:Hp) (a:Addr) (ns:List Int),ns.length≤n→yj H→SqL K H a (ns.map V.int)→sp K [.ref a] H (fun v _=>v = .bl true) fun _ _ _=>False)
  (hCX:∀(H:Hp) (s:Shared) (e:Value) (s':Shared),CX [] H s (fun _ _ _=>False) e s'→False) :
  PySem.W.WalkO q loose XP YP l.row.toRowW d [] (fun f vs=>PySem.call f vs) :=
 DE (K:=K) (CX:=fun _=>CX) (sp:=fun w=>sp (K w.params)) hn hn2 hdf hr hY F (fun w H a ns h1 h2 h3=>hsp (K w.params) H a ns h1 h2 h3) fun _ H s e s'=>hCX H s e s'
noncomputable def X4(s:Stmt):Arguments:=match s with
 | .FunctionDef _ a _ _ _ _ _ _ _ _=>a
 | _=>{ posonlyargs:=[],args:=[],vararg:=none,kwonlyargs:=[],kw_defaults:=[],kwarg:=none,defaults:=[] }
noncomputable def N6(s:Stmt):List Stmt:=match s with
 | .FunctionDef _ _ b _ _ _ _ _ _ _=>b
 | _=>[]
noncomputable def e9(s:Stmt):Scope:=match s with
 | .FunctionDef _ _ _ _ _ _ sc _ _ _=>sc
 | _=>{ kind:=.function,names:=[],isGenerator:=false,isCoroutine:=false }
abbrev CX0:CXT:=fun _ _ _ _ _ _=>False
abbrev E0:XK:=fun _ _ _=>False
theorem Lu{X:Cx}:pA CX0 X E0:=fun _ _ _ _ _ _ _ h=>h.elim
section
variable {P:Program} {w:World} {K:Ra} {mg:Str→Option Value} {base:Heap}
end
section
variable {X:Cx}
theorem pv(i:Nat){x:Str}{pos:Pos}(hN:X.N[i]? = some x:=by rfl)(hv:Vis X.env.scope x:=by first|exact Or.inl rfl|exact Or.inr (Or.inl rfl)|exact Or.inr (Or.inr rfl))(hd:(x == ("__debug__" : Str))=false:=by decide)
  (hcd:(x == ("__classdict__" : Str))=false:=by decide):PE X (.Name x pos) (KQ i):=AF hN hv hd hcd
end
theorem LH{A B:Prop}(h:B):if false=true then A else B:=by
 rw[if_neg RF]
 exact h
theorem Nj{A B:Prop}(h:A):if true=true then A else B:=by
 rw[if_pos rfl]
 exact h
end L2
end
namespace RM
open Rat
noncomputable def bl(n:Nat):Nat:=n.log2+1
theorem dM(n:Nat):n<2 ^ bl n:=VL
theorem U3{n k:Nat}(h:n<2 ^ k)(hk:0<k):bl n≤k:=by
 unfold bl
 rcases Th n with h0|h0
 ·subst h0;rw[Nat.log2_zero];omega
 ·have:=(Uu (Vd.mp h0)).mpr h
  omega
theorem Ck(n:Nat):0<bl n:=VD _
theorem X8{m n:Nat}(h:m≤n):bl m≤bl n:=U3 (Rv h (dM n)) (Ck n)
theorem X7(m n:Nat):bl (m*n)≤bl m+bl n:=by
 refine U3 ?_ (Nat.add_pos_left (Ck m) _)
 rw[Uv]
 exact VM (dM m) (dM n)
theorem Jw(m n:Nat):bl (m+n)≤max (bl m) (bl n)+1:=by
 refine U3 ?_ (VD _)
 have h1:=dM m
 have h2:=dM n
 have e1:2 ^ bl m≤2 ^ max (bl m) (bl n):=RE (by decide) (UO _ _)
 have e2:2 ^ bl n≤2 ^ max (bl m) (bl n):=RE (by decide) (UE _ _)
 rw[Uk]
 omega
noncomputable def sz(q:Rat):Nat:=max (bl q.num.natAbs) (bl q.den)
theorem O5(q:Rat):bl q.num.natAbs≤sz q:=UO _ _
theorem D7(q:Rat):bl q.den≤sz q:=UE _ _
theorem qx{q:Rat}{n:Nat}(h1:bl q.num.natAbs≤n)(h2:bl q.den≤n):sz q≤n:=Ub.mpr ⟨h1,h2⟩
theorem AW(a b:Int):(divInt a b).num.natAbs≤a.natAbs:=by
 rw[num_divInt]
 rcases Int.lt_trichotomy b 0 with h|h|h
 ·rw[Uj h]
  refine Ro (Uo _ _) ?_
  simp
 ·subst h;simp
 ·rw[TH h,VQ]
  exact Uo _ _
theorem Jq(a b:Int)(hb:b≠0):(divInt a b).den≤b.natAbs:=by
 rw[den_divInt,if_neg hb]
 exact TC _ _
theorem N7(a b:Int)(hb:b≠0):sz (divInt a b)≤max (bl a.natAbs) (bl b.natAbs) :=
 qx (Ro (X8 (AW a b)) (UO _ _)) (Ro (X8 (Jq a b hb)) (UE _ _))
theorem E1(q:Rat):(q.den:Int)≠0:=by have:=q.den_nz;omega
theorem uC(q r:Rat):q+r=divInt (q.num*r.den+r.num*q.den) (q.den*r.den):=by
 conv=>lhs;rw[← num_divInt_den q,← num_divInt_den r]
 rw[divInt_add_divInt _ _ (E1 q) (E1 r)]
theorem ud(q r:Rat):q*r=divInt (q.num*r.num) (q.den*r.den):=by
 conv=>lhs;rw[← num_divInt_den q,← num_divInt_den r]
 rw[divInt_mul_divInt]
theorem BL(q r:Rat):q / r=divInt (q.num*r.den) (q.den*r.num):=by
 rw[div_def]
 conv=>lhs;rw[← num_divInt_den q,← num_divInt_den r]
 rw[inv_divInt,divInt_mul_divInt]
theorem jw(a b:Int):(a+b).natAbs≤a.natAbs+b.natAbs:=Vv a b
theorem U4(q r:Rat):sz (q+r)≤sz q+sz r+1:=by
 rw[uC]
 have hb:((q.den:Int)*(r.den:Int))≠0:=Sw (E1 q) (E1 r)
 refine Ro (N7 _ _ hb) (Ub.mpr ⟨?_,?_⟩)
 ·refine Ro (X8 (jw _ _)) (Ro (Jw _ _) ?_)
  rw[RL,RL]
  have h1:=X7 q.num.natAbs (r.den:Int).natAbs
  have h2:=X7 r.num.natAbs (q.den:Int).natAbs
  have a1:=O5 q
  have a2:=O5 r
  have a3:=D7 q
  have a4:=D7 r
  simp only[Rb]at h1 h2 ⊢
  omega
 ·rw[RL]
  have h1:=X7 (q.den:Int).natAbs (r.den:Int).natAbs
  have a3:=D7 q
  have a4:=D7 r
  simp only[Rb]at h1 ⊢
  omega
theorem u5(q r:Rat):sz (q*r)≤sz q+sz r:=by
 rw[ud]
 have hb:((q.den:Int)*(r.den:Int))≠0:=Sw (E1 q) (E1 r)
 refine Ro (N7 _ _ hb) (Ub.mpr ⟨?_,?_⟩)
 ·rw[RL]
  have h1:=X7 q.num.natAbs r.num.natAbs
  have a1:=O5 q
  have a2:=O5 r
  omega
 ·rw[RL]
  have h1:=X7 (q.den:Int).natAbs (r.den:Int).natAbs
  have a3:=D7 q
  have a4:=D7 r
  simp only[Rb]at h1 ⊢
  omega
theorem O6(q:Rat):sz (-q)=sz q:=by
 unfold sz
 rw[Ve,Vf,SM]
theorem G7(q r:Rat):sz (q - r)≤sz q+sz r+1:=by
 rw[Vo]
 have:=U4 q (-r)
 rw[O6]at this
 exact this
theorem G8(q r:Rat)(hr:r≠0):sz (q / r)≤sz q+sz r:=by
 rw[BL]
 have hn:r.num≠0:=fun h=>hr (VR.mp h)
 have hb:((q.den:Int)*r.num)≠0:=Sw (E1 q) hn
 refine Ro (N7 _ _ hb) (Ub.mpr ⟨?_,?_⟩)
 ·rw[RL]
  have h1:=X7 q.num.natAbs (r.den:Int).natAbs
  have a1:=O5 q
  have a4:=D7 r
  simp only[Rb]at h1 ⊢
  omega
 ·rw[RL]
  have h1:=X7 (q.den:Int).natAbs r.num.natAbs
  have a3:=D7 q
  have a2:=O5 r
  simp only[Rb]at h1 ⊢
  omega
theorem zU(q:Rat){n:Nat}(hn:0<n)(h1:q.num.natAbs<2 ^ n)(h2:q.den<2 ^ n):sz q≤n:=qx (U3 h1 hn) (U3 h2 hn)
theorem F9:sz 0=1:=by decide
theorem R9:sz 1=1:=by decide
theorem Bx(a b:Nat)(h:b≠0):RW a b=RW b (a % b):=by
 rw[VE,Nat.gcd_rec,VE]
theorem X1{a g:Int}(h:g ∣ a):a.fdiv g=a / g:=by
 obtain⟨c,rfl⟩:=h
 by_cases hg:g=0
 ·subst hg;simp
 ·rw[Int.mul_fdiv_cancel_left _ hg,TB _ hg]
theorem IQ(a b:Int)(hb:b≠0)(share:Int)(hs:share=if b<0 then -((RW a.natAbs b.natAbs:Nat):Int)else((RW a.natAbs b.natAbs:Nat):Int)) :
  a.fdiv share=(divInt a b).num∧b.fdiv share=((divInt a b).den:Int):=by
 have hg:RW a.natAbs b.natAbs=Vw b a:=by unfold Vw;exact VE _ _
 have da:((Vw b a:Nat):Int) ∣ a:=Int.gcd_dvd_right b a
 have db:((Vw b a:Nat):Int) ∣ b:=Int.gcd_dvd_left b a
 rw[hg]at hs
 rw[num_divInt,den_divInt,if_neg hb]
 by_cases h:b<0
 ·rw[if_pos h]at hs
  subst hs
  rw[X1 (Int.neg_dvd.mpr da),X1 (Int.neg_dvd.mpr db),Uj h]
  refine⟨?_,?_⟩
  ·rw[Int.ediv_neg,Int.neg_one_mul,Vg da]
  ·rw[Int.ediv_neg,← Vg db]
   have e:-b=((b.natAbs:Nat):Int):=by omega
   rw[e]
   norm_cast
 ·rw[if_neg h]at hs
  subst hs
  have hp:0<b:=by omega
  rw[X1 da,X1 db,TH hp,VQ]
  refine⟨rfl,?_⟩
  have e:b=((b.natAbs:Nat):Int):=by omega
  conv=>lhs;rw[e]
  norm_cast
theorem LF(q r:Rat):decide (q.num*(r.den:Int)<r.num*(q.den:Int))=decide (q<r):=by
 by_cases h:q<r
 ·rw[decide_eq_true h,decide_eq_true ((UW q r).mp h)]
 ·rw[decide_eq_false h,decide_eq_false (fun z=>h ((UW q r).mpr z))]
end RM
namespace L2
open PySem PySem.Spec PyProof.Rows
section
variable {prog:Program} {w:World} {A:Around} {R:Result→Shared→Prop} {s:Shared}
noncomputable def vF(ifs:List Expr)(env:Env):Sem Bool:=forIn ifs true fun c r=>if r=true then do let ok ← isTrue c env (eval c env);pure (ForInStep.yield ok)else pure (ForInStep.yield r)
theorem pd{elt target iter:Expr}{ifs:List Expr}{scope:Scope}{pos:Pos}{it acc:Value}{env:Env}(I:Nat→Shared→Prop)
  (turn:∀ n s,I n s→wpAny (model prog w) A (pyNext it) (fun r s₁=>match r with
   | none=>R (.ok .next) s₁
   | some v=>wpAny (model prog w) A (letOwnedTupleGo target it v) (fun _ s₁'=>wpAny (model prog w) A (assign target env v) (fun _ s₂=>wpAny (model prog w) A (vF ifs env) (fun ok s₂'=>if ok=true then wpAny (model prog w) A (eval elt env) (fun x s₃ =>
     wpAny (model prog w) A (call (.builtin "list.append") [acc,x]) (fun _ s₄=>∃ m,m<n∧I m s₄) (notedBy (model prog w) A env fun e s'=>R (.error e) s') s₃)
     (notedBy (model prog w) A env fun e s'=>R (.error e) s') s₂' else ∃ m,m<n∧I m s₂') (notedBy (model prog w) A env fun e s'=>R (.error e) s') s₂) (notedBy (model prog w) A env fun e s'=>R (.error e) s') s₁') (notedBy (model prog w) A env fun e s'=>R (.error e) s') s₁) (notedBy (model prog w) A env fun e s'=>R (.error e) s') s)
  (n:Nat) (h:I n s) :
  codeAny (model prog w) A (.compLoop (.ListComp elt [⟨target,iter,ifs,0⟩] scope pos) 0 it acc env) R s:=by
 refine codeAny_loop rfl I (fun n s hI=>?_) n h
 show wpAny _ _ ((compTurn (.ListComp elt [⟨target,iter,ifs,0⟩] scope pos) 0 it acc env).onRaise (fun x=>do noteFrame x env;theTreesLotGoes x)) _ _ s
 refine wpAny_noted ?_
 rw[compTurn_list]
 refine QZ (wpAny_standAt (QZ (wpAny_mono (turn n s hI) (fun r s₁ h₁=>?_) fun _ _ h'=>h')))
 cases r with
 | none=>exact Rn h₁
 | some v =>
  refine QZ (wpAny_mono h₁ (fun _ s₁' h₁'=>?_) fun _ _ h'=>h')
  refine QZ (wpAny_mono h₁' (fun _ s₂ h₂=>QZ (wpAny_mono h₂ (fun ok s₂' h₃=>?_) fun _ _ h'=>h')) fun _ _ h'=>h')
  cases ok with
  | true =>
   refine QZ (QZ (wpAny_mono h₃ (fun x s₃ h₄=>QZ (wpAny_mono h₄ (fun _ s₄ h₅=>Rn (Rn ⟨rfl,h₅⟩)) fun _ _ h'=>h')) fun _ _ h'=>h'))
  | false=>exact QZ (Rn (Rn ⟨rfl,h₃⟩))
end
def eZ(X:Cx)(ifs:List Expr)(t:TT):Prop :=
 ∀(pins:List (Addr × Obj)) (s:Shared) (σ:St) (H:Hp) (Q:Bool→Hp→Prop),Inv X pins σ H s→t σ H Q→wpAny (model X.prog X.w) X.A (vF ifs X.env) (TP X pins σ Q) X.xe s
def MH:TT:=fun _ H Q=>Q true H
theorem AB{X:Cx}:eZ X [] MH:=fun pins s σ H Q I q=>Rn ⟨H,I,q⟩
theorem AA{X:Cx}{c:Expr}{t:TT}(h:PT X c t):eZ X [c] t:=fun pins s σ H Q I q=>wpAny_tests_one (h pins s σ H Q I q)
noncomputable def aB(cells:List (Str × Addr)):List (Str × NameKind)→List (Str × Addr)→List (Str × Addr)
 | [],acc=>acc
 | (n,k) :: r,acc=>if k == .free then aB cells r ((n,(cells.lookup n).getD 0) :: acc)else aB cells r acc
theorem cR{env:Env}:∀(names:List (Str × NameKind)) (acc:List (Str × Addr)),(∀ n,(n,NameKind.free)∈names→∃ c,env.cells.lookup n=some c) →
  (forIn names acc (fun(x:Str × NameKind) (cs:List (Str × Addr))=>if (x.2 == NameKind.free)=true then(do let a ← cellOf env x.1;pure (ForInStep.yield ((x.1,a) :: cs)))else pure (ForInStep.yield cs)):Sem (List (Str × Addr)))=pure (aB env.cells names acc)
 | [],acc,_=>rfl
 | (n,k) :: r,acc,h=>by
  rw[UP]
  unfold aB
  by_cases hk:(k == NameKind.free)=true
  ·have e:k = .free:=by cases k<;>first|rfl|(exact absurd hk (by decide))
   subst e
   obtain⟨c,hc⟩:=h n RX
   rw[if_pos hk,if_pos hk]
   have e1:cellOf env n=pure c:=by unfold cellOf;rw[hc]
   rw[e1,pure_bind,pure_bind,hc]
   exact cR r _ fun m hm=>h m (RH _ hm)
  ·rw[if_neg hk,if_neg hk,pure_bind]
   exact cR r _ fun m hm=>h m (RH _ hm)
theorem sk{scope:Scope}{env:Env}(h:∀ n,(n,NameKind.free)∈scope.names→∃ c,env.cells.lookup n=some c):closureFor scope env=pure (aB env.cells scope.names []):=by
 have:=cR (env:=env) scope.names [] h
 unfold closureFor
 first
  | (simp only[]at this ⊢;rw[← this];simp only[bind_pure];rfl)
  | (rw[← this];rfl)
  | (simp only[bind_pure,pure_bind];exact this)
theorem X6{cells:List (Str × Addr)}{x:Str}{c:Addr}:∀(names:List (Str × NameKind)) (acc:List (Str × Addr)),(∀ n,(n,NameKind.free)∈names→∃ c,cells.lookup n=some c)→(∀ y d,acc.lookup y=some d→cells.lookup y=some d)→(aB cells names acc).lookup x=some c→cells.lookup x=some c
 | [],acc,_,ha,h=>ha x c h
 | (n,k) :: r,acc,hn,ha,h=>by
  unfold aB at h
  by_cases hk:(k == NameKind.free)=true
  ·rw[if_pos hk]at h
   have e:k = .free:=by cases k<;>first|rfl|(exact absurd hk (by decide))
   subst e
   obtain⟨d,hd⟩:=hn n RX
   refine X6 r _ (fun m hm=>hn m (RH _ hm)) (fun y e hy=>?_) h
   rw[Tu]at hy
   split at hy
   ·rename_i hz
    have hz':y=n:=by simpa using hz
    subst hz'
    rw[hd]at hy ⊢
    cases hy;rfl
   ·exact ha y e hy
  ·rw[if_neg hk]at h
   exact X6 r _ (fun m hm=>hn m (RH _ hm)) ha h
theorem bw{cells:List (Str × Addr)}{x:Str}:∀(names:List (Str × NameKind)) (acc:List (Str × Addr)),((x,NameKind.free)∈names ∨ ∃ c,acc.lookup x=some c)→∃ c,(aB cells names acc).lookup x=some c
 | [],acc,h=>by
  rcases h with h|h
  ·cases h
  ·exact h
 | (n,k) :: r,acc,h=>by
  unfold aB
  by_cases hk:(k == NameKind.free)=true
  ·rw[if_pos hk]
   refine bw r _ ?_
   by_cases hx:x=n
   ·right;rw[Tu];simp[hx]
   ·rcases h with h|⟨c,h⟩
    ·rcases RC.mp h with z|z
     ·injection z with z1 _;exact absurd z1 hx
     ·exact .inl z
    ·right
     refine⟨c,?_⟩
     rw[Tu]
     have:(x == n)=false:=by simpa using hx
     rw[this];exact h
  ·rw[if_neg hk]
   refine bw r _ ?_
   rcases h with h|h
   ·rcases RC.mp h with z|z
    ·injection z with _ z2
     subst z2
     exact absurd rfl hk
    ·exact .inl z
   ·exact .inr h
theorem fA{scope:Scope}{env:Env}{x:Str}{k:NameKind}(h:(relabel scope env).names.lookup x=some k)(hk:k = .cell∨k = .free)(hcell:∀ y∈scope.names,y.2 ≠ .cell):(x,NameKind.free)∈scope.names:=by
 have go:∀(l:List (Str × NameKind)),(∀ y∈l,y.2 ≠ .cell)→(l.map fun(n,k)=>if (k == NameKind.free && env.scope.kind == .function && env.kindOf n == some .cell)=true then(n,NameKind.cell)else(n,k)).lookup x=some k→(x,NameKind.free)∈l:=by
  intro l
  induction l with
  | nil=>intro _ h;cases h
  | cons p r ih =>
   intro hl h
   obtain⟨n,j⟩:=p
   rw[Sh,Tu]at h
   by_cases hj:j = .free
   ·subst hj
    by_cases hx:x=n
    ·subst hx;exact RX
    ·refine RH _ (ih (fun y hy=>hl y (RH _ hy)) ?_)
     have e:∀ b:Bool,(x == (if b=true then(n,NameKind.cell)else(n,NameKind.free)).1)=false:=fun b=>by cases b<;>simpa using hx
     dsimp only at h
     rw[e]at h
     exact h
   ·have e:(j == NameKind.free)=false:=by simpa using hj
    have hc:=hl (n,j) RX
    dsimp only at h
    rw[e]at h
    simp only[Wb,So,if_false]at h
    by_cases hx:x=n
    ·have:(x == n)=true:=by simpa using hx
     rw[this]at h
     have h':j=k:=by simpa using h
     subst h'
     rcases hk with z|z
     ·exact absurd z hc
     ·exact absurd z hj
    ·have:(x == n)=false:=by simpa using hx
     rw[this]at h
     exact RH _ (ih (fun y hy=>hl y (RH _ hy)) h)
 exact go scope.names hcell h
noncomputable def cxF(X:Cx)(scope:Scope)(cl:List (Str × Addr))(N':List Str)(s3:Shared)(H3:Hp)(C:Addr)(fp:List Addr)(pins:List (Addr × Obj)):Cx :=
 { X with N:=N',s₀:=s3,H₀:=H3,env:=compEnvC scope cl C X.env,outer:=X.stack,ex:=fp,fn:=fun _=>false,pn:=X.pn++pins,xe:=fun _ _=>False }
noncomputable def pf(n:Nat)(caps:List Nat)(σ:St):St:=Tf n none++caps.map fun i=>(σ[i]?).getD none
def sQ(n:Nat)(caps:List Nat)(wi:TI)(g:TG)(tc:TT)(te:TE):TE:=fun σ H Q=>wi σ H fun J H1=>∀ D,H1 D=none→∃ W:Nat→Nat→Hp→Prop,(∃ m,W 0 m (upd H1 D (.lst [])))∧∀ i m H,W i m H →
 (J.stop i H∧Q (.ref D) H)∨(J.go i H∧∀ x H',J.yld i H x H'→g x (pf n caps σ) H' fun σ2 H2=>tc σ2 H2 fun b H2'=>if b=true then te σ2 H2' fun v H3=>∃ ys,H3 D=some (.lst ys)∧ys.length<sizeLine∧∃ m',m'<m∧W (i+1) m' (upd H3 D (.lst (ys++[v])))else ∃ m',m'<m∧W (i+1) m' H2')
section
variable {X:Cx} {elt tg iter:Expr} {scope:Scope} {cl:List (Str × Addr)} {tgs cps:List Str} {caps:List Nat} {wi:TI} {g:TG} {tc:TT} {te:TE} {pos:Pos} {ifs:List Expr}
def CB(s3:Shared)(H3:Hp)(fp:List Addr)(cl:List (Str × Addr))(x:Str)(v:V):Prop :=
 ∃(u:Value) (c:Addr) (o:Obj),u6 v u∧cl.lookup x=some c∧s3.heap.get? c=some o∧o.data = .cell (some u)∧H3 c=none∧c∉fp
theorem Inv.reset{pins pins':List (Addr × Obj)}{σ0 σ':St}{H3 H':Hp}{s3 s':Shared}{fp:List Addr}{C:Addr}(I:Inv (cxF X scope cl (tgs++cps) s3 H3 C fp pins) pins' σ' H' s')
  (hsc:∀ x∈cps,(relabel scope X.env).names.lookup x=some .cell∨(relabel scope X.env).names.lookup x=some .free) (hl:caps.length=cps.length)
  (hc:∀(j:Nat) (x:Str) (v:V),cps[j]? = some x→(caps.map fun i=>(σ0[i]?).getD none)[j]? = some (some v)→CB s3 H3 fp cl x v) :
  Inv (cxF X scope cl (tgs++cps) s3 H3 C fp pins) pins' (pf tgs.length caps σ0) H' s':=by
 obtain⟨m,hn,_⟩:=I.loc
 refine⟨I.ok,I.os,I.bare,I.base,⟨m,hn,fun i x v e1 e2 e3=>?_⟩,I.cell,I.free,I.freeC,I.pin,I.hok,by simp[pf,cxF,hl]⟩
 have e1:(tgs++cps)[i]? = some x:=e1
 unfold pf at e2
 rw[SH]at e1 e2
 rw[TL]at e2
 by_cases hi:i<tgs.length
 ·rw[if_pos hi]at e2
  rw[SK]at e2
  split at e2<;>cases e2
 ·rw[if_neg hi]at e1 e2
  obtain⟨u,c,o,r,h1,h2,h3,h4,h5⟩:=hc (i - tgs.length) x v e1 e2
  obtain⟨sl,k⟩:=I.base.any h2 h4 h5
  refine⟨u,r,.inr ⟨?_,c,h1,_,k,h3⟩⟩
  rcases hsc x (Rg e1)with z|z
  ·exact .inl z
  ·exact .inr z
theorem rZ{pins:List (Addr × Obj)}{σ0:St}{σ:St}{H3:Hp}{s3:Shared}{fp:List Addr}{it D C:Addr}{tn:Nat→Heap→Prop}{J:It}{h₁:Heap}{tk:Nat}{m:Str→Option Value}{R:Result→Shared→Prop}{Qd:Hp→Prop}
  (hc:X.calm=true) (hcell:∀ x∈scope.names,x.2 ≠ .cell) (hkind:scope.kind = .function)
  (hcl:∀ x c,cl.lookup x=some c→X.env.cells.lookup x=some c) (hhas:∀ x,(x,NameKind.free)∈scope.names→∃ c,cl.lookup x=some c)
  (hsc:∀ x∈cps,(relabel scope X.env).names.lookup x=some .cell∨(relabel scope X.env).names.lookup x=some .free) (hl:caps.length=cps.length)
  (hcap:∀(j:Nat) (x:Str) (v:V),cps[j]? = some x→(caps.map fun i=>(σ0[i]?).getD none)[j]? = some (some v)→CB s3 H3 fp cl x v)
  (hg:∀ cl s3 H3 C fp pins,PG (cxF X scope cl (tgs++cps) s3 H3 C fp pins) tg g) (hq:∀ cl s3 H3 C fp pins,eZ (cxF X scope cl (tgs++cps) s3 H3 C fp pins) ifs tc) (he:∀ cl s3 H3 C fp pins,PE (cxF X scope cl (tgs++cps) s3 H3 C fp pins) elt te)
  (I3:Inv X pins σ H3 s3) (T:pq X.prog X.w X.K tg J fp it tn) (st3:tn 0 s3.heap) (f3:∀ b∈fp,cS X pins H3 b) (hC:C=s3.heap.objs.size) (hn:h₁.Ns C m) (hk:∀ b o,s3.heap.get? b=some o→h₁.get? b=some o)
  (W:Nat→Nat→Hp→Prop) (m0:Nat) (w0:W 0 m0 H3)
  (turn:∀ i m H,W i m H→(J.stop i H∧Qd H)∨(J.go i H∧∀ x H',J.yld i H x H'→g x (pf tgs.length caps σ0) H' fun σ2 H2=>tc σ2 H2 fun b H2'=>if b=true then te σ2 H2' fun v H3=>∃ ys,H3 D=some (.lst ys)∧ys.length<sizeLine∧∃ m',m'<m∧W (i+1) m' (upd H3 D (.lst (ys++[v])))else ∃ m',m'<m∧W (i+1) m' H2'))
  (hR:∀ s' H' σ',Inv (cxF X scope cl (tgs++cps) s3 H3 C fp pins) [] σ' H' s'→Qd H'→R (.ok .next) s') :
  codeAny (model X.prog X.w) X.A (.compStart (.ListComp elt [⟨tg,iter,ifs,0⟩] scope pos) 0 (.ref it) (.ref D) (compEnvC scope cl C X.env)) R { s3 with heap:=h₁,toks:=tk }:=by
 have lt3:∀ b∈fp,b<s3.heap.objs.size:=fun b hb=>by
  obtain⟨o,e,_⟩:=T.obj 0 _ st3 b hb
  exact Rt e
 have ok':(cxF X scope cl (tgs++cps) s3 H3 C fp pins).Ok:={
  mod:=I3.ok.mod
  kind:=hkind
  glob:=I3.ok.glob
  blt:=I3.ok.blt
  above:=UN hC.symm
  inj:=fun x y c e e'=>I3.ok.inj x y c (hcl x c e) (hcl y c e')
  has:=fun x h=>by
   rcases h with h|h
   ·exact hhas x (fA h (.inl rfl) hcell)
   ·exact hhas x (fA h (.inr rfl) hcell)
  cab:=fun x c h=>by cases h
  hd:=fun _=>I3.ok.hd hc
  frames:=I3.ok.frames
  stk:=.inl rfl
  exf:=fun b hb=>⟨fun z=>by
   have z':b=C:=z
   have h1:=lt3 b hb
   rw[z',hC]at h1
   exact SJ _ h1,fun x c e=>(f3 b hb).2.2.2.2.1 x c (hcl x c e)⟩
  bs:=fun b o e=>I3.bs b o e
  bsz:=Ro I3.ok.bsz I3.sz
  noex:=fun b o e hb=>by
   obtain⟨_,_,_,q,_⟩:=f3 b hb
   rcases q with q|q
   ·exact I3.ok.noex b o e q
   ·have h1:=Rt e
    exact absurd (Rk (Rk h1 I3.ok.bsz) q) (SJ _)
  exfs:=fun b hb z=>by
   obtain⟨_,q1,q2,_⟩:=f3 b hb
   rcases RC.mp (I3.stkSub b z)with y|y
   ·exact q1 y
   ·exact q2 y
  funs:=I3.stack
  frf:=I3.stkFree }
 have J0:Inv (cxF X scope cl (tgs++cps) s3 H3 C fp pins) [] (Tf (tgs++cps).length none) H3 { s3 with heap:=h₁,toks:=tk }:={
  ok:=ok'
  os:=rfl
  bare:=I3.bare
  base:=Un.kept hk
  loc:=⟨m,hn,fun i x v _ e _=>by
   rw[SK]at e
   split at e<;>cases e⟩
  cell:=fun x c e=>by
   obtain⟨v,o,ho,hd⟩:=I3.cell x c (hcl x c e)
   exact⟨v,o,hk c o ho,hd⟩
  free:=I3.hok.fresh (UN hC.symm)
  freeC:=fun x c e=>I3.freeC x c (hcl x c e)
  pin:=fun p hp=>by
   have hp':p∈X.pn++pins:=by simpa[cxF]using hp
   obtain⟨a1,a2,a3,a4,a5⟩:=I3.pin p hp'
   refine⟨hk _ _ a1,a2,fun z=>?_,fun z=>?_,a5⟩
   ·have z':p.1=C:=z
    have h1:=Rt a1
    rw[z',hC]at h1
    exact SJ _ h1
   ·rcases RC.mp (I3.stkSub _ z)with y|y
    ·exact a3 y
    ·exact a4 y
  hok:=I3.hok.kept hk
  len:=by simp[cxF] }
 have stat:∀{H':Hp},(∀ b∈fp,H' b=none)→∀ b∈fp,cS (cxF X scope cl (tgs++cps) s3 H3 C fp pins) [] H' b:=fun hn b hb=>by
  obtain⟨_,_,_,_,_,q⟩:=f3 b hb
  exact⟨hn b hb,(ok'.exf b hb).1,ok'.exfs b hb,.inl hb,(ok'.exf b hb).2,fun p hp=>q p (by simpa[cxF]using hp)⟩
 have loop:codeAny (model X.prog X.w) X.A (.compLoop (.ListComp elt [⟨tg,iter,ifs,0⟩] scope pos) 0 (.ref it) (.ref D) (compEnvC scope cl C X.env)) R { s3 with heap:=h₁,toks:=tk }:=by
  refine pd (fun n s'=>∃ i σ' H',Inv (cxF X scope cl (tgs++cps) s3 H3 C fp pins) [] σ' H' s'∧tn i s'.heap∧(∀ b∈fp,H' b=none)∧W i n H') ?_ m0
   ⟨0,_,H3,J0,T.keep _ _ _ st3 fun b hb o e=>hk b o e,fun b hb=>(f3 b hb).1,w0⟩
  rintro n s4 ⟨i,σ4,H4,I4,st4,fr4,w4⟩
  rcases turn i n H4 w4 with⟨stop,qn⟩|⟨go,step⟩
  ·refine thn (T.done (cxF X scope cl (tgs++cps) s3 H3 C fp pins) rfl rfl rfl hc i [] s4 σ4 H4 _ I4 (stat fr4) st4 stop) fun r s5 zz=>?_
   obtain⟨hr,I5⟩:=zz
   subst hr
   exact hR s5 H4 σ4 I5 qn
  ·refine thn (T.item (cxF X scope cl (tgs++cps) s3 H3 C fp pins) rfl rfl rfl hc i [] s4 σ4 H4 _ I4 (stat fr4) st4 go) fun r s5 zz=>?_
   obtain⟨u,hr,h5⟩:=zz
   subst hr
   refine thn h5 fun _ s6 zz=>?_
   obtain⟨x,H6,I6,r6,y6,st6,fr6⟩:=zz
   have I6w:=I6.reset hsc hl hcap
   have I6':=I6w.pinned (stat fr6) (T.obj _ _ st6)
   refine wpAny_mono (hg cl s3 H3 C fp pins _ s6 _ H6 x u _ I6' r6 (step x H6 y6)) (fun _ s7 ⟨σ7,H7,I7,q7⟩=>?_) fun _ _ z=>z.elim
   refine wpAny_mono (hq cl s3 H3 C fp pins _ s7 σ7 H7 _ I7 q7) (fun b s7' ⟨H7',I7',q7'⟩=>?_) fun _ _ z=>z.elim
   cases b with
   | false =>
    obtain⟨m',hm,w8⟩:=q7'
    refine⟨m',hm,i+1,σ7,H7',I7'.unpinned,T.keep _ _ _ st6 fun b hb o e=>(I7'.pin (b,o) (RN _ (RN _ (K3 hb e)))).1,fun b hb=>?_,w8⟩
    obtain⟨o,e,d⟩:=T.obj _ _ st6 b hb
    exact(I7'.pin (b,o) (RN _ (RN _ (K3 hb e)))).2.1
   | true =>
    refine wpAny_mono (he cl s3 H3 C fp pins _ s7' σ7 H7' _ I7' q7') (fun v s8 ⟨y,H8,I8,r8,q8⟩=>?_) fun _ _ z=>z.elim
    obtain⟨ys,hy,hz,m',hm,w8⟩:=q8
    refine wpAny_mono (mE (X:=cxF X scope cl (tgs++cps) s3 H3 C fp pins) _ s8 σ7 H8 (.ref D) [y] (.ref D) [v] (fun _ H9=>W (i+1) m' H9) I8 rfl (.cons r8 .nil) ⟨D,ys,y,rfl,rfl,hy,hz,w8⟩) (fun _ s9 ⟨_,H9,I9,_,w9⟩=>?_) fun _ _ z=>z.elim
    refine⟨m',hm,i+1,σ7,H9,I9.unpinned,T.keep _ _ _ st6 fun b hb o e=>(I9.pin (b,o) (RN _ (RN _ (K3 hb e)))).1,fun b hb=>?_,w9⟩
    obtain⟨o,e,d⟩:=T.obj _ _ st6 b hb
    exact(I9.pin (b,o) (RN _ (RN _ (K3 hb e)))).2.1
 exact codeAny_compStart_list loop (T.self _ 0 _ _ _ (T.keep _ _ _ st3 fun b hb o e=>hk b o e) loop)
theorem mO(hc:X.calm=true)(hcell:∀ x∈scope.names,x.2 ≠ .cell)(hkind:scope.kind = .function)(hnames:∀ x∈scope.names,x.2 = .local→scope.names.lookup x.1=some .local)
  (hfr:∀ x∈scope.names,x.2 = .free→x.1∈cps) (hN:caps.map (fun i=>X.N[i]?)=cps.map some) (hX:∀ x∈cps,X.env.scope.names.lookup x=some .cell∧scope.names.lookup x=some .free)
  (hsc:∀ x∈cps,(relabel scope X.env).names.lookup x=some .cell∨(relabel scope X.env).names.lookup x=some .free)
  (hi:PI X tg iter wi) (hg:∀ cl s3 H3 C fp pins,PG (cxF X scope cl (tgs++cps) s3 H3 C fp pins) tg g) (hq:∀ cl s3 H3 C fp pins,eZ (cxF X scope cl (tgs++cps) s3 H3 C fp pins) ifs tc) (he:∀ cl s3 H3 C fp pins,PE (cxF X scope cl (tgs++cps) s3 H3 C fp pins) elt te)
  (hs:∀ x,foldedSetIterable iter X.env x=pure x) {use:Option (Value→Sem Unit)} {Qf:Value→Shared→Prop} {pins:List (Addr × Obj)} {s:Shared} {σ:St} {H:Hp} {Q:VK} (I:Inv X pins σ H s) (h:sQ tgs.length caps wi g tc te σ H Q)
  (hU:∀(D C:Addr) (s':Shared) (H4:Hp) (m4:Str→Option Value),s'.heap.Ns C m4→cS X pins H4 C→(∀ h',Heap.SameBut C s'.heap h'→Inv X pins σ H4 { s' with heap:=h' })→Q (.ref D) H4→compPost (model X.prog X.w) X.A X.xe use Qf (.ref D) C (.ok .next) s') :
  wpAny (model X.prog X.w) X.A (comprehension (.ListComp elt [⟨tg,iter,ifs,0⟩] scope pos) scope X.env (firstIterPos [⟨tg,iter,ifs,0⟩] pos) (newList []) false (eval iter X.env) use) Qf X.xe s:=by
 have hl:caps.length=cps.length:=by
  have:=congrArg Vc hN
  simpa using this
 have hcells:∀ n,(n,NameKind.free)∈scope.names→∃ c,X.env.cells.lookup n=some c:=fun n hn=>I.ok.has n (.inl (hX n (hfr _ hn rfl)).1)
 refine wpAny_comprehension_free (use:=use) rfl hs (sk hcells) hkind hnames (thn (hi pins s σ H _ I h) fun v s1 h1=>thn h1 fun itv s2 h2=>?_)
 obtain⟨it,fp,tn,J,H',e,I2,T,st2,f2,hW⟩:=h2
 subst e
 refine wpAny_newObj_type (hd:=by size_fits) (wpAny_newFunctionEnv hcell (by intro y hy;simp at hy) (fun h₁ hns₁ hsb₁=>?_) hkind)
 dsimp only at hns₁ hsb₁ ⊢
 have I3:=I2.lnew (ys:=[]) (its:=[]) (t':=s2.toks) .nil (Sb _)
 obtain⟨W,⟨m0,w0⟩,turn⟩:=hW _ I2.fresh
 have st3:tn 0 (s2.heap.push { cls:=.type "list",data:=.seq ([]:List Value).toArray }):=T.keep _ _ _ st2 fun b hb o e=>Rf _ e
 have f3:∀ b∈fp,cS X pins (upd H' s2.heap.objs.size (.lst [])) b:=fun b hb=>by
  obtain⟨q0,q⟩:=f2 b hb
  obtain⟨o,e,_⟩:=T.obj 0 _ st2 b hb
  exact⟨by rw[o7 (RY (Rt e))];exact q0,q⟩
 have old:∀ b o,(s2.heap.push { cls:=.type "list",data:=.seq ([]:List Value).toArray }).get? b=some o→h₁.get? b=some o:=fun b o e =>
  hsb₁.extBut b o (RY (Rt e)) (Rf _ e)
 have hcap:∀(j:Nat) (x:Str) (v:V),cps[j]? = some x→(caps.map fun i=>(σ[i]?).getD none)[j]? = some (some v) →
   CB { s2 with heap:=s2.heap.push { cls:=.type "list",data:=.seq ([]:List Value).toArray },toks:=s2.toks } (upd H' s2.heap.objs.size (.lst [])) fp (aB X.env.cells scope.names []) x v:=fun j x v ex ev=>by
  have hx:=hX x (Rg ex)
  have hj:(caps.map (fun i=>X.N[i]?))[j]? = some (some x):=by rw[hN,Rj,ex];rfl
  rw[Rj]at ev hj
  cases hcj:caps[j]? with
  | none=>rw[hcj]at ev;cases ev
  | some i =>
   rw[hcj]at ev hj
   have ev':(σ[i]?).getD none=some v:=by simpa using ev
   have hj':X.N[i]? = some x:=by simpa using hj
   have es:σ[i]? = some (some v):=by
    cases q:σ[i]? with
    | none=>rw[q]at ev';cases ev'
    | some w=>rw[q]at ev';rw[show w=some v by simpa using ev']
   obtain⟨m,hn,hlook⟩:=I3.loc
   obtain⟨u,ru,lk⟩:=hlook i x v hj' es (.inr (.inl hx.1))
   rcases lk with⟨k1,_⟩|⟨_,c,hc1,o,ho,hd⟩
   ·have k1':X.env.scope.names.lookup x=some .local:=k1
    rw[hx.1]at k1';cases k1'
   ·have hmem:(x,NameKind.free)∈scope.names:=by
     have hlk:=hx.2
     have go:∀ l:List (Str × NameKind),l.lookup x=some .free→(x,NameKind.free)∈l:=by
      intro l
      induction l with
      | nil=>intro z;cases z
      | cons p r ih =>
       intro z
       obtain⟨n,k⟩:=p
       rw[Tu]at z
       split at z
       ·rename_i q;have q':x=n:=by simpa using q
        have z':k = .free:=by simpa using z
        rw[q',z'];exact RX
       ·exact RH _ (ih z)
     exact go _ hlk
    obtain⟨c',hc'⟩:=bw (cells:=X.env.cells) scope.names [] (.inl hmem)
    have:=X6 scope.names [] hcells (fun y d z=>by cases z) hc'
    rw[hc1]at this
    cases this
    refine⟨u,c,o,ru,hc',ho,hd,I3.freeC x c hc1,fun hb=>?_⟩
    exact(f3 c hb).2.2.2.2.1 x c hc1 rfl
 refine rZ (s3:={ s2 with heap:=s2.heap.push { cls:=.type "list",data:=.seq ([]:List Value).toArray },toks:=s2.toks }) (Qd:=fun H=>Q (.ref s2.heap.objs.size) H) (tk:=s2.toks+([]:List (Str × Value)).length) (cl:=aB X.env.cells scope.names [])
  hc hcell hkind (fun x c z=>X6 scope.names [] hcells (fun y d z=>by cases z) z) (fun x z=>bw scope.names [] (.inl z)) hsc hl hcap hg hq he I3 T st3 f3 rfl hns₁ old W m0 w0 turn fun s' H4 σ4 I4 q4=>?_
 obtain⟨m4,hn4,_⟩:=I4.loc
 have hCfree:H4 _=none:=I4.free
 have nC:∀ b u,H4 b=some u→b≠(s2.heap.push { cls:=.type "list",data:=.seq ([]:List Value).toArray }).objs.size:=fun b u e z=>by
  rw[z]at e
  have:=e.symm.trans hCfree
  cases this
 have lt:∀ b o,(s2.heap.push { cls:=.type "list",data:=.seq ([]:List Value).toArray }).get? b=some o→b≠(s2.heap.push { cls:=.type "list",data:=.seq ([]:List Value).toArray }).objs.size:=fun b o e=>RY (Rt e)
 have ub:=I4.base
 have fC:cS X pins H4 (s2.heap.push { cls:=.type "list",data:=.seq ([]:List Value).toArray }).objs.size:=I3.fpOk (Rx _) hCfree
 refine hU _ _ s' H4 m4 hn4 fC (fun h' hsb=>?_) q4
 have un:Un (frs X.stack) fp (upd H' s2.heap.objs.size (.lst [])) H4 (s2.heap.push { cls:=.type "list",data:=.seq ([]:List Value).toArray }) h':={
  keep:=fun b o e n x y=>(hsb.2 b (lt b o e)).trans (ub.keep b o e n x y)
  slot:=fun b o e n x y=>let ⟨q,z⟩:=ub.slot b o e n x y;⟨q,(hsb.2 b (lt b o e)).trans z⟩
  free:=ub.free
  there:=fun b o e y=>let ⟨q,z⟩:=ub.there b o e y;⟨q,(hsb.2 b (lt b o e)).trans z⟩
  tups:=ub.tups
  frzs:=ub.frzs
  tbls:=ub.tbls }
 refine I3.call' (s':={ s' with heap:=h' }) I4.os un (fun b u e=>?_) I4.bare fun b hb=>?_
 ·refine(I4.hok b u e).stay (fun c v hcv q=>(hsb.2 c ?_).trans q) (fun _ q=>q) fun _ _ q=>q
  rcases hcv with z|z
  ·rw[z];exact nC b u e
  ·exact nC c _ z
 ·obtain⟨q0,q1,q2,q3,q4,q5⟩:=f3 b hb
  exact⟨q3,q1,q4,q5⟩
theorem qY(hc:X.calm=true)(hcell:∀ x∈scope.names,x.2 ≠ .cell)(hkind:scope.kind = .function)(hnames:∀ x∈scope.names,x.2 = .local→scope.names.lookup x.1=some .local)
  (hfr:∀ x∈scope.names,x.2 = .free→x.1∈cps) (hN:caps.map (fun i=>X.N[i]?)=cps.map some) (hX:∀ x∈cps,X.env.scope.names.lookup x=some .cell∧scope.names.lookup x=some .free)
  (hsc:∀ x∈cps,(relabel scope X.env).names.lookup x=some .cell∨(relabel scope X.env).names.lookup x=some .free)
  (hi:PI X tg iter wi) (hg:∀ cl s3 H3 C fp pins,PG (cxF X scope cl (tgs++cps) s3 H3 C fp pins) tg g) (hq:∀ cl s3 H3 C fp pins,eZ (cxF X scope cl (tgs++cps) s3 H3 C fp pins) ifs tc) (he:∀ cl s3 H3 C fp pins,PE (cxF X scope cl (tgs++cps) s3 H3 C fp pins) elt te)
  (hs:∀ x,foldedSetIterable iter X.env x=pure x:=by intro _;rfl):PE X (.ListComp elt [⟨tg,iter,ifs,0⟩] scope pos) (sQ tgs.length caps wi g tc te):=by
 intro pins s σ H Q I h
 rw[eval_ListComp]
 exact mO hc hcell hkind hnames hfr hN hX hsc hi hg hq he hs I h fun D C s' H4 m4 hn4 fC hI q4=>⟨m4,hn4,fun h' hsb=>⟨.ref D,H4,hI h' hsb,rfl,q4⟩⟩
def PU(X:Cx)(i:Nat)(x:Str)(pos':Pos)(e:Expr)(te:TE):Prop:=∀(pins:List (Addr × Obj)) (s:Shared) (σ:St) (H:Hp) (Q:VK),Inv X pins σ H s→te σ H Q →
 wpAny (model X.prog X.w) X.A (evalThenUse e X.env (assign (.Name x pos') X.env)) (fun _ s'=>∃ v H',Inv X pins (σ.set i (some v)) H' s'∧Q v H') X.xe s
theorem PU.imp{X:Cx}{i:Nat}{x:Str}{pos':Pos}{e:Expr}{t t':TE}(h:PU X i x pos' e t)(f:∀ σ H Q,t' σ H Q→t σ H Q):PU X i x pos' e t':=fun pins s σ H Q I q=>h pins s σ H Q I (f σ H Q q)
theorem vW{i:Nat}{x:Str}{pos' pos:Pos}{e:Expr}{te:TE}(h:PU X i x pos' e te)(hs:swapsWith e (some (.Name x pos')) pos.line X.env=pure true):PS X (.Assign [.Name x pos'] e pos) (HC te (BA i)):=by
 intro pins s σ H D I q
 rw[exec_Assign_Name_used _ _ _ _ hs]
 refine QZ (wpAny_standAt (QZ (thn (h pins s σ H _ I q) fun _ s1 ⟨v,H1,I1,q1⟩=>Rn ?_)))
 exact⟨_,H1,I1,q1⟩
theorem qV(hc:X.calm=true)(hcell:∀ x∈scope.names,x.2 ≠ .cell)(hkind:scope.kind = .function)(hnames:∀ x∈scope.names,x.2 = .local→scope.names.lookup x.1=some .local)
  (hfr:∀ x∈scope.names,x.2 = .free→x.1∈cps) (hN:caps.map (fun i=>X.N[i]?)=cps.map some) (hX:∀ x∈cps,X.env.scope.names.lookup x=some .cell∧scope.names.lookup x=some .free)
  (hsc:∀ x∈cps,(relabel scope X.env).names.lookup x=some .cell∨(relabel scope X.env).names.lookup x=some .free)
  (hi:PI X tg iter wi) (hg:∀ cl s3 H3 C fp pins,PG (cxF X scope cl (tgs++cps) s3 H3 C fp pins) tg g) (hq:∀ cl s3 H3 C fp pins,eZ (cxF X scope cl (tgs++cps) s3 H3 C fp pins) ifs tc) (he:∀ cl s3 H3 C fp pins,PE (cxF X scope cl (tgs++cps) s3 H3 C fp pins) elt te)
  {i:Nat} {x:Str} {pos':Pos} (hNd:X.N.Nodup) (hxi:X.N[i]? = some x) (hx:Loc X.env.scope x) (hf:X.fn x=true∨X.env.scope.names.lookup x=some .local)
  (hs:∀ x,foldedSetIterable iter X.env x=pure x:=by intro _;rfl):PU X i x pos' (.ListComp elt [⟨tg,iter,ifs,0⟩] scope pos) (sQ tgs.length caps wi g tc te):=by
 intro pins s σ H Q I h
 refine QZ (thn (mO (use:=some (assign (.Name x pos') X.env)) (Qf:=fun _ s'=>∃ v H',Inv X pins (σ.set i (some v)) H' s'∧Q v H') hc hcell hkind hnames hfr hN hX hsc hi hg hq he hs I h fun D C s' H4 m4 hn4 fC hI q4=>?_) fun _ s1 z=>Rn z)
 have I4:Inv X pins σ H4 s':=hI s'.heap (Heap.SameBut.refl _ _)
 show wpAny _ _ (assign (.Name x pos') X.env (.ref D)) _ _ s'
 refine wpAny_assign_Name (mn (v:=.ref D) I4 hNd hxi hx rfl (fun s2 I2 ⟨a,hsb,ha⟩=>?_) hf)
 have hac:C≠a:=by
  rcases ha with ha|ha
  ·rw[ha];exact fC.2.1
  ·exact Ne.symm (fC.2.2.2.2.1 x a ha)
 refine⟨m4,hn4.sameBut hsb hac,fun h' hs'=>⟨.ref D,H4,?_,q4⟩⟩
 exact I2.turned (t':=s2.toks) (fun b o hb e=>hs'.extBut b o hb e) fC.1 fC.2.1 fC.2.2.2.1 fC.2.2.2.2.1 fC.2.2.2.2.2
end
end L2
namespace L2
open PySem
noncomputable def SI:Bool→Heap→Addr→Addr→Nat→Prop
 | true,h,it,a,i=>h.IsListIter it a i
 | false,h,it,a,i=>h.IsTupleIter it a i
noncomputable def SS:Bool→Heap→Addr→Array Value→Prop
 | true,h,a,xs=>h.IsList a xs
 | false,h,a,xs=>h.IsTuple a xs
theorem SI.at{k:Bool}{h h':Heap}{it a:Addr}{i:Nat}(x:SI k h it a i)(f:∀ o,h.get? it=some o→h'.get? it=some o):SI k h' it a i:=by
 cases k<;>(obtain⟨o,e,r⟩:=x;exact⟨o,f o e,r⟩)
theorem SS.at{k:Bool}{h h':Heap}{a:Addr}{xs:Array Value}(x:SS k h a xs)(f:∀ o,h.get? a=some o→h'.get? a=some o):SS k h' a xs:=by
 cases k<;>(obtain⟨o,e,r⟩:=x;exact⟨o,f o e,r⟩)
theorem SI.obj{k:Bool}{h:Heap}{it a:Addr}{i:Nat}(x:SI k h it a i):∃ o,h.get? it=some o∧∀ v,o.data ≠ .cell v:=by
 cases k<;>(obtain⟨o,e,c,d⟩:=x;exact⟨o,e,fun v z=>by rw[d]at z;cases z⟩)
theorem SS.obj{k:Bool}{h:Heap}{a:Addr}{xs:Array Value}(x:SS k h a xs):∃ o,h.get? a=some o:=by
 cases k<;>(obtain⟨o,e,_⟩:=x;exact⟨o,e⟩)
section
variable {prog:Program} {w:World} {A:Around} {E:Value→Shared→Prop} {s:Shared}
theorem xh{p t:Addr}{n:Nat}{xs:Array Value}{v:Value}{Q:Value→Shared→Prop}(hp:s.heap.IsTupleIter p t n)(ht:s.heap.IsTuple t xs)(hv:xs[n]? = some v)
  (q:∀ h',h'.IsTupleIter p t (n+1)→Heap.SameBut p s.heap h'→Q v { s with heap:=h' }):wpAny (model prog w) A (Builtin.SmallTypes.nextOf (.ref p)) Q E s:=by
 obtain⟨ob,e1,e2,e3⟩:=id hp
 obtain⟨ot,f1,_,cap,f2⟩:=ht
 unfold Builtin.SmallTypes.nextOf
 refine QZ (wpAny_callSpecial?_slot (name:=Str.ofString "__next__") hp.typeIs F.slot_tuple_iterator_next (wpAny_call_entry F.slot_tuple_iterator_next hp.typeIs F.entry_tuple_iterator_next ?_ (F.args_tuple_iterator_next_1 _)))
 show wpAny _ _ (field (.ref p) 0 >>= _) _ _ s
 refine QZ (wpAny_field e1 e3 (x:=.ref t) rfl ?_)
 show wpAny _ _ (if (Value.ref t == Value.none)=true then _ else _) _ _ s
 rw[if_neg (fun z:(Value.ref t == Value.none)=true=>nomatch z)]
 show wpAny _ _ (field (.ref p) 1 >>= _) _ _ s
 refine QZ (wpAny_field e1 e3 (x:=.int n 0) rfl ?_)
 show wpAny _ _ (seqItems? (.ref t) >>= _) _ _ s
 refine QZ (wpAny_seqItems f1 f2 ?_)
 simp only[SD,hv]
 refine QZ (wpAny_setField e1 e3 (by simp) (Rn ⟨v,rfl,Rn (q _ ⟨_,Sd _ e1 (Obj.isFreed_of_fields (Obj.data_mapFields e3 _)),(Obj.cls_mapFields ..).trans e2,?_⟩ (Heap.SameBut.update ..))⟩))
 rw[Obj.data_mapFields e3];simp[rawInt]
theorem zN{p t:Addr}{n:Nat}{xs:Array Value}{Q:Value→Shared→Prop}(hA:A.handled=none)(hp:s.heap.IsTupleIter p t n)(ht:s.heap.IsTuple t xs)(hv:xs[n]? = none)
  (q:∀ h' e,Heap.ExtBut p s.heap h'→(∃ o,h'.get? e=some o∧o.cls = .type "StopIteration")→E (.ref e) { s with heap:=h' }):wpAny (model prog w) A (Builtin.SmallTypes.nextOf (.ref p)) Q E s:=by
 obtain⟨ob,e1,e2,e3⟩:=id hp
 obtain⟨ot,f1,_,cap,f2⟩:=ht
 unfold Builtin.SmallTypes.nextOf
 refine QZ (wpAny_callSpecial?_slot (name:=Str.ofString "__next__") hp.typeIs F.slot_tuple_iterator_next (wpAny_call_entry F.slot_tuple_iterator_next hp.typeIs F.entry_tuple_iterator_next ?_ (F.args_tuple_iterator_next_1 _)))
 show wpAny _ _ (field (.ref p) 0 >>= _) _ _ s
 refine QZ (wpAny_field e1 e3 (x:=.ref t) rfl ?_)
 show wpAny _ _ (if (Value.ref t == Value.none)=true then _ else _) _ _ s
 rw[if_neg (fun z:(Value.ref t == Value.none)=true=>nomatch z)]
 show wpAny _ _ (field (.ref p) 1 >>= _) _ _ s
 refine QZ (wpAny_field e1 e3 (x:=.int n 0) rfl ?_)
 show wpAny _ _ (seqItems? (.ref t) >>= _) _ _ s
 refine QZ (wpAny_seqItems f1 f2 ?_)
 simp only[SD,hv]
 refine QZ (wpAny_rule (QZ (wpAny_setField e1 e3 (by simp) ?_)))
 show wpAny _ _ (newExc (.type "StopIteration") [] >>= _) _ _ _
 refine QZ ?_;simp only[newExc,newTuple]
 refine QZ (wpAny_newObj_type ?_ (by size_fits));refine QZ (m:=firstArgMember _ _) (wpAny_of_eq (a:=Value.none) (by first|rfl|(simp only[firstArgMember];rfl)) ?_)
 refine wpAny_newObj_type ?_ (by size_fits);simp only[raiseNew];refine QZ (wpAny_handled ?_)
 first|rw[show A.in1.handled=none from hA]|rw[hA]
 refine QZ (Rn (wpAny_throw (q _ _ (((Heap.SameBut.update ..).extBut.push _).push _) ⟨_,Rp _ rfl,rfl⟩)))
theorem gc{k:Bool}{p a:Addr}{n:Nat}{xs:Array Value}{v:Value}{Q:Value→Shared→Prop}(hp:SI k s.heap p a n)(ha:SS k s.heap a xs)(hv:xs[n]? = some v)
  (q:∀ h',SI k h' p a (n+1)→Heap.SameBut p s.heap h'→Q v { s with heap:=h' }):wpAny (model prog w) A (Builtin.SmallTypes.nextOf (.ref p)) Q E s:=by
 cases k with
 | true=>exact wpAny_nextOf_list_item hp ha hv q
 | false=>exact xh hp ha hv q
theorem sW{k:Bool}{p a:Addr}{n:Nat}{xs:Array Value}{Q:Value→Shared→Prop}(hA:A.handled=none)(hp:SI k s.heap p a n)(ha:SS k s.heap a xs)(hv:xs[n]? = none)
  (q:∀ h' e,Heap.ExtBut p s.heap h'→(∃ o,h'.get? e=some o∧o.cls = .type "StopIteration")→E (.ref e) { s with heap:=h' }):wpAny (model prog w) A (Builtin.SmallTypes.nextOf (.ref p)) Q E s:=by
 cases k with
 | true=>exact wpAny_nextOf_list_end hA hp ha hv q
 | false=>exact zN hA hp ha hv q
theorem SI.but{k:Bool}{h h':Heap}{it a b:Addr}{i:Nat}(x:SI k h it a i)(e:Heap.ExtBut b h h')(n:it≠b):SI k h' it a i:=x.at fun o z=>e it o n z
theorem SS.but{k:Bool}{h h':Heap}{a b:Addr}{xs:Array Value}(x:SS k h a xs)(e:Heap.ExtBut b h h')(n:a≠b):SS k h' a xs:=x.at fun o z=>e a o n z
theorem CF{z TI TO p1 p2 l1 l2:Addr}{c1 c2:Bool}{n1 n2:Nat}{xs ys:Array Value}{v1 v2 u1 u2:Value}{Q:Option Value→Shared→Prop}(D:ZipApart z TI TO p1 p2 l1 l2)
  (iz:IsZip s.heap z TI TO .none) (iI:IsPair s.heap TI (.ref p1) (.ref p2)) (iO:IsPair s.heap TO u1 u2) (g1:SI c1 s.heap p1 l1 n1) (g2:SI c2 s.heap p2 l2 n2) (m1:SS c1 s.heap l1 xs) (m2:SS c2 s.heap l2 ys) (w1:xs[n1]? = some v1) (w2:ys[n2]? = some v2)
  (q:∀ h',IsZip h' z TI TO (rawInt s.heap.objs.size)→IsPair h' TO v1 v2→SI c1 h' p1 l1 (n1+1)→SI c2 h' p2 l2 (n2+1)→IsPair h' s.heap.objs.size v1 v2→h'.objs.size=s.heap.objs.size+1 →
   (∀ b o,b≠z→b≠TO→b≠p1→b≠p2→s.heap.get? b=some o→h'.get? b=some o)→Q (some (.ref s.heap.objs.size)) { s with heap:=h' }):wpAny (model prog w) A (pyNext (.ref z)) Q E s:=by
 have ty:s.TypeIs (.ref z) "zip" := ⟨_,iz,rfl⟩
 unfold pyNext
 refine QZ (wpAny_attempt (wpAny_callSpecial?_slot (name:=Str.ofString "__next__") ty F.slot_zip_next (wpAny_call_entry F.slot_zip_next ty F.entry_zip_next ?_ (F.args_zip_next_1 _))))
 show wpAny _ _ (field (.ref z) 2 >>= _) _ _ _
 refine QZ (wpAny_field iz rfl (x:=.bool false) rfl ?_)
 show wpAny _ _ (field (.ref z) 3 >>= _) _ _ _
 refine QZ (wpAny_field iz rfl (x:=.ref TI) rfl (QZ (wpAny_seqItems iI rfl ?_)))
 show wpAny _ _ (Builtin.SmallTypes.ownedTupleIsFree (.ref z) >>= _) _ _ _
 refine QZ ?_;unfold Builtin.SmallTypes.ownedTupleIsFree
 refine QZ (wpAny_field iz rfl (x:=.none) rfl (Rn ?_));simp only[if_true]
 refine QZ (wpAny_rule (QZ (wpAny_field iz rfl (x:=.ref TO) rfl (QZ (wpAny_setField_rec iz (by simp) fun ha za sa=>?_)))))
 replace za:IsZip ha z TI TO .ellipsis:=za
 refine QZ ?_;simp only[VN,VS,UP,Wc]
 refine QZ (QZ (wpAny_onRaise ?_))
 show wpAny _ _ (Builtin.SmallTypes.nextOf (.ref p1) >>= _) _ _ _
 refine QZ (gc (g1.but sa.extBut D.i1z) (m1.but sa.extBut D.l1z) w1 fun hb gb sb=>Rn ?_)
 have oB:IsPair hb TO u1 u2:=sb.extBut _ _ D.TOi1 (sa.extBut _ _ D.TOz iO)
 refine QZ (wpAny_seqItems oB rfl (QZ (wpAny_updateSeq_pair oB fun hc oC sc=>?_)))
 replace oC:IsPair hc TO v1 u2:=oC
 refine QZ (wpAny_letGo (Rn (QZ (QZ (wpAny_onRaise ?_)))))
 show wpAny _ _ (Builtin.SmallTypes.nextOf (.ref p2) >>= _) _ _ _
 refine QZ (gc (((g2.but sa.extBut D.i2z).but sb.extBut D.i12.symm).but sc.extBut D.TOi2.symm) (((m2.but sa.extBut D.l2z).but sb.extBut D.l2i1).but sc.extBut D.l2TO) w2 fun hd gd sd=>Rn ?_)
 have oD:IsPair hd TO v1 u2:=sd.extBut _ _ D.TOi2 oC
 refine QZ (wpAny_seqItems oD rfl (QZ (wpAny_updateSeq_pair oD fun he oE se=>?_)))
 replace oE:IsPair he TO v1 v2:=oE
 refine QZ (wpAny_letGo (Rn (Rn (QZ (wpAny_seqItems oE rfl (QZ (wpAny_newTuple ?_)))))))
 have zs:he.objs.size=s.heap.objs.size:=by rw[se.1,sd.1,sc.1,sb.1,sa.1]
 have zE:IsZip he z TI TO .ellipsis:=se.extBut _ _ D.TOz.symm (sd.extBut _ _ D.i2z.symm (sc.extBut _ _ D.TOz.symm (sb.extBut _ _ D.i1z.symm za)))
 have kE:∀ b o,b≠z→b≠TO→b≠p1→b≠p2→s.heap.get? b=some o→he.get? b=some o:=fun b o b1 b2 b3 b4 e=>se.extBut _ _ b2 (sd.extBut _ _ b4 (sc.extBut _ _ b2 (sb.extBut _ _ b3 (sa.extBut _ _ b1 e))))
 have gE1:SI c1 he p1 l1 (n1+1):=((gb.but sc.extBut D.TOi1.symm).but sd.extBut D.i12).but se.extBut D.TOi1.symm
 have gE2:SI c2 he p2 l2 (n2+1):=gd.but se.extBut D.TOi2.symm
 have ltz:z<he.objs.size:=Rt zE
 show wpAny _ _ (Builtin.SmallTypes.ownedTupleHandOut (.ref z) (.ref he.objs.size) >>= _) _ _ _
 refine QZ ?_;unfold Builtin.SmallTypes.ownedTupleHandOut
 refine QZ (wpAny_setField_rec (Rf _ zE) (by simp) fun hf zf sf=>?_)
 replace zf:IsZip hf z TI TO (rawInt he.objs.size):=zf
 refine wpAny_setField_rec zf (by simp) fun hg zg sg=>?_
 replace zg:IsZip hg z TI TO (rawInt he.objs.size):=zg
 have lift:∀ b o,b≠z→he.get? b=some o→hg.get? b=some o:=fun b o b1 e=>sg.extBut _ _ b1 (sf.extBut _ _ b1 (Rf _ e))
 have tG:IsPair hg he.objs.size v1 v2:=sg.extBut _ _ (Sz ltz) (sf.extBut _ _ (Sz ltz) (Rp _ rfl))
 have zz:hg.objs.size=he.objs.size+1:=by rw[sg.1,sf.1,Sr]
 rw[zs]at zg tG zz
 refine Rn ⟨_,rfl,Rn ?_⟩
 show Q (some (.ref he.objs.size)) _
 rw[zs]
 exact q hg zg (lift _ _ D.TOz oE) (gE1.at fun o e=>lift _ o D.i1z e) (gE2.at fun o e=>lift _ o D.i2z e) tG zz fun b o b1 b2 b3 b4 e=>lift b o b1 (kE b o b1 b2 b3 b4 e)
theorem Ho{z TI TO p1 p2 l1 l2:Addr}{c1 c2:Bool}{n1 n2:Nat}{xs ys:Array Value}{u1 u2:Value}{Q:Option Value→Shared→Prop}(hA:A.handled=none)(D:ZipApart z TI TO p1 p2 l1 l2)
  (iz:IsZip s.heap z TI TO .none) (iI:IsPair s.heap TI (.ref p1) (.ref p2)) (iO:IsPair s.heap TO u1 u2) (g1:SI c1 s.heap p1 l1 n1) (g2:SI c2 s.heap p2 l2 n2) (m1:SS c1 s.heap l1 xs) (m2:SS c2 s.heap l2 ys) (fin:xs[n1]? = none∨ys[n2]? = none)
  (q:∀ h',(∀ b o,b≠z→b≠TO→b≠p1→b≠p2→s.heap.get? b=some o→h'.get? b=some o)→Q none { s with heap:=h' }):wpAny (model prog w) A (pyNext (.ref z)) Q E s:=by
 have ty:s.TypeIs (.ref z) "zip" := ⟨_,iz,rfl⟩
 unfold pyNext
 have out:∀(h':Heap) (e:Addr),(∀ b o,b≠z→b≠TO→b≠p1→b≠p2→s.heap.get? b=some o→h'.get? b=some o)→(∃ o,h'.get? e=some o∧o.cls = .type "StopIteration") →
   wpAny (model prog w) A (do if ← isInstance (.ref e) (.type "StopIteration")then pure none else throw (.ref e):Sem (Option Value)) Q E { s with heap:=h' }:=fun h' e k ⟨o,e1,e2⟩ =>
  QZ (wpAny_isInstance (T := "StopIteration") (b:=true) ⟨o,e1,e2⟩ isSubtype_stop (Rn (q h' k)))
 refine QZ (wpAny_attempt (wpAny_callSpecial?_slot (name:=Str.ofString "__next__") ty F.slot_zip_next (wpAny_call_entry F.slot_zip_next ty F.entry_zip_next ?_ (F.args_zip_next_1 _))))
 show wpAny _ _ (field (.ref z) 2 >>= _) _ _ _
 refine QZ (wpAny_field iz rfl (x:=.bool false) rfl ?_)
 show wpAny _ _ (field (.ref z) 3 >>= _) _ _ _
 refine QZ (wpAny_field iz rfl (x:=.ref TI) rfl (QZ (wpAny_seqItems iI rfl ?_)))
 show wpAny _ _ (Builtin.SmallTypes.ownedTupleIsFree (.ref z) >>= _) _ _ _
 refine QZ ?_;unfold Builtin.SmallTypes.ownedTupleIsFree
 refine QZ (wpAny_field iz rfl (x:=.none) rfl (Rn ?_));simp only[if_true]
 refine QZ (wpAny_rule (QZ (wpAny_field iz rfl (x:=.ref TO) rfl (QZ (wpAny_setField_rec iz (by simp) fun ha za sa=>?_)))))
 replace za:IsZip ha z TI TO .ellipsis:=za
 refine QZ ?_;simp only[VN,VS,UP,Wc]
 refine QZ (QZ (wpAny_onRaise ?_))
 show wpAny _ _ (Builtin.SmallTypes.nextOf (.ref p1) >>= _) _ _ _
 cases w1:xs[n1]? with
 | none =>
  refine QZ (sW hA (g1.but sa.extBut D.i1z) (m1.but sa.extBut D.l1z) w1 fun hb e sb zz=>?_)
  obtain⟨oe,oe1,oe2⟩:=zz
  have zb:IsZip hb z TI TO .ellipsis:=sb _ _ D.i1z.symm za
  have nz:e≠z:=fun y=>by subst y;rw[zb]at oe1;cases oe1;simp at oe2
  refine wpAny_setField_rec zb (by simp) fun hc _ sc=>out hc e (fun b o b1 _ b3 _ y=>sc.extBut _ _ b1 (sb _ _ b3 (sa.extBut _ _ b1 y))) ⟨oe,sc.extBut _ _ nz oe1,oe2⟩
 | some v1 =>
  have w2:ys[n2]? = none:=fin.resolve_left (by rw[w1];exact fun y=>nomatch y)
  refine QZ (gc (g1.but sa.extBut D.i1z) (m1.but sa.extBut D.l1z) w1 fun hb gb sb=>Rn ?_)
  have oB:IsPair hb TO u1 u2:=sb.extBut _ _ D.TOi1 (sa.extBut _ _ D.TOz iO)
  refine QZ (wpAny_seqItems oB rfl (QZ (wpAny_updateSeq_pair oB fun hc oC sc=>?_)))
  refine QZ (wpAny_letGo (Rn (QZ (QZ (wpAny_onRaise ?_)))))
  show wpAny _ _ (Builtin.SmallTypes.nextOf (.ref p2) >>= _) _ _ _
  refine QZ (sW hA (((g2.but sa.extBut D.i2z).but sb.extBut D.i12.symm).but sc.extBut D.TOi2.symm) (((m2.but sa.extBut D.l2z).but sb.extBut D.l2i1).but sc.extBut D.l2TO) w2 fun hd e sd zz=>?_)
  obtain⟨oe,oe1,oe2⟩:=zz
  have zd:IsZip hd z TI TO .ellipsis:=sd _ _ D.i2z.symm (sc.extBut _ _ D.TOz.symm (sb.extBut _ _ D.i1z.symm za))
  have nz:e≠z:=fun y=>by subst y;rw[zd]at oe1;cases oe1;simp at oe2
  refine wpAny_setField_rec zd (by simp) fun he _ se=>out he e (fun b o b1 b2 b3 b4 y=>se.extBut _ _ b1 (sd _ _ b4 (sc.extBut _ _ b2 (sb.extBut _ _ b3 (sa.extBut _ _ b1 y))))) ⟨oe,se.extBut _ _ nz oe1,oe2⟩
end
noncomputable abbrev itO(k:Bool)(a:Addr):Obj:={ cls:=.type (if k then "list_iterator" else "tuple_iterator"),data:=.fields #[.ref a,.int 0 0] }
noncomputable abbrev zA(k1:Bool)(h:Heap)(l1:Addr):Heap:=h.push (itO k1 l1)
noncomputable abbrev zB(k1 k2:Bool)(h:Heap)(l1 l2:Addr):Heap:=(zA k1 h l1).push (itO k2 l2)
noncomputable abbrev zC(k1 k2:Bool)(h:Heap)(l1 l2:Addr):Heap:=(zB k1 k2 h l1 l2).push { cls:=.type "tuple",data:=.seq #[.ref h.objs.size,.ref (zA k1 h l1).objs.size] }
noncomputable abbrev zD(k1 k2:Bool)(h:Heap)(l1 l2:Addr):Heap:=(zC k1 k2 h l1 l2).push { cls:=.type "tuple",data:=.seq #[.none,.none] }
noncomputable abbrev zE(k1 k2:Bool)(h:Heap)(l1 l2:Addr):Heap:=(zD k1 k2 h l1 l2).push { cls:=.type "zip",data:=.fields #[.none,.bool false,.bool false,.ref (zB k1 k2 h l1 l2).objs.size,.ref (zC k1 k2 h l1 l2).objs.size] }
set_option maxHeartbeats 2000000 in
theorem Hn(k1 k2:Bool)(l1 l2:Addr)(xs ys:Array Value) :
  Meets (Builtin.«zip.__new__» ⟨[.type "zip",.ref l1,.ref l2],[]⟩) (fun _ R s=>SS k1 s.heap l1 xs∧SS k2 s.heap l2 ys∧R (.ok (.ret (.ref (zD k1 k2 s.heap l1 l2).objs.size))) { s with heap:=zE k1 k2 s.heap l1 l2 }) :=
 .of_wp fun prog w A R s h=>by
  obtain⟨hp,g,d,tk,os⟩:=s
  obtain⟨ha,hb,h⟩:=h
  have hsub:=sub_zip
  cases k1 with
  | true =>
   have a1:Heap.IsList (Shared.heap ⟨hp,g,d,tk,os⟩) l1 xs:=ha
   cases k2 with
   | true =>
    have a2:Heap.IsList (Shared.heap ⟨hp.push { cls:=.type "list_iterator",data:=.fields #[.ref l1,.int 0 0] },g,d,tk,os⟩) l2 ys:=Heap.IsList.push hb _
    wp_walk using wpAny_pyIter_list a1,wpAny_pyIter_list a2
    exact⟨_,rfl,h⟩
   | false =>
    have a2:Heap.IsTuple (Shared.heap ⟨hp.push { cls:=.type "list_iterator",data:=.fields #[.ref l1,.int 0 0] },g,d,tk,os⟩) l2 ys:=Heap.IsTuple.push hb _
    wp_walk using wpAny_pyIter_list a1,wpAny_pyIter_tuple a2
    exact⟨_,rfl,h⟩
  | false =>
   have a1:Heap.IsTuple (Shared.heap ⟨hp,g,d,tk,os⟩) l1 xs:=ha
   cases k2 with
   | true =>
    have a2:Heap.IsList (Shared.heap ⟨hp.push { cls:=.type "tuple_iterator",data:=.fields #[.ref l1,.int 0 0] },g,d,tk,os⟩) l2 ys:=Heap.IsList.push hb _
    wp_walk using wpAny_pyIter_tuple a1,wpAny_pyIter_list a2
    exact⟨_,rfl,h⟩
   | false =>
    have a2:Heap.IsTuple (Shared.heap ⟨hp.push { cls:=.type "tuple_iterator",data:=.fields #[.ref l1,.int 0 0] },g,d,tk,os⟩) l2 ys:=Heap.IsTuple.push hb _
    wp_walk using wpAny_pyIter_tuple a1,wpAny_pyIter_tuple a2
    exact⟨_,rfl,h⟩
section
variable {prog:Program} {w:World} {A:Around} {E:Value→Shared→Prop} {s:Shared}
theorem Fq{k1 k2:Bool}{l1 l2:Addr}{xs ys:Array Value}{Q:Value→Shared→Prop}(ha:SS k1 s.heap l1 xs)(hb:SS k2 s.heap l2 ys)
  (q:∀ h',IsZip h' (s.heap.objs.size+4) (s.heap.objs.size+2) (s.heap.objs.size+3) .none→IsPair h' (s.heap.objs.size+2) (.ref s.heap.objs.size) (.ref (s.heap.objs.size+1))→IsPair h' (s.heap.objs.size+3) .none .none →
   SI k1 h' s.heap.objs.size l1 0→SI k2 h' (s.heap.objs.size+1) l2 0→h'.objs.size=s.heap.objs.size+5→(∀ b o,s.heap.get? b=some o→h'.get? b=some o)→Q (.ref (s.heap.objs.size+4)) { s with heap:=h' }) :
  wpAny (model prog w) A (call (.type "zip") [.ref l1,.ref l2]) Q E s:=by
 refine callType_new F.called_zip (by decide) (F.typeCall_zip_2 _ _) (F.newCall_zip_2 _ _) (fun obj=>F.args_object_init_3 obj _ _) F.entry_zip_new (Hn k1 k2 l1 l2 xs ys) ⟨ha,hb,?_⟩
 have s1:(zA k1 s.heap l1).objs.size=s.heap.objs.size+1:=Sr ..
 have s2:(zB k1 k2 s.heap l1 l2).objs.size=s.heap.objs.size+2:=(Sr ..).trans (by rw[s1])
 have s3:(zC k1 k2 s.heap l1 l2).objs.size=s.heap.objs.size+3:=(Sr ..).trans (by rw[s2])
 have s4:(zD k1 k2 s.heap l1 l2).objs.size=s.heap.objs.size+4:=(Sr ..).trans (by rw[s3])
 have s5:(zE k1 k2 s.heap l1 l2).objs.size=s.heap.objs.size+5:=(Sr ..).trans (by rw[s4])
 have o5:(zE k1 k2 s.heap l1 l2).get? (zD k1 k2 s.heap l1 l2).objs.size=some _:=Rp _ rfl
 have up1:∀ b o,(zD k1 k2 s.heap l1 l2).get? b=some o→(zE k1 k2 s.heap l1 l2).get? b=some o:=fun b o e=>Rf _ e
 have o4:(zE k1 k2 s.heap l1 l2).get? (zC k1 k2 s.heap l1 l2).objs.size=some _:=up1 _ _ (Rp _ rfl)
 have up2:∀ b o,(zC k1 k2 s.heap l1 l2).get? b=some o→(zE k1 k2 s.heap l1 l2).get? b=some o:=fun b o e=>up1 b o (Rf _ e)
 have o3:(zE k1 k2 s.heap l1 l2).get? (zB k1 k2 s.heap l1 l2).objs.size=some _:=up2 _ _ (Rp _ rfl)
 have up3:∀ b o,(zB k1 k2 s.heap l1 l2).get? b=some o→(zE k1 k2 s.heap l1 l2).get? b=some o:=fun b o e=>up2 b o (Rf _ e)
 have o2:(zE k1 k2 s.heap l1 l2).get? (zA k1 s.heap l1).objs.size=some (itO k2 l2):=up3 _ _ (Rp _ rfl)
 have up4:∀ b o,(zA k1 s.heap l1).get? b=some o→(zE k1 k2 s.heap l1 l2).get? b=some o:=fun b o e=>up3 b o (Rf _ e)
 have o1:(zE k1 k2 s.heap l1 l2).get? s.heap.objs.size=some (itO k1 l1):=up4 _ _ (Rp _ rfl)
 have mk:∀(k:Bool) (b a:Addr),(zE k1 k2 s.heap l1 l2).get? b=some (itO k a)→SI k (zE k1 k2 s.heap l1 l2) b a 0:=fun k b a e=>by cases k<;>exact⟨_,e,rfl,rfl⟩
 show _∧_
 rw[s2,s3,s4]at o5
 rw[s1,s2]at o3
 rw[s3]at o4
 rw[s1]at o2
 rw[s4]
 exact⟨⟨_,o5,rfl⟩,q _ o5 o3 o4 (mk _ _ _ o1) (mk _ _ _ o2) s5 fun b o e=>up4 b o (Rf _ e)⟩
end
end L2
namespace L2
open PySem PySem.Spec PyProof.Rows
section
variable {X:Cx} {pins:List (Addr × Obj)} {σ:St} {H:Hp} {s:Shared} {h':Heap}
theorem Inv.turnedN{t':Nat}{ch:List Addr}(I:Inv X pins σ H s)(k:∀ b o,b∉ch→s.heap.get? b=some o→h'.get? b=some o)(hf:∀ b∈ch,cS X pins H b):Inv X pins σ H { s with heap:=h',toks:=t' }:=by
 have nit:∀ b u,H b=some u→b∉ch:=fun b u e z=>by rw[(hf b z).1]at e;cases e
 refine I.step (g':=s.gens) (d':=s.drawn) (ch:=ch) (fun b hb=>?_) (fun b o _ _ hc e _=>k b o hc e) (fun b o _ _ hc e _=>⟨o.slots,k b o hc e⟩) (fun _ _ _ _ n=>n)
  (fun b o hc e=>⟨o,k b o hc e⟩) (fun _ _ e=>e) (fun _ _ _ e=>e) (fun b ps e=>⟨#[],by rw[e];simp⟩) (fun m hm=>?_) (fun b u e=>?_) I.bare
 ·obtain⟨_,q1,_,q3,q4,q5⟩:=hf b hb
  exact⟨q3,q1,q4,q5⟩
 ·obtain⟨o,es,ep,ho,r⟩:=hm
  exact⟨o,es,ep,k _ o (fun z=>(hf _ z).2.1 rfl) ho,r⟩
 ·refine(I.hok b u e).stay (fun c v hc q=>k c v ?_ q) (fun _ q=>q) fun _ _ q=>q
  rcases hc with z|z
  ·rw[z];exact nit b u e
  ·exact nit c _ z
end
def SqK(K:Ra)(k:Bool)(H:Hp)(a:Addr)(xs:List V):Prop:=if k=true then SqL K H a xs else SqT K H a xs
theorem Inv.sqk{X:Cx}{pins:List (Addr × Obj)}{σ:St}{H:Hp}{s:Shared}(I:Inv X pins σ H s){k:Bool}{a:Addr}{xs:List V}(h:SqK X.K k H a xs):∃ its:List Value,p0 xs its∧SS k s.heap a its.toArray:=by
 cases k with
 | true =>
  obtain⟨its,r,p,_⟩:=I.list (show SqL X.K H a xs from h)
  exact⟨its,r,p.isList⟩
 | false =>
  obtain⟨its,r,p,_⟩:=I.tuple (show SqT X.K H a xs from h)
  exact⟨its,r,p⟩
theorem Inv.sqk_inj{X:Cx}{pins:List (Addr × Obj)}{σ:St}{H:Hp}{s:Shared}(I:Inv X pins σ H s){k:Bool}{a:Addr}{xs ys:List V}(h:SqK X.K k H a xs)(h2:SqK X.K k H a ys):xs=ys:=by
 cases k with
 | true=>exact I.list_inj (show SqL X.K H a xs from h) (show SqL X.K H a ys from h2)
 | false=>exact I.tuple_inj (show SqT X.K H a xs from h) (show SqT X.K H a ys from h2)
noncomputable def Itz(K:Ra)(k1 k2:Bool)(l1 l2:Addr):It :=
 ⟨fun i H=>∃ xs ys x y,SqK K k1 H l1 xs∧SqK K k2 H l2 ys∧xs[i]? = some x∧ys[i]? = some y,
  fun i H v H'=>∃ T x y,H T=none∧v = .ref T∧H'=upd H T (.tup [x,y])∧(∀ xs,SqK K k1 H l1 xs→xs[i]? = some x)∧∀ ys,SqK K k2 H l2 ys→ys[i]? = some y,
  fun i H=>∃ xs ys,SqK K k1 H l1 xs∧SqK K k2 H l2 ys∧(xs.length≤i∨ys.length≤i)⟩
def Mu(k1 k2:Bool)(z TI TO p1 p2 l1 l2:Addr)(i:Nat)(h:Heap):Prop:=IsZip h z TI TO .none∧IsPair h TI (.ref p1) (.ref p2)∧(∃ a b,IsPair h TO a b)∧SI k1 h p1 l1 i∧SI k2 h p2 l2 i
theorem zM{P:Program}{w:World}{K:Ra}{elts:List Expr}{kx:Nat}{tp:Pos}{k1 k2:Bool}{z TI TO p1 p2 l1 l2:Addr}(D:ZipApart z TI TO p1 p2 l1 l2) :
  pq P w K (.Tuple elts kx tp) (Itz K k1 k2 l1 l2) [z,TI,TO,p1,p2] z (Mu k1 k2 z TI TO p1 p2 l1 l2) where
 mem:=by simp
 obj:=fun i h ⟨iz,iI,⟨a,b,iO⟩,g1,g2⟩ c hc=>by
  simp only[RC,RS,or_false]at hc
  rcases hc with rfl|rfl|rfl|rfl|rfl
  ·exact⟨_,iz,fun v e=>by cases e⟩
  ·exact⟨_,iI,fun v e=>by cases e⟩
  ·exact⟨_,iO,fun v e=>by cases e⟩
  ·exact g1.obj
  ·exact g2.obj
 keep:=fun i h h' ⟨iz,iI,⟨a,b,iO⟩,g1,g2⟩ k=>⟨k z (by simp) _ iz,k TI (by simp) _ iI,⟨a,b,k TO (by simp) _ iO⟩,g1.at fun o e=>k p1 (by simp) o e,g2.at fun o e=>k p2 (by simp) o e⟩
 item:=by
  intro X hP hw hK hc i pins s σ H E I hf st hg
  subst hP hw hK
  obtain⟨iz,iI,⟨a,b,iO⟩,g1,g2⟩:=st
  obtain⟨xs,ys,x,y,q1,q2,hx,hy⟩:=hg
  obtain⟨is1,r1,m1⟩:=I.sqk q1
  obtain⟨is2,r2,m2⟩:=I.sqk q2
  obtain⟨u1,hu1,ru1⟩:=r1.get hx
  obtain⟨u2,hu2,ru2⟩:=r2.get hy
  refine CF D iz iI iO g1 g2 m1 m2 (v1:=u1) (v2:=u2) (by simpa using hu1) (by simpa using hu2) fun h' a1 a2 a3 a4 a5 a6 kk=>?_
  refine⟨_,rfl,?_⟩
  refine wpAny_letOwnedTupleGo_zip (s:={ s with heap:=h' }) a1 fun h2 b1 b2=>?_
  have lt:∀{c o},s.heap.get? c=some o→c≠s.heap.objs.size:=fun e=>RY (Rt e)
  have nz:s.heap.objs.size≠z:=Ne.symm (lt iz)
  have I1:Inv X pins σ (upd H s.heap.objs.size (.tup [x,y])) { s with heap:=s.heap.push { cls:=.type "tuple",data:=.seq #[u1,u2] },toks:=s.toks } :=
   I.laid (o:=.tup [x,y]) (fun b ob q=>Rf _ q) (Rx _) ⟨(show 2≤sizeLine by decide),[u1,u2],.cons ru1 (.cons ru2 .nil),IsTup.new _ _⟩
  have nfp:∀ c∈[z,TI,TO,p1,p2],c≠s.heap.objs.size:=fun c hc=>by
   simp only[RC,RS,or_false]at hc
   rcases hc with rfl|rfl|rfl|rfl|rfl
   ·exact lt iz
   ·exact lt iI
   ·exact lt iO
   ·obtain⟨o,e,_⟩:=g1.obj;exact lt e
   ·obtain⟨o,e,_⟩:=g2.obj;exact lt e
  have hf':∀ c∈[z,TI,TO,p1,p2],cS X pins (upd H s.heap.objs.size (.tup [x,y])) c:=fun c hc=>by
   obtain⟨f0,f1⟩:=hf c hc
   exact⟨by rw[o7 (nfp c hc)];exact f0,f1⟩
  have I2:Inv X pins σ (upd H s.heap.objs.size (.tup [x,y])) { s with heap:=h2,toks:=s.toks }:=by
   refine Inv.turnedN (s:={ s with heap:=s.heap.push { cls:=.type "tuple",data:=.seq #[u1,u2] },toks:=s.toks }) (t':=s.toks) (h':=h2) (ch:=[z,TI,TO,p1,p2]) I1 (fun c o hcn e=>?_) hf'
   simp only[RC,RS,or_false,not_or]at hcn
   obtain⟨n1,n2,n3,n4,n5⟩:=hcn
   refine b2.extBut c o n1 ?_
   by_cases hcs:c=s.heap.objs.size
   ·subst hcs
    have e':(s.heap.push { cls:=.type "tuple",data:=.seq #[u1,u2] }).get? s.heap.objs.size=some o:=e
    rw[Rp _ rfl]at e'
    cases e'
    exact a5
   ·have e':(s.heap.push { cls:=.type "tuple",data:=.seq #[u1,u2] }).get? c=some o:=e
    have hlt:c<s.heap.objs.size:=by
     have:=Rt e'
     rw[Sr]at this
     exact Nat.lt_of_le_of_ne (Vx this) hcs
    have hold:s.heap.get? c=some o:=by
     have:∃ o',s.heap.get? c=some o':=by
      cases q:s.heap.get? c with
      | some o'=>exact⟨o',rfl⟩
      | none=>exact absurd e' (by rw[Vy _ _ _ hcs];rw[q];exact fun z=>nomatch z)
     obtain⟨o',ho'⟩:=this
     have:=Rf { cls:=.type "tuple",data:=.seq #[u1,u2] } ho'
     rw[e']at this
     cases this;exact ho'
    exact kk c o n1 n3 n4 n5 hold
  refine⟨.ref s.heap.objs.size,_,I2,rfl,⟨_,x,y,I.hok.fresh (Rx _),rfl,rfl,fun zs hz=>by rw[I.sqk_inj hz q1];exact hx,fun zs hz=>by rw[I.sqk_inj hz q2];exact hy⟩,?_,fun c hc=>(hf' c hc).1⟩
  have lift:∀ c o,c≠z→h'.get? c=some o→h2.get? c=some o:=fun c o n e=>b2.extBut c o n e
  exact⟨b1,lift _ _ D.TIz (kk _ _ D.TIz D.TITO D.TIi1 D.TIi2 iI),⟨_,_,lift _ _ D.TOz a2⟩,a3.at fun o e=>lift _ o D.i1z e,a4.at fun o e=>lift _ o D.i2z e⟩
 done:=by
  intro X hP hw hK hc i pins s σ H E I hf st hg
  subst hP hw hK
  obtain⟨iz,iI,⟨a,b,iO⟩,g1,g2⟩:=st
  obtain⟨xs,ys,q1,q2,hx⟩:=hg
  obtain⟨is1,r1,m1⟩:=I.sqk q1
  obtain⟨is2,r2,m2⟩:=I.sqk q2
  have e1:=r1.length
  have e2:=r2.length
  refine Ho (I.ok.hd hc) D iz iI iO g1 g2 m1 m2 (hx.elim (fun h=>.inl (by simp;omega)) fun h=>.inr (by simp;omega)) fun h' kk=>⟨rfl,?_⟩
  refine I.turnedN (t':=s.toks) (ch:=[z,TI,TO,p1,p2]) (fun c o hcn e=>?_) hf
  simp only[RC,RS,or_false,not_or]at hcn
  obtain⟨n1,n2,n3,n4,n5⟩:=hcn
  exact kk c o n1 n3 n4 n5 e
 self:=fun _ _ _ _ _ st h=>wpAny_pyIter_zip st.1 h
def Nk(K:Ra)(ta:TA):TI:=fun σ H R=>ta σ H fun vs H1=>∃ k1 k2 l1 l2,vs=[.ref l1,.ref l2]∧(∃ xs,SqK K k1 H1 l1 xs)∧(∃ ys,SqK K k2 H1 l2 ys)∧R (Itz K k1 k2 l1 l2) H1
theorem Il{X:Cx}{elts:List Expr}{kx:Nat}{tp:Pos}{a b:Expr}{ta:TA}{p pos:Pos}(hg:Gl X "zip")(hm:X.mg "zip" = none)(ha:PA X [a,b] ta)
  (hs:starEach [a,b] X.env=[(false,eval a X.env),(false,eval b X.env)]:=by rfl) (hs2:starEach [b] X.env=[(false,eval b X.env)]:=by rfl):PI X (.Tuple elts kx tp) (.Call (.Name "zip" p) [a,b] [] pos) (Nk X.K ta):=by
 intro pins s σ H R I h
 refine Call_ (K4 I hg hm PyProof.Rows.boot_zip (PyProof.Rows.callWith_type1 (thn (ha pos pins s σ H _ I h) fun us s1 ⟨vs,H1,I1,r1,q1⟩=>?_) (by rw[hs,hs2]) (by rw[hs2];rfl)))
 obtain⟨k1,k2,l1,l2,e,⟨xs,q2⟩,⟨ys,q3⟩,q⟩:=q1
 subst e
 cases r1 with
 | cons r rr =>
  cases rr with
  | cons r' rr =>
   cases rr
   cases r
   cases r'
   obtain⟨is1,_,m1⟩:=I1.sqk q2
   obtain⟨is2,_,m2⟩:=I1.sqk q3
   have lt1:l1<s1.heap.objs.size:=by obtain⟨o,e⟩:=m1.obj;exact Rt e
   have lt2:l2<s1.heap.objs.size:=by obtain⟨o,e⟩:=m2.obj;exact Rt e
   refine Fq m1 m2 fun h' a1 a2 a3 a4 a5 a6 kk=>?_
   refine wpAny_pyIter_zip (s:={ s1 with heap:=h' }) a1 ?_
   have D:ZipApart (s1.heap.objs.size+4) (s1.heap.objs.size+2) (s1.heap.objs.size+3) s1.heap.objs.size (s1.heap.objs.size+1) l1 l2:=PyProof.Rows.zipApart_new lt1 lt2
   refine⟨s1.heap.objs.size+4,_,_,_,H1,rfl,I1.kept (t':=s1.toks) kk,zM D,⟨a1,a2,⟨_,_,a3⟩,a4,a5⟩,fun c hc=>?_,q⟩
   have hge:s1.heap.objs.size≤c:=by
    simp only[RC,RS,or_false]at hc
    rcases hc with rfl|rfl|rfl|rfl|rfl
    ·exact Tv _ _
    ·exact Tv _ _
    ·exact Tv _ _
    ·exact Rx _
    ·exact Tv _ _
   exact I1.fpOk hge (I1.hok.fresh hge)
section
variable {X:Cx} {pins:List (Addr × Obj)} {σ:St} {H:Hp} {s:Shared} {p:Addr}
theorem Inv.swap{a b:HO}(I:Inv X pins σ H s)(hp:H p=some a)(ha:(∀ x,a ≠ .own x)∧∀ xs,a ≠ .tup xs)(h1:∀ xs,X.H₀ p≠some (.tup xs))(h2:∀ o u,X.H₀ p≠some (.frz o u))(h3:∀ ps,X.H₀ p≠some (.tbl ps))
  (new:E4 X.prog X.w H s.heap p b):Inv X pins σ (upd H p b) s:=by
 have ne:∀{c:Addr},H c=none→c≠p:=fun{c} q z=>by subst z;rw[hp]at q;cases q
 have st:∀{c:Addr} {o:HO},E4 X.prog X.w H s.heap c o→E4 X.prog X.w (upd H p b) s.heap c o:=fun{c o} x =>
  x.stay (fun _ _ _ q=>q) (fun d q=>by
   have:d≠p:=by intro z;subst z;rw[hp]at q;cases q;exact ha.1 _ rfl
   rw[o7 this];exact q) fun d xs q=>by
   have:d≠p:=by intro z;subst z;rw[hp]at q;cases q;exact ha.2 _ rfl
   rw[o7 this];exact q
 refine⟨I.ok,I.os,I.bare,⟨I.base.keep,I.base.slot,fun c o e n x=>?_,I.base.there,fun c xs q=>?_,fun c o u q=>?_,fun c ps q=>?_⟩,I.loc,I.cell,?_,fun x c e=>?_,fun q hq=>?_,fun c o q=>?_,I.len⟩
 ·have:=I.base.free c o e n x
  rw[o7 (ne this)];exact this
 ·have:c≠p:=by intro z;subst z;exact h1 xs q
  rw[o7 this];exact I.base.tups c xs q
 ·have:c≠p:=by intro z;subst z;exact h2 o u q
  rw[o7 this];exact I.base.frzs c o u q
 ·have:c≠p:=by intro z;subst z;exact h3 ps q
  rw[o7 this];exact I.base.tbls c ps q
 ·rw[o7 (ne I.free)];exact I.free
 ·rw[o7 (ne (I.freeC x c e))];exact I.freeC x c e
 ·obtain⟨a1,a2,a3,a4,a5⟩:=I.pin q hq
  exact⟨a1,by rw[o7 (ne a2)];exact a2,a3,a4,a5⟩
 ·by_cases z:c=p
  ·subst z;rw[j7]at q;cases q;exact st new
  ·rw[o7 z]at q;exact st (I.hok c o q)
theorem Inv.freeze{xs:List V}(I:Inv X pins σ H s)(hp:H p=some (.lst xs)):∃ o,Inv X pins σ (upd H p (.frz o (.lst xs))) s:=by
 have k:=I.hok p _ hp
 obtain⟨z,its,n,r,e⟩:=id k
 refine⟨_,I.swap hp ⟨fun _ q=>(nomatch q),fun _ q=>(nomatch q)⟩ (fun ys q=>?_) (fun o u q=>?_) (fun ps q=>?_) ⟨e,k⟩⟩
 ·rw[I.base.tups p ys q]at hp;cases hp
 ·rw[I.base.frzs p o u q]at hp;cases hp
 ·obtain⟨more,q⟩:=I.base.tbls p ps q;rw[q]at hp;cases hp
structure Hj(X:Cx)(p:Addr):Prop where
 t:∀ xs,X.H₀ p≠some (.tup xs)
 f:∀ o u,X.H₀ p≠some (.frz o u)
 b:∀ ps,X.H₀ p≠some (.tbl ps)
theorem Inv.loose{xs:List V}(I:Inv X pins σ H s)(hp:H p=some (.lst xs)):Hj X p :=
 ⟨fun ys q=>(by rw[I.base.tups p ys q]at hp;cases hp),fun o u q=>(by rw[I.base.frzs p o u q]at hp;cases hp),fun ps q=>(by obtain⟨more,q⟩:=I.base.tbls p ps q;rw[q]at hp;cases hp)⟩
def La(t:TE):TE:=fun σ H Q=>t σ H fun v H1=>∃ p xs,v = .ref p∧H1 p=some (.lst xs)∧∀ o,Q v (upd H1 p (.frz o (.lst xs)))
theorem cG{x:Expr}{t:TE}(h:PE X x t):PE X x (La t):=fun pins s σ H Q I q =>
 wpAny_mono (h pins s σ H _ I q) (fun u s1 zz=>by
  obtain⟨v,H1,I1,r,p,xs,e,hp,q1⟩:=zz
  obtain⟨o,I2⟩:=I1.freeze hp
  exact⟨v,_,I2,r,q1 o⟩) fun _ _ z=>z
theorem Ia{i:Nat}{y:Str}{pos':Pos}{x:Expr}{t:TE}(h:PU X i y pos' x t):PU X i y pos' x (La t):=fun pins s σ H Q I q =>
 wpAny_mono (h pins s σ H _ I q) (fun u s1 zz=>by
  obtain⟨v,H1,I1,p,xs,e,hp,q1⟩:=zz
  obtain⟨o,I2⟩:=I1.freeze hp
  exact⟨v,_,I2,q1 o⟩) fun _ _ z=>z
def KY(t:TE):TE:=fun σ H Q=>t σ H fun v H1=>(∃ p xs,v = .ref p∧H1 p=some (.lst xs)∧∀ o,Q v (upd H1 p (.frz o (.lst xs))))∨Q v H1
theorem Ep{x:Expr}{t:TE}(h:PE X x t):PE X x (KY t):=fun pins s σ H Q I q =>
 wpAny_mono (h pins s σ H _ I q) (fun u s1 zz=>by
  obtain⟨v,H1,I1,r,z⟩:=zz
  rcases z with⟨p,xs,e,hp,q1⟩|q1
  ·obtain⟨o,I2⟩:=I1.freeze hp
   exact⟨v,_,I2,r,q1 o⟩
  ·exact⟨v,H1,I1,r,q1⟩) fun _ _ z=>z
noncomputable def dQ(p:Addr)(xs:List V):HO:=.ext fun h=>xs.length≤sizeLine∧∃(its:List Value) (n:Nat),p0 xs its∧h.get? p=some { cls:=.type "list",data:=.seq its.toArray n }
theorem Inv.hide{xs:List V}(I:Inv X pins σ H s)(hp:H p=some (.lst xs)):Inv X pins σ (upd H p (dQ p xs)) s:=by
 have k:=I.hok p _ hp
 have l:=I.loose hp
 obtain⟨z,its,n,r,e⟩:=id k
 exact I.swap hp ⟨fun _ q=>(nomatch q),fun _ q=>(nomatch q)⟩ l.t l.f l.b ⟨⟨z,its,n,r,e⟩,⟨_,e⟩,fun h1 h2 ⟨z,its,n,r,e⟩ k=>⟨z,its,n,r,k _ e⟩⟩
theorem Inv.show'{xs:List V}(I:Inv X pins σ H s)(l:Hj X p)(hp:H p=some (dQ p xs)):Inv X pins σ (upd H p (.lst xs)) s:=by
 obtain⟨k,_,_⟩:=I.hok p _ hp
 exact I.swap hp ⟨fun _ q=>(nomatch q),fun _ q=>(nomatch q)⟩ l.t l.f l.b k
def zR(p:Addr)(t:TE):TE:=fun σ H Q=>∃ xs,H p=some (.lst xs)∧t σ (upd H p (dQ p xs)) fun v H1=>H1 p=some (dQ p xs)∧Q v (upd H1 p (.lst xs))
theorem gG{x:Expr}{t:TE}(h:PE X x t):PE X x fun σ H Q=>∃ p,zR p t σ H Q:=fun pins s σ H Q I ⟨p,xs,hp,q⟩ =>
 wpAny_mono (h pins s σ _ _ (I.hide hp) q) (fun u s1 ⟨v,H1,I2,r,hp1,q1⟩=>⟨v,_,I2.show' (I.loose hp) hp1,r,q1⟩) fun _ _ z=>z
def zP(p:Addr)(t:TT):TT:=fun σ H Q=>∃ xs,H p=some (.lst xs)∧t σ (upd H p (dQ p xs)) fun v H1=>H1 p=some (dQ p xs)∧Q v (upd H1 p (.lst xs))
theorem bg{ifs:List Expr}{t:TT}(h:eZ X ifs t):eZ X ifs fun σ H Q=>∃ p,zP p t σ H Q:=fun pins s σ H Q I ⟨p,xs,hp,q⟩ =>
 wpAny_mono (h pins s σ _ _ (I.hide hp) q) (fun u s1 ⟨H1,I2,hp1,q1⟩=>⟨_,I2.show' (I.loose hp) hp1,q1⟩) fun _ _ z=>z
def zQ(p:Addr)(g:TG):TG:=fun v σ H Q=>∃ xs,H p=some (.lst xs)∧g v σ (upd H p (dQ p xs)) fun σ1 H1=>H1 p=some (dQ p xs)∧Q σ1 (upd H1 p (.lst xs))
theorem gE{tg:Expr}{g:TG}(h:PG X tg g):PG X tg fun v σ H Q=>∃ p,zQ p g v σ H Q:=fun pins s σ H v u Q I r ⟨p,xs,hp,q⟩ =>
 wpAny_mono (h pins s σ _ v u _ (I.hide hp) r q) (fun u s1 ⟨σ1,H1,I2,hp1,q1⟩=>⟨σ1,_,I2.show' (I.loose hp) hp1,q1⟩) fun _ _ z=>z
end
section
variable {X:Cx} {pos:Pos}
end
section
variable {X:Cx} {e:Expr} {te:TE} {st:Expr} {ts:TO} {pos p2:Pos}
end
theorem xK:typeLookup (.type "list_reverseiterator") "__len__" = pure none:=by rw[typeLookup_type,builtinLookup_eq_fast];kernel_rfl
theorem uk:typeLookup (.type "list_reverseiterator") "__length_hint__" = pure (some (.builtin "list_reverseiterator.__length_hint__")):=by rw[typeLookup_type,builtinLookup_eq_fast];kernel_rfl
section
variable {prog:Program} {w:World} {A:Around} {E:Value→Shared→Prop} {s:Shared}
theorem Ar{it l:Addr}{i:Int}{Q:Bool→Shared→Prop}(hit:s.heap.IsRevIter it l i)(h:Q false s):wpAny (model prog w) A (Builtin.List.listLengthHint (.ref it)) Q E s:=by
 have hT:=hit.typeIs
 unfold Builtin.List.listLengthHint
 refine QZ (wpAny_specialOf hT xK ?_)
 show wpAny _ A (specialOf (Value.ref it) (Str.ofString "__length_hint__") >>= _) Q E s
 refine QZ (wpAny_specialOf hT uk ?_)
 generalize hv:("list_reverseiterator.__length_hint__" : String)=nm
 wp_delta
 rw[show splitId nm=some ("list_reverseiterator","__length_hint__")by subst hv;decide +kernel]
 subst hv
 refine QZ (wpAny_isInstance (T := "list_reverseiterator") (b:=true) hT (by rw[isSubtype_type];kernel_rfl) ?_)
 refine wpAny_ite_split (fun z=>absurd z (by decide)) (fun _=>?_)
 refine wpAny_ite_split (fun _=>?_) (fun z=>absurd (by decide +kernel) z)
 refine wpAny_ite_split (fun z=>absurd z (by decide)) (fun _=>?_)
 exact Rn h
noncomputable abbrev fL(items:Array Value):Nat→Value→Prop:=fun j x=>items[items.size - 1 - j]? = some x
noncomputable abbrev sE(prog:Program)(w:World)(A:Around)(R:Result→Shared→Prop):Fin→Shared→Prop:=fun z s'=>match z with|.done f=>R (.ok f) s'|.again c'=>c'.quiet=true∧codeAny (model prog w) A c' R s'
theorem tQ{R:Result→Shared→Prop}{it l S:Addr}{items:Array Value}{c₀:Nat}(hh:A.handled=none)(hit:s.heap.IsRevIter it l ((items.size:Int) - 1))(hl:s.heap.IsList l items)(hne:l≠it)(hi:S≠it)(hj:S≠l)(hz:items.size≤sizeLine)
  (hS:s.heap.get? S=some { cls:=.type "list",data:=.seq #[] c₀ })
  (fin:∀ h' tk acc c1,(∀ b o,b≠S→b≠it→s.heap.get? b=some o→h'.get? b=some o)→h'.get? S=some { cls:=.type "list",dict:=none,data:=.seq acc c1,slots:=#[] }→ItemsOf (fL items) acc items.size→R (.ok (.ret .none)) { s with heap:=h',toks:=tk }) :
  wpAny (model prog w) A.in1 (Builtin.List.listExtendWith (.ref S) (.ref it) .none) (sE prog w A R) (fun e s'=>R (.error e) s') s:=by
 have V:=(Walks.listRev (prog:=prog) (w:=w) (A:=A.in1) hh it l hne items).toS
 have nf:S∉[it,l]:=fun q=>by
  rcases RC.mp q with q|q
  ·exact hi q
  ·exact hj (Ry.mp q)
 unfold Builtin.List.listExtendWith
 refine QZ (wpAny_typeOf hit.typeIs ?_)
 have n1:Builtin.List.listSameRef (.ref S) (.ref it)=false:=by simp[Builtin.List.listSameRef,hi]
 have n2:(Value.type "list_reverseiterator" == Value.type "list")=false:=by decide
 have n3:(Value.type "list_reverseiterator" == Value.type "tuple")=false:=by decide
 simp only[n1,n2,n3,Wf,So,if_false]
 refine QZ (wpAny_pyIter_revIter hit (QZ (wpAny_holding (Ar hit ?_))))
 refine wpAny_ite_split (fun z=>absurd z (by decide +kernel)) (fun _=>?_)
 refine Rn ⟨plainId_quiet F.plain_extend_loop _,?_⟩
 have h0:((items.size:Int) - 1 - ((0:Nat):Int))=(items.size:Int) - 1:=by omega
 refine codeAny_extend_loopS V hz S nf .none items.size 0 s #[] c₀ rfl (Sb _) ⟨Sb _,by rw[h0];exact hit,hl⟩ hS (ItemsOf.nil _) fun s2 acc c1 mv g1 g2=>?_
 rw[Moved.eq_with mv]
 exact fin s2.heap s2.toks acc c1 (fun b o q1 q2 q3=>mv.heap b o (fun q=>(RC.mp q).elim q1 fun q'=>q2 (Ry.mp q')) q3) g1 g2
theorem Aq{R:Result→Shared→Prop}{it l S:Addr}{items:Array Value}(hh:A.handled=none)(hit:s.heap.IsRevIter it l ((items.size:Int) - 1))(hl:s.heap.IsList l items)(hne:l≠it)(hi:S≠it)(hj:S≠l)(hz:items.size≤sizeLine)
  (hS:s.heap.get? S=some { cls:=.type "list",data:=.seq #[] })
  (fin:∀ h' tk acc c1,(∀ b o,b≠S→b≠it→s.heap.get? b=some o→h'.get? b=some o)→h'.get? S=some { cls:=.type "list",dict:=none,data:=.seq acc c1,slots:=#[] }→ItemsOf (fL items) acc items.size→R (.ok (.ret .none)) { s with heap:=h',toks:=tk }) :
  wpAny (model prog w) A.in1 (Builtin.«list.__init__» ⟨[.ref S,.ref it],[]⟩) (sE prog w A R) (fun e s'=>R (.error e) s') s:=by
 show wpAny _ A.in1 (Builtin.List.listItems (.ref S) >>= fun was=>Builtin.List.listUpdate (.ref S) (fun _=>#[]) >>= fun _=>letGo was.toList.reverse >>= fun _=>Builtin.List.listExtendWith (.ref S) (.ref it) .none) (sE prog w A R) (fun e s'=>R (.error e) s') s
 unfold Builtin.List.listItems
 refine QZ (QZ (wpAny_seqItems hS rfl (Rn ?_)))
 show wpAny _ A.in1 (updateSeq S (fun _=>#[]) >>= fun _=>letGo (#[]:Array Value).toList.reverse >>= fun _=>Builtin.List.listExtendWith (.ref S) (.ref it) .none) (sE prog w A R) (fun e s'=>R (.error e) s') s
 refine QZ (wpAny_updateSeq hS rfl (QZ (wpAny_letGo ?_)))
 have g:=Sd (Obj.mapSeq fun _=>(#[]:Array Value)) hS rfl
 have oth:∀ b o,b≠S→s.heap.get? b=some o→(s.heap.update S (Obj.mapSeq fun _=>(#[]:Array Value))).get? b=some o:=fun b o q1 q2=>(RT _ _ (Ne.symm q1)).trans q2
 refine tQ hh (hit.at fun o e=>oth it o (Ne.symm hi) e) (hl.at fun o e=>oth l o (Ne.symm hj) e) hne hi hj hz g fun h' tk acc c1 q1 q2 q3=>?_
 exact fin h' tk acc c1 (fun b o b1 b2 e=>q1 b o b1 b2 (oth b o b1 e)) q2 q3
theorem kU{it l:Addr}{items:Array Value}{Q:Value→Shared→Prop}(hh:A.handled=none)(hit:s.heap.IsRevIter it l ((items.size:Int) - 1))(hl:s.heap.IsList l items)(hne:l≠it)(hz:items.size≤sizeLine)
  (fin:∀ h' tk acc c1,(∀ b o,b≠it→s.heap.get? b=some o→h'.get? b=some o)→h'.get? s.heap.objs.size=some { cls:=.type "list",dict:=none,data:=.seq acc c1,slots:=#[] }→ItemsOf (fL items) acc items.size→Q (.ref s.heap.objs.size) { s with heap:=h',toks:=tk }) :
  wpAny (model prog w) A (call (.type "list") [.ref it]) Q E s:=by
 obtain⟨oi,hoi,_⟩:=id hit
 obtain⟨ol,hol,_⟩:=id hl
 have i1:s.heap.objs.size≠it:=Sz (Rt hoi)
 have i2:s.heap.objs.size≠l:=Sz (Rt hol)
 let h1:=s.heap.push { cls:=.type "list",data:=.seq #[] }
 have up:∀ b o,s.heap.get? b=some o→h1.get? b=some o:=fun b o e=>Rf _ e
 have gS:h1.get? s.heap.objs.size=some { cls:=.type "list",data:=.seq #[] }:=Rp _ rfl
 refine callType_codes (Q₁:=fun x s1=>x = .ref s.heap.objs.size∧s1 = { s with heap:=h1 }) F.called_list (F.typeCall_list_1 _) F.entry_list_init (code_list_new _ ⟨rfl,rfl⟩) ?_
 rintro x s1 ⟨rfl,rfl⟩
 refine⟨⟨_,gS,rfl⟩,F.args_list_init_2 _ _,Aq (A:=A.in1) hh (hit.at fun o e=>up it o e) (hl.at fun o e=>up l o e) hne i1 i2 hz gS fun h' tk acc c1 q1 q2 q3=>?_⟩
 exact⟨rfl,fin h' tk acc c1 (fun b o b1 e=>q1 b o (RY (Rt e)) b1 (up b o e)) q2 q3⟩
end
section
variable {X:Cx}
noncomputable def jL(H:Hp)(a:Addr):Hp:=fun b=>if b=a then none else H b
theorem jK{H:Hp}{a b:Addr}(h:b≠a):jL H a b=H b:=if_neg h
theorem jJ{H:Hp}{a:Addr}:jL H a a=none:=if_pos rfl
theorem xy{items:Array Value}{acc:Array Value}(h:ItemsOf (fL items) acc items.size):acc.toList=items.toList.reverse:=by
 obtain⟨h1,h2⟩:=h
 apply TR
 ·rw[RQ,Array.length_toList,Array.length_toList,h1]
 ·intro j g1 g2
  rw[Array.length_toList]at g1
  have e:=h2 j acc[j] (Array.getElem?_eq_getElem g1)
  have e2:items.size - 1 - j<items.size:=by omega
  have e3:items[items.size - 1 - j]? = some (items[items.size - 1 - j]'e2):=Array.getElem?_eq_getElem e2
  have e4:items[items.size - 1 - j]'e2=acc[j]:=Option.some.inj (e3.symm.trans e)
  rw[UZ,Array.getElem_toList,Array.getElem_toList,← e4]
  congr 1
end
theorem p0.take':∀{xs:List V} {us:List Value} (k:Nat),p0 xs us→p0 (xs.take k) (us.take k)
 | _,_,0,_=>.nil
 | _,_,_+1,.nil=>.nil
 | _,_,k+1,.cons r t=>.cons r (p0.take' k t)
theorem p0.drop':∀{xs:List V} {us:List Value} (k:Nat),p0 xs us→p0 (xs.drop k) (us.drop k)
 | _,_,0,h=>h
 | _,_,_+1,.nil=>.nil
 | _,_,k+1,.cons _ t=>p0.drop' k t
section
variable {X:Cx}
noncomputable def vR:V→List V→Hp→VK→Prop:=fun x vs H Q=>∃ l xs y,∃ k:Nat,x = .ref l∧vs=[.int (k:Int),y]∧H l=some (.lst xs)∧k≤xs.length∧xs.length<sizeLine∧Q .non (upd H l (.lst (xs.take k++y :: xs.drop k)))
theorem xH:MtM X "list.insert" vR:=by
 intro pins s σ H x vs v us Q I rx rv h
 obtain⟨l,xs,y,k,rfl,rfl,hH,hk,hz,q⟩:=h
 cases rx
 ·obtain⟨u1,u,rfl,⟨t,rfl⟩,ru⟩:=zK rv
  obtain⟨z,its,n,r,hl,e⟩:=I.lstM hH
  have hlen:=r.length
  have hb:(-(2 ^ 63:Int)≤(k:Int))∧(k:Int)<2 ^ 63:=by
   have h1:k<sizeLine:=Rv hk hz
   have h2:(sizeLine:Int)≤2 ^ 62:=by decide +kernel
   omega
  have hf:Builtin.List.listFitsIndex (k:Int)=true:=by
   unfold Builtin.List.listFitsIndex
   rw[decide_eq_true hb.1,decide_eq_true hb.2];rfl
  generalize hx:(k:Int)=x at *
  refine call_meets F.slot_list_insert ⟨_,e,rfl⟩ F.entry_list_insert (F.args_list_insert_3 _ _ _) (AutoSeq1.list_insert_list_int_val_1 l its.toArray n x t u (by rw[hf];exact RF) (by rw[Rw];omega)) ⟨e,?_⟩
  refine⟨.non,_,I.lset (its':=its.take k++u :: its.drop k) hH e ?_ ((r.take' k).append (.cons ru (r.drop' k))) ?_,rfl,q⟩
  ·have ek:(if x<0 then(x+(its.toArray.size:Int)).toNat else min x.toNat its.toArray.size)=k:=by
    rw[if_neg (by omega),Rw];omega
   show(its.toArray.extract 0 (if x<0 then(x+(its.toArray.size:Int)).toNat else min x.toNat its.toArray.size)).push u++its.toArray.extract (if x<0 then(x+(its.toArray.size:Int)).toNat else min x.toNat its.toArray.size)=_
   rw[ek]
   apply Array.toList_inj.mp
   simp
   exact SR (by rw[Te];exact Rx _)
  ·rw[RD,Ss,RV,Te];omega
end
theorem jy(r:Addr)(m:Int)(t u v:Tok)(hs:(Ri 0 && Ri m && Ri 1 && Ri (-1) && Ri (0 - 1) && Ri (Builtin.Range.rangeSize 0 m 1))=true) :
  Meets (Builtin.«range.__reversed__» ⟨[.ref r],[]⟩) (fun _ R s=>s.heap.get? r=some { cls:=.type "range",dict:=none,data:=.fields #[.int 0 t,.int m u,.int 1 v],slots:=#[] } ∧
   R (.ok (.ret (Value.ref s.heap.objs.size))) { s with heap:=s.heap.push { cls:=Value.type "range_iterator",data:=Data.fields #[rawInt (0+(Builtin.Range.rangeSize 0 m 1 - 1)*1),rawInt (Builtin.Range.rangeSize 0 m 1),rawInt (-1)] },toks:=s.toks }) :=
 .of_wp fun prog w A R s h=>by
  obtain⟨hp,g,d,tk,os⟩:=s
  obtain⟨hl,h⟩:=h
  wp_walk
  rw[hs]
  simp only[Wg,So,if_false,if_true]
  wp_walk
  exact⟨_,rfl,h⟩
section
variable {prog:Program} {w:World} {A:Around} {E:Value→Shared→Prop} {s:Shared}
noncomputable abbrev eL(m:Int)(t u v:Tok):Obj:={ cls:=.type "range",data:=.fields #[.int 0 t,.int m u,.int 1 v] }
noncomputable abbrev K8(m:Int):Obj:={ cls:=.type "range_iterator",data:=.fields #[rawInt (0+(Builtin.Range.rangeSize 0 m 1 - 1)*1),rawInt (Builtin.Range.rangeSize 0 m 1),rawInt (-1)] }
theorem qS:isSubtype (.type "range_iterator") (.type "reversed")=pure false:=by rw[isSubtype_type];kernel_rfl
theorem su{r:Addr}{m:Int}{t u v:Tok}{Q:Value→Shared→Prop}(hr:s.heap.get? r=some (eL m t u v))(hs:(Ri 0 && Ri m && Ri 1 && Ri (-1) && Ri (0 - 1) && Ri (Builtin.Range.rangeSize 0 m 1))=true)
  (h:Q (.ref s.heap.objs.size) { s with heap:=s.heap.push (K8 m) }):wpAny (model prog w) A (call (.builtin "range.__reversed__") [.ref r]) Q E s :=
 call_meets F.slot_range_reversed ⟨_,hr,rfl⟩ F.entry_range_reversed (F.args_range_reversed_1 _) (jy r m t u v hs) ⟨hr,h⟩
theorem sj{r:Addr}{m:Int}{t u v:Tok}{Q:Value→Shared→Prop}(hr:s.heap.get? r=some (eL m t u v))(hs:(Ri 0 && Ri m && Ri 1 && Ri (-1) && Ri (0 - 1) && Ri (Builtin.Range.rangeSize 0 m 1))=true)
  (h:Q (.ref s.heap.objs.size) { s with heap:=s.heap.push (K8 m) }):codeAny (model prog w) A (.call (.builtin "reversed.__new__") ⟨[.type "reversed",.ref r],[]⟩) (wants Q E) s:=by
 have hT:s.TypeIs (.ref r) "range" := ⟨_,hr,rfl⟩
 refine codeAny_of_tree ?_
 show wpAny _ A.in1 (checkBuiltinCall "reversed.__new__" ⟨[.type "reversed",.ref r],[]⟩ >>= fun _=>again (.builtin "reversed.__new__" ⟨[.type "reversed",.ref r],[]⟩)) _ _ s
 refine QZ (wpAny_of_eq (F.newCall_reversed_1 _) (Rn ⟨plainId_quiet F.plain_reversed_new _,codeAny_builtin F.entry_reversed_new ?_⟩))
 rw[Around.under_plainId F.plain_reversed_new _]
 unfold Builtin.«reversed.__new__»
 refine QZ (wpAny_of_eq (newClass_reversed _) ?_)
 try dsimp only
 refine QZ (wpAny_of_eq (a:=()) (by first|rfl|kernel_rfl) ?_)
 refine QZ (wpAny_of_eq (a:=()) (by first|rfl|kernel_rfl) ?_)
 try dsimp only
 refine QZ (wpAny_specialOf hT F.slot_range_reversed.lookup ?_)
 try dsimp only
 refine QZ (wpAny_of_eq (F.slot_range_reversed.bind _) ?_)
 try dsimp only
 have ng:¬ ((Value.builtin "range.__reversed__" == Value.none)=true):=RF
 first
 | rw[if_neg ng]
 | (show wpAny _ _ (if (Value.builtin "range.__reversed__" == Value.none)=true then _ else _) _ _ _;rw[if_neg ng])
 refine QZ (wpAny_rule ?_)
 refine QZ (m:=runValue (.call (.builtin "range.__reversed__") ⟨[.ref r],[]⟩)) (show wpAny _ _ (call (.builtin "range.__reversed__") [.ref r]) _ _ _ from su hr hs ?_)
 first
 | exact Rn h
 | exact QZ (Rn (Rn h))
end
section
variable {prog:Program} {w:World} {A:Around} {E:Value→Shared→Prop} {s:Shared}
theorem kS{r:Addr}{m:Int}{t u v:Tok}{Q:Value→Shared→Prop}(hr:s.heap.get? r=some (eL m t u v))(hs:(Ri 0 && Ri m && Ri 1 && Ri (-1) && Ri (0 - 1) && Ri (Builtin.Range.rangeSize 0 m 1))=true)
  (h:Q (.ref s.heap.objs.size) { s with heap:=s.heap.push (K8 m) }):wpAny (model prog w) A (call (.type "reversed") [.ref r]) Q E s:=by
 refine callType_other (U := "range_iterator") (Q₁:=fun x s1=>x = .ref s.heap.objs.size∧s1 = { s with heap:=s.heap.push (K8 m) }) (by decide +kernel) F.create_reversed ⟨_,_,F.mro_reversed⟩ F.made_reversed qS
  (F.typeCall_reversed_1 _) (sj hr hs ⟨rfl,rfl⟩) ?_
 rintro x s1 ⟨rfl,rfl⟩
 exact⟨⟨_,Rp _ rfl,rfl⟩,h⟩
end
noncomputable def Itd(hi:Int)(n:Nat):It:=⟨fun i _=>i<n,fun i H x H'=>H'=H∧x = .int (hi - i),fun i _=>n≤i⟩
theorem xc{P:Program}{w:World}{K:Ra}{tg:Expr}(it:Addr)(hi:Int)(n:Nat):pq P w K tg (Itd hi n) [it] it (fun i h=>IsRangeIter h it (hi+(i:Nat)*(-1)) ((n:Int) - (i:Nat)) (-1)) where
 mem:=by simp
 obj:=fun i h st b hb=>by
  obtain rfl:b=it:=by simpa using hb
  exact⟨_,st,fun v z=>by
   have q:Data.fields _=Data.cell v:=z
   cases q⟩
 keep:=fun i h h' st k=>k it (by simp) _ st
 item:=by
  intro X hP hw hK hc i pins s σ H E I hf st hg
  subst hP hw hK
  obtain⟨f0,f1,f2,f3,f4,f5⟩:=hf it (by simp)
  have W:=Walks.range (prog:=X.prog) (w:=X.w) (I.ok.hd hc) it hi (-1) n
  refine W.item i s _ _ hg st fun v h' tk hv st' kk=>?_
  obtain⟨t,rfl⟩:=hv
  have I1:Inv X pins σ H { s with heap:=h',toks:=tk }:=I.turned (fun b o hb e=>kk b o (by simpa using hb) e) f0 f1 f3 f4 f5
  refine⟨_,rfl,rP (s:={ s with heap:=h',toks:=tk }) (n := "range_iterator") st' rfl rfl (by decide) ⟨.int (hi - i),H,I1,⟨t,?_⟩,⟨rfl,rfl⟩,st',fun b hb=>(hf b hb).1⟩⟩
  rw[show hi+(i:Int) * -1=hi - i by omega]
 done:=by
  intro X hP hw hK hc i pins s σ H E I hf st hg
  subst hP hw hK
  obtain⟨f0,f1,f2,f3,f4,f5⟩:=hf it (by simp)
  exact wpAny_pyNext_range_end (I.ok.hd hc) st (by have:n≤i:=hg;omega) fun h' eb=>⟨rfl,I.turned (t':=s.toks) (fun b o hb e=>eb b o hb e) f0 f1 f3 f4 f5⟩
 self:=fun _ _ _ _ _ st h=>wpAny_pyIter_rangeiter st h
section
variable {X:Cx}
noncomputable def HU(p:Addr)(j:Int):Heap→Prop:=fun h=>∃ t u v,h.get? p=some (eL j t u v)
theorem BZ:E5 X (.type "range") (fun xs H Q=>∃ j:Int,xs=[.int j]∧∀ p,H p=none→X.s₀.heap.objs.size≤p→Q (.ref p) (upd H p (.ext (HU p j)))):=by
 intro pins s σ H xs us Q I rv h
 obtain⟨j,rfl,q⟩:=h
 obtain⟨u,rfl,t,rfl⟩:=Y8 rv
 have e:(s.heap.push (eL j s.toks t (s.toks+1))).get? s.heap.objs.size=some (eL j s.toks t (s.toks+1)):=Rp _ rfl
 refine call_range_1 ⟨.ref s.heap.objs.size,_,I.laid (t':=s.toks+1+1) (o:=.ext (HU s.heap.objs.size j)) (fun b u e=>Rf _ e) (Rx _) ?_,rfl,q _ I.fresh I.sz⟩
 exact⟨⟨_,_,_,e⟩,⟨_,e⟩,fun h1 h2 z k=>by
  obtain⟨t,u,v,z⟩:=z
  exact⟨t,u,v,k _ z⟩⟩
theorem Fe{j:Int}(h1:-(2 ^ 62)≤j)(h2:j<2 ^ 62):(Ri 0 && Ri j && Ri 1 && Ri (-1) && Ri (0 - 1) && Ri (Builtin.Range.rangeSize 0 j 1))=true:=by
 have f:∀ x:Int,-(2 ^ 62)≤x→x<2 ^ 62→Ri x=true:=fun x a b=>by
  unfold Ri
  rw[decide_eq_true (show -(2 ^ 63)≤x by omega),decide_eq_true (show x<2 ^ 63 by omega)];rfl
 rw[f 0 (by decide) (by decide),f j h1 h2,f 1 (by decide) (by decide),f (-1) (by decide) (by decide),f (0 - 1) (by decide) (by decide),f _ (by rw[rangeSize_one];split<;>omega) (by rw[rangeSize_one];split<;>omega)];rfl
def Nm(ta:TA):TI:=fun σ H R=>ta σ H fun vs H1=>∃ j:Int,∃ p,vs=[.ref p]∧H1 p=some (.ext (HU p j))∧0≤j∧j<2 ^ 62∧R (Itd (j - 1) j.toNat) H1
theorem Io{tg:Expr}{a:Expr}{ta:TA}{p pos:Pos}(hg:Gl X "reversed")(hm:X.mg "reversed" = none)(hv:bootBuiltins "reversed" = some (.type "reversed"))(ha:PA X [a] ta)(hs:starEach [a] X.env=[(false,eval a X.env)]:=by rfl):PI X tg (.Call (.Name "reversed" p) [a] [] pos) (Nm ta):=by
 intro pins s σ H R I h
 refine Call_ (K4 I hg hm hv (PyProof.Rows.callWith_type1 (thn (ha pos pins s σ H _ I h) fun us s1 zz=>?_) hs rfl))
 obtain⟨vs,H1,I1,r1,q1⟩:=zz
 obtain⟨j,r,e,hH,b1,b2,q⟩:=q1
 subst e
 obtain⟨u,rfl,ru⟩:=Y8 r1
 cases ru
 obtain⟨t,u,v,hr⟩:=(I1.hok r _ hH).1
 refine kS hr (Fe (by omega) b2) ?_
 have e0:(s1.heap.push (K8 j)).get? s1.heap.objs.size=some (K8 j):=Rp _ rfl
 have en:Builtin.Range.rangeSize 0 j 1=((j.toNat:Nat):Int):=by rw[rangeSize_one];split<;>omega
 have I2:Inv X pins σ H1 { s1 with heap:=s1.heap.push (K8 j) }:=I1.kept (t':=s1.toks) fun b o e=>Rf _ e
 have st:IsRangeIter (s1.heap.push (K8 j)) s1.heap.objs.size ((j - 1)+((0:Nat):Int)*(-1)) ((j.toNat:Int) - ((0:Nat):Int)) (-1):=by
  show(s1.heap.push (K8 j)).get? s1.heap.objs.size=some _
  rw[e0]
  unfold K8
  rw[en,show 0+(((j.toNat:Nat):Int) - 1)*1=(j - 1)+((0:Nat):Int)*(-1)by omega,show(j.toNat:Int) - ((0:Nat):Int)=((j.toNat:Nat):Int)by omega]
 refine wpAny_pyIter_rangeiter st ⟨s1.heap.objs.size,[s1.heap.objs.size],_,_,H1,rfl,I2,xc _ (j - 1) j.toNat,st,fun b hb=>?_,q⟩
 obtain rfl:b=s1.heap.objs.size:=by simpa using hb
 exact I1.fpOk (Rx _) (I1.hok.fresh (Rx _))
end
theorem xk:typeLookup (.type "reversed") "__len__" = pure none:=by rw[typeLookup_type,builtinLookup_eq_fast];kernel_rfl
theorem sO:typeLookup (.type "reversed") "__length_hint__" = pure (some (.builtin "reversed.__length_hint__")):=by rw[typeLookup_type,builtinLookup_eq_fast];kernel_rfl
theorem xj:typeLookup (.type "tuple") "__reversed__" = pure none:=by rw[typeLookup_type,builtinLookup_eq_fast];kernel_rfl
theorem tV:Manifest.owners.lookup (String.ofList ['d','e','s','r','e','v','e','r'].reverse)=some Manifest.sig_reversed:=by kernel_rfl
theorem L4:Slot "reversed" "__next__" "reversed.__next__" := .of (owner := "reversed") (n := "__next__")
 (by rw[typeLookup_type,builtinLookup_eq_fast];kernel_rfl) (by decide +kernel) (by decide +kernel) (by decide +kernel)
 (by first|exact .inl (by decide +kernel)|exact .inr (by decide +kernel)) (by rw[isSubtype_type];kernel_rfl)
theorem fF:entryFor table "reversed.__next__" = some Builtin.«reversed.__next__»:=entryFor_of_tree (by kernel_rfl)
theorem fK(a:Value):argsOk "reversed.__next__" ⟨[a],[]⟩:=by
 unfold argsOk
 rw[signature?_of (id := "reversed.__next__") (n:=['_','_','t','x','e','n','_','_']) (o:=['d','e','s','r','e','v','e','r']) (by kernel_rfl) tV]
 kernel_rfl
theorem fw:Slot "reversed" "__iter__" "reversed.__iter__" := .of (owner := "reversed") (n := "__iter__")
 (by rw[typeLookup_type,builtinLookup_eq_fast];kernel_rfl) (by decide +kernel) (by decide +kernel) (by decide +kernel)
 (by first|exact .inl (by decide +kernel)|exact .inr (by decide +kernel)) (by rw[isSubtype_type];kernel_rfl)
theorem sx(a:Value):argsOk "reversed.__iter__" ⟨[a],[]⟩:=by
 unfold argsOk
 rw[signature?_of (id := "reversed.__iter__") (n:=['_','_','r','e','t','i','_','_']) (o:=['d','e','s','r','e','v','e','r']) (by kernel_rfl) tV]
 kernel_rfl
theorem rR:entryFor table "reversed.__iter__" = some Builtin.«dict_keyiterator.__iter__»:=entryFor_alias (id' := "dict_keyiterator.__iter__")
 (by kernel_rfl) (by first|rfl|decide +kernel|(unfold String.splitOn;simp +decide [String.splitOnAux])) (by decide +kernel) (by kernel_rfl)
theorem fy:Slot "reversed" "__length_hint__" "reversed.__length_hint__" := .of (owner := "reversed") (n := "__length_hint__")
 (by rw[typeLookup_type,builtinLookup_eq_fast];kernel_rfl) (by decide +kernel) (by decide +kernel) (by decide +kernel)
 (by first|exact .inl (by decide +kernel)|exact .inr (by decide +kernel)) (by rw[isSubtype_type];kernel_rfl)
theorem rS:entryFor table "reversed.__length_hint__" = some Builtin.«reversed.__length_hint__»:=entryFor_of_tree (by kernel_rfl)
theorem sy(a:Value):argsOk "reversed.__length_hint__" ⟨[a],[]⟩:=by
 unfold argsOk
 rw[signature?_of (id := "reversed.__length_hint__") (n:=['_','_','t','n','i','h','_','h','t','g','n','e','l','_','_']) (o:=['d','e','s','r','e','v','e','r']) (by kernel_rfl) tV]
 kernel_rfl
theorem qB:Slot "reversed" "__init__" "object.__init__" := .of (owner := "object") (n := "__init__")
 (by rw[typeLookup_type,builtinLookup_eq_fast];kernel_rfl) (by decide +kernel) (by decide +kernel) (by decide +kernel)
 (by first|exact .inl (by decide +kernel)|exact .inr (by decide +kernel)) (by rw[isSubtype_type];kernel_rfl)
theorem uy:TypeCalled "reversed" "reversed.__new__" "object.__init__" :=
 ⟨by decide +kernel,by decide +kernel,⟨_,_,F.mro_reversed⟩,F.made_reversed,by decide +kernel,F.sub_reversed_self,qB⟩
noncomputable def mW(l:Addr)(i:Int):Obj:={ cls:=.type "reversed",data:=.fields #[.ref l,rawInt i] }
def R8(h:Heap)(a l:Addr)(i:Int):Prop:=∃ o,h.get? a=some o∧o.cls = .type "reversed" ∧ o.data = .fields #[.ref l,rawInt i]
theorem R8.typeIs{s:Shared}{a l:Addr}{i:Int}(x:R8 s.heap a l i):s.TypeIs (.ref a) "reversed" := let ⟨o,ho,hc,_⟩:=x;⟨o,ho,hc⟩
theorem R8.at{h h':Heap}{a l:Addr}{i:Int}(x:R8 h a l i)(e:∀ o,h.get? a=some o→h'.get? a=some o):R8 h' a l i:=let ⟨o,ho,r⟩:=x;⟨o,e _ ho,r⟩
theorem xJ(l:Addr)(items:Array Value)(hz:(items.size:Int)<2 ^ 63):Meets (Builtin.«reversed.__new__» ⟨[.type "reversed",.ref l],[]⟩) (fun _ R s=>IsTup s.heap l items∧∀ t,R (.ok (.ret (.ref s.heap.objs.size))) { s with heap:=s.heap.push (mW l ((items.size:Int) - 1)),toks:=t }) :=
 .of_wp fun prog w A R s h=>by
  obtain⟨ht,h⟩:=h
  unfold Builtin.«reversed.__new__»
  refine QZ (wpAny_of_eq (newClass_reversed _) ?_)
  try dsimp only
  refine QZ (wpAny_of_eq (a:=()) (by first|rfl|kernel_rfl) ?_)
  refine QZ (wpAny_of_eq (a:=()) (by first|rfl|kernel_rfl) ?_)
  try dsimp only
  refine QZ (wpAny_specialOf ht.typeIs xj ?_)
  try dsimp only
  refine QZ ?_
  wp_delta
  refine QZ (wpAny_isInstance (T := "tuple") (b:=false) ht.typeIs (by rw[isSubtype_type];kernel_rfl) ?_)
  try dsimp only
  rw[if_neg (by decide)]
  refine QZ (wpAny_specialOf ht.typeIs slot_tuple_getitem.lookup ?_)
  try dsimp only
  rw[if_pos (by decide +kernel)]
  refine Rn ?_
  rw[if_neg (by decide)]
  refine QZ (len_tuple ht hz ?_)
  refine QZ (wpAny_of_eq (a:=some (items.size:Int)) rfl ?_)
  try dsimp only
  show wpAny _ _ (newObj (.type "reversed") (.fields #[Value.ref l,rawInt ((items.size:Int) - 1)]) >>= _) _ _ _
  refine QZ (wpAny_newObj_type ?_)
  exact Rn ⟨_,rfl,h _⟩
section
variable {prog:Program} {w:World} {A:Around} {E:Value→Shared→Prop} {s:Shared}
theorem Cc{l:Addr}{items:Array Value}{Q:Value→Shared→Prop}(ht:IsTup s.heap l items)(hz:(items.size:Int)<2 ^ 63)
  (h:∀ t,Q (.ref s.heap.objs.size) { s with heap:=s.heap.push (mW l ((items.size:Int) - 1)),toks:=t }):wpAny (model prog w) A (call (.type "reversed") [.ref l]) Q E s:=by
 refine callType_new uy (by decide) (F.typeCall_reversed_1 _) (F.newCall_reversed_1 _) (fun obj=>F.args_object_init_2 obj _) F.entry_reversed_new (xJ l items hz) ⟨ht,fun t=>?_⟩
 exact⟨⟨_,Rp _ rfl,rfl⟩,h t⟩
theorem Ba{it l:Addr}{i:Nat}{items:Array Value}{x:Value}{Q:Option Value→Shared→Prop}(hit:R8 s.heap it l (i:Int))(hl:IsTup s.heap l items)(hz:(items.size:Int)<2 ^ 63)(hx:items[i]? = some x)
  (hQ:∀ h' t,R8 h' it l ((i:Int) - 1)→Heap.SameBut it s.heap h'→Q (some x) { s with heap:=h',toks:=t }):wpAny (model prog w) A (pyNext (.ref it)) Q E s:=by
 obtain⟨o,ho,hc,hd⟩:=id hit
 have hi:i<items.size:=(Array.getElem?_eq_some_iff.mp hx).1
 unfold pyNext
 refine QZ (wpAny_attempt (wpAny_callSpecial?_slot (name:=Str.ofString "__next__") hit.typeIs L4
  (wpAny_call_entry L4 hit.typeIs fF ?_ (fK _))))
 unfold Builtin.«reversed.__next__»
 refine QZ (wpAny_of_eq (a:=(Value.ref it,[])) rfl ?_)
 try dsimp only
 refine QZ (wpAny_field ho hd (x:=.ref l) rfl ?_)
 refine QZ (wpAny_field ho hd (x:=rawInt (i:Int)) rfl ?_)
 show wpAny _ _ (if (i:Int)<0 then _ else _) _ _ s
 rw[if_neg (by omega)]
 refine QZ (wpAny_specialOf hl.typeIs slot_tuple_getitem.lookup ?_)
 try dsimp only
 rw[if_neg (by decide)]
 refine QZ (wpAny_mkInt ?_)
 refine QZ (wpAny_attempt (getItem_tuple (j:=i) (x:=x) hl (by omega) (by omega) ?_ hx ?_))
 ·unfold seqIndex?
  rw[if_neg (show ¬ (i:Int)<0 by omega),if_pos (by rw[TQ,decide_eq_true_eq,decide_eq_true_eq];omega)]
  rfl
 ·try dsimp only
  refine QZ (wpAny_field ho hd (x:=rawInt (i:Int)) rfl ?_)
  try dsimp only
  refine QZ (wpAny_setField ho hd (by simp) ?_)
  refine Rn ⟨x,rfl,Rn (hQ _ _ ?_ (Heap.SameBut.update ..))⟩
  exact⟨_,Sd _ ho (Obj.isFreed_of_fields (Obj.data_mapFields hd _)),(Obj.cls_mapFields ..).trans hc,by
   rw[Obj.data_mapFields hd];simp⟩
theorem zX{it l:Addr}{Q:Option Value→Shared→Prop}(hh:A.handled=none)(hit:R8 s.heap it l (-1))
  (hQ:∀ h',Heap.ExtBut it s.heap h'→Q none { s with heap:=h' }):wpAny (model prog w) A (pyNext (.ref it)) Q E s:=by
 obtain⟨o,ho,hc,hd⟩:=id hit
 unfold pyNext
 refine QZ (wpAny_attempt (wpAny_callSpecial?_slot (name:=Str.ofString "__next__") hit.typeIs L4
  (wpAny_call_entry L4 hit.typeIs fF ?_ (fK _))))
 unfold Builtin.«reversed.__next__»
 refine QZ (wpAny_of_eq (a:=(Value.ref it,[])) rfl ?_)
 try dsimp only
 refine QZ (wpAny_field ho hd (x:=.ref l) rfl ?_)
 refine QZ (wpAny_field ho hd (x:=rawInt (-1)) rfl ?_)
 show wpAny _ _ (if (-1:Int)<0 then _ else _) _ _ s
 rw[if_pos (by decide)]
 refine QZ (wpAny_rule ?_)
 refine QZ ?_
 wp_delta
 refine QZ (wpAny_setField ho hd (by simp) ?_)
 have g1:=Sd (Obj.mapFields (·.setIfInBounds 1 (rawInt (-1)))) ho (Obj.isFreed_of_fields (Obj.data_mapFields hd _))
 have d1:(Obj.mapFields (·.setIfInBounds 1 (rawInt (-1))) o).data = .fields (#[Value.ref l,rawInt (-1)].setIfInBounds 1 (rawInt (-1))):=Obj.data_mapFields hd _
 refine wpAny_setField g1 d1 (by simp) ?_
 refine QZ ?_
 show wpAny _ _ (newExc (.type "StopIteration") [] >>= _) _ _ _
 refine QZ ?_
 simp only[newExc,newTuple]
 refine QZ (wpAny_newObj_type ?_ (by size_fits))
 refine QZ (m:=firstArgMember _ _) (wpAny_of_eq (a:=Value.none) (by first|rfl|(simp only[firstArgMember];rfl)) ?_)
 refine wpAny_newObj_type ?_ (by size_fits)
 simp only[raiseNew]
 refine QZ (wpAny_handled ?_)
 rw[show A.in1.handled=none from hh]
 refine QZ (Rn (wpAny_throw ?_))
 refine QZ (wpAny_isInstance (T := "StopIteration") (b:=true) ⟨_,Rp _ rfl,rfl⟩ isSubtype_stop ?_)
 refine Rn (hQ _ ((Heap.ExtBut.push (Heap.ExtBut.push ?_ _) _)))
 exact fun b o hb e=>by
  rw[RT _ _ (Ne.symm hb),RT _ _ (Ne.symm hb)];exact e
theorem rO{it l:Addr}{i:Int}{Q:Value→Shared→Prop}(hit:R8 s.heap it l i)(h:Q (.ref it) s):wpAny (model prog w) A (pyIter (.ref it)) Q E s:=by
 refine wpAny_pyIter_slot hit.typeIs fw (wpAny_call_entry fw hit.typeIs rR ?_ (sx _))
 show wpAny _ _ (ret (.ref it)) _ _ s
 exact Rn ⟨_,rfl, "reversed",_,hit.typeIs,L4.lookup,h⟩
theorem Bu{it l:Addr}{items:Array Value}{Q:Bool→Shared→Prop}(hit:R8 s.heap it l ((items.size:Int) - 1))(hl:IsTup s.heap l items)(hz:items.size≤sizeLine)(h:∀ t,Q (decide ((items.size:Int)≠0)) { s with toks:=t }):wpAny (model prog w) A (Builtin.List.listLengthHint (.ref it)) Q E s:=by
 have hT:=hit.typeIs
 obtain⟨o,ho,hc,hd⟩:=id hit
 unfold Builtin.List.listLengthHint
 refine QZ (wpAny_specialOf hT xk ?_)
 show wpAny _ A (specialOf (Value.ref it) (Str.ofString "__length_hint__") >>= _) Q E s
 refine QZ (wpAny_specialOf hT sO ?_)
 generalize hv:("reversed.__length_hint__" : String)=nm
 wp_delta
 rw[show splitId nm=some ("reversed","__length_hint__")by subst hv;decide +kernel]
 subst hv
 refine QZ (wpAny_isInstance (T := "reversed") (b:=true) hT (by rw[isSubtype_type];kernel_rfl) ?_)
 refine wpAny_ite_split (fun z=>absurd z (by decide)) (fun _=>?_)
 have hzl:(items.size:Int)<2 ^ 63:=by
  have:sizeLine<2 ^ 62:=by decide
  omega
 refine wpAny_ite_split (fun z=>absurd z (by decide +kernel)) (fun _=>?_)
 refine QZ (wpAny_rule ?_)
 refine QZ (wpAny_of_eq (fy.bind _) ?_)
 try dsimp only
 refine QZ (wpAny_attempt (wpAny_call_entry fy hT rS ?_ (sy _)))
 unfold Builtin.«reversed.__length_hint__»
 refine QZ (wpAny_of_eq (a:=Value.ref it) rfl ?_)
 try dsimp only
 refine QZ (wpAny_field ho hd (x:=.ref l) rfl ?_)
 try dsimp only
 rw[if_neg (show ¬ (Value.ref l == Value.none)=true from RF)]
 refine QZ (len_tuple hl hzl ?_)
 refine QZ (wpAny_of_eq (a:=some (items.size:Int)) rfl ?_)
 try dsimp only
 refine QZ (wpAny_field ho hd (x:=rawInt ((items.size:Int) - 1)) rfl ?_)
 try dsimp only
 show wpAny _ _ (if (items.size:Int)<((items.size:Int) - 1)+1 then _ else _) _ _ _
 rw[if_neg (by omega)]
 refine QZ (wpAny_mkInt (Rn ⟨_,rfl,?_⟩))
 refine QZ (wpAny_of_eq (a:=some ((items.size:Int) - 1+1)) rfl ?_)
 try dsimp only
 rw[show(items.size:Int) - 1+1=items.size by omega]
 rw[if_neg (by
  unfold Builtin.List.listFitsIndex
  rw[Vz,decide_eq_true (show -(2 ^ 63:Int)≤(items.size:Int)by omega),decide_eq_true hzl];decide),if_neg (by omega),if_neg (by
  unfold Builtin.List.listTooLong
  rw[decide_eq_true_eq,SD];omega)]
 refine Rn ?_
 have e:((items.size:Int) != 0)=decide ((items.size:Int)≠0):=by
  by_cases z:(items.size:Int)=0
  ·rw[z];rfl
  ·rw[decide_eq_true z,bne_iff_ne.mpr z]
 rw[e]
 exact h _
theorem wV(hh:A.handled=none)(I l:Addr)(hne:l≠I)(items:Array Value)(hz:(items.size:Int)<2 ^ 63) :
  Walks prog w A I [I,l] [I] items.size (fun i v=>items[items.size - 1 - i]? = some v) (fun i h=>i≤items.size∧R8 h I l ((items.size:Int) - 1 - (i:Int))∧IsTup h l items) where
 sub:=fun b hb=>by simp at hb;simp[hb]
 frame:=fun _ _ _ x hk=>⟨x.1,x.2.1.at fun o e=>hk I (by simp) o e,let ⟨o,ho,r⟩:=x.2.2;⟨o,hk l (by simp) o ho,r⟩⟩
 item:=fun i s Q E hi x hQ=>by
  have e:(items.size:Int) - 1 - (i:Int)=((items.size - 1 - i:Nat):Int):=by omega
  have hit:=x.2.1
  rw[e]at hit
  have hx:items[items.size - 1 - i]? = some (items[items.size - 1 - i]'(by omega)):=Array.getElem?_eq_getElem (by omega)
  refine Ba hit x.2.2 hz hx fun h' t hit' hs'=>?_
  have e2:((items.size - 1 - i:Nat):Int) - 1=(items.size:Int) - 1 - ((i+1:Nat):Int):=by omega
  rw[e2]at hit'
  exact hQ _ h' t hx ⟨hi,hit',let ⟨o,ho,r⟩:=x.2.2;⟨o,(hs'.2 l hne).trans ho,r⟩⟩ fun b o hb eo=>hs'.extBut b o (fun h=>hb (by simp[h])) eo
 done:=fun s Q E x hQ=>by
  have e:(items.size:Int) - 1 - (items.size:Int) = -1:=by omega
  have hit:=x.2.1
  rw[e]at hit
  exact zX hh hit fun h' he'=>hQ h' s.toks fun b o hb eo=>he' b o (fun h=>hb (by simp[h])) eo
 self:=fun _ _ _ _ x hQ=>rO x.2.1 hQ
theorem sP{R:Result→Shared→Prop}{it l S:Addr}{items:Array Value}{c₀:Nat}(hh:A.handled=none)(hit:R8 s.heap it l ((items.size:Int) - 1))(hl:IsTup s.heap l items)(hne:l≠it)(hi:S≠it)(hj:S≠l)(hz:items.size≤sizeLine)
  (hS:s.heap.get? S=some { cls:=.type "list",data:=.seq #[] c₀ })
  (fin:∀ h' tk acc c1,(∀ b o,b≠S→b≠it→s.heap.get? b=some o→h'.get? b=some o)→h'.get? S=some { cls:=.type "list",dict:=none,data:=.seq acc c1,slots:=#[] }→ItemsOf (fL items) acc items.size→R (.ok (.ret .none)) { s with heap:=h',toks:=tk }) :
  wpAny (model prog w) A.in1 (Builtin.List.listExtendWith (.ref S) (.ref it) .none) (sE prog w A R) (fun e s'=>R (.error e) s') s:=by
 have hz2:(items.size:Int)<2 ^ 63:=by
  have:sizeLine<2 ^ 62:=by decide
  omega
 have V:=(wV (prog:=prog) (w:=w) (A:=A.in1) hh it l hne items hz2).toS
 have nf:S∉[it,l]:=fun q=>by
  rcases RC.mp q with q|q
  ·exact hi q
  ·exact hj (Ry.mp q)
 unfold Builtin.List.listExtendWith
 refine QZ (wpAny_typeOf hit.typeIs ?_)
 have n1:Builtin.List.listSameRef (.ref S) (.ref it)=false:=by simp[Builtin.List.listSameRef,hi]
 have n2:(Value.type "reversed" == Value.type "list")=false:=by decide
 have n3:(Value.type "reversed" == Value.type "tuple")=false:=by decide
 simp only[n1,n2,n3,Wf,So,if_false]
 refine QZ (rO hit (QZ (wpAny_holding (Bu hit hl hz fun t=>?_))))
 have h0:((items.size:Int) - 1 - ((0:Nat):Int))=(items.size:Int) - 1:=by omega
 refine wpAny_ite_split (fun _=>?_) (fun _=>?_)
 ·refine QZ (wpAny_rule ?_)
  refine QZ ?_
  show wpAny _ A.in1 (updateSeq S (·.push .none) >>= fun _=>updateSeq S (·.pop)) _ _ _
  refine QZ (wpAny_updateSeq hS rfl ?_)
  have g2:=Sd (Obj.mapSeq (·.push Value.none)) hS rfl
  refine wpAny_updateSeq (hz:=by seq_fits) g2 rfl ?_
  have g3:=Sd (Obj.mapSeq (·.pop)) g2 rfl
  have oth:∀ b o,b≠S→s.heap.get? b=some o→((s.heap.update S (Obj.mapSeq (·.push Value.none))).update S (Obj.mapSeq (·.pop))).get? b=some o :=
   fun b o q1 q2=>(RT _ _ (Ne.symm q1)).trans ((RT _ _ (Ne.symm q1)).trans q2)
  refine Rn ⟨plainId_quiet F.plain_extend_loop _,?_⟩
  refine codeAny_extend_loopS V hz S nf .none items.size 0 _ #[] _ rfl (Sb _) ⟨Sb _,by rw[h0];exact hit.at fun o e=>oth it o (Ne.symm hi) e,let ⟨o,ho,r⟩:=hl;⟨o,oth l o (Ne.symm hj) ho,r⟩⟩ g3 (ItemsOf.nil _) fun s2 acc c1 mv g1 g2=>?_
  rw[Moved.eq_with mv]
  exact fin s2.heap s2.toks acc c1 (fun b o q1 q2 q3=>mv.heap b o (fun q=>(RC.mp q).elim q1 fun q'=>q2 (Ry.mp q')) (oth b o q1 q3)) g1 g2
 ·refine Rn ⟨plainId_quiet F.plain_extend_loop _,?_⟩
  refine codeAny_extend_loopS V hz S nf .none items.size 0 _ #[] c₀ rfl (Sb _) ⟨Sb _,by rw[h0];exact hit,hl⟩ hS (ItemsOf.nil _) fun s2 acc c1 mv g1 g2=>?_
  rw[Moved.eq_with mv]
  exact fin s2.heap s2.toks acc c1 (fun b o q1 q2 q3=>mv.heap b o (fun q=>(RC.mp q).elim q1 fun q'=>q2 (Ry.mp q')) q3) g1 g2
theorem zO{R:Result→Shared→Prop}{it l S:Addr}{items:Array Value}(hh:A.handled=none)(hit:R8 s.heap it l ((items.size:Int) - 1))(hl:IsTup s.heap l items)(hne:l≠it)(hi:S≠it)(hj:S≠l)(hz:items.size≤sizeLine)
  (hS:s.heap.get? S=some { cls:=.type "list",data:=.seq #[] })
  (fin:∀ h' tk acc c1,(∀ b o,b≠S→b≠it→s.heap.get? b=some o→h'.get? b=some o)→h'.get? S=some { cls:=.type "list",dict:=none,data:=.seq acc c1,slots:=#[] }→ItemsOf (fL items) acc items.size→R (.ok (.ret .none)) { s with heap:=h',toks:=tk }) :
  wpAny (model prog w) A.in1 (Builtin.«list.__init__» ⟨[.ref S,.ref it],[]⟩) (sE prog w A R) (fun e s'=>R (.error e) s') s:=by
 show wpAny _ A.in1 (Builtin.List.listItems (.ref S) >>= fun was=>Builtin.List.listUpdate (.ref S) (fun _=>#[]) >>= fun _=>letGo was.toList.reverse >>= fun _=>Builtin.List.listExtendWith (.ref S) (.ref it) .none) (sE prog w A R) (fun e s'=>R (.error e) s') s
 unfold Builtin.List.listItems
 refine QZ (QZ (wpAny_seqItems hS rfl (Rn ?_)))
 show wpAny _ A.in1 (updateSeq S (fun _=>#[]) >>= fun _=>letGo (#[]:Array Value).toList.reverse >>= fun _=>Builtin.List.listExtendWith (.ref S) (.ref it) .none) (sE prog w A R) (fun e s'=>R (.error e) s') s
 refine QZ (wpAny_updateSeq hS rfl (QZ (wpAny_letGo ?_)))
 have g:=Sd (Obj.mapSeq fun _=>(#[]:Array Value)) hS rfl
 have oth:∀ b o,b≠S→s.heap.get? b=some o→(s.heap.update S (Obj.mapSeq fun _=>(#[]:Array Value))).get? b=some o:=fun b o q1 q2=>(RT _ _ (Ne.symm q1)).trans q2
 refine sP hh (hit.at fun o e=>oth it o (Ne.symm hi) e) (let ⟨o,ho,r⟩:=hl;⟨o,oth l o (Ne.symm hj) ho,r⟩) hne hi hj hz g fun h' tk acc c1 q1 q2 q3=>?_
 exact fin h' tk acc c1 (fun b o b1 b2 e=>q1 b o b1 b2 (oth b o b1 e)) q2 q3
theorem kT{it l:Addr}{items:Array Value}{Q:Value→Shared→Prop}(hh:A.handled=none)(hit:R8 s.heap it l ((items.size:Int) - 1))(hl:IsTup s.heap l items)(hne:l≠it)(hz:items.size≤sizeLine)
  (fin:∀ h' tk acc c1,(∀ b o,b≠it→s.heap.get? b=some o→h'.get? b=some o)→h'.get? s.heap.objs.size=some { cls:=.type "list",dict:=none,data:=.seq acc c1,slots:=#[] }→ItemsOf (fL items) acc items.size→Q (.ref s.heap.objs.size) { s with heap:=h',toks:=tk }) :
  wpAny (model prog w) A (call (.type "list") [.ref it]) Q E s:=by
 obtain⟨oi,hoi,_⟩:=id hit
 obtain⟨ol,hol,_⟩:=id hl
 have i1:s.heap.objs.size≠it:=Sz (Rt hoi)
 have i2:s.heap.objs.size≠l:=Sz (Rt hol)
 let h1:=s.heap.push { cls:=.type "list",data:=.seq #[] }
 have up:∀ b o,s.heap.get? b=some o→h1.get? b=some o:=fun b o e=>Rf _ e
 have gS:h1.get? s.heap.objs.size=some { cls:=.type "list",data:=.seq #[] }:=Rp _ rfl
 refine callType_codes (Q₁:=fun x s1=>x = .ref s.heap.objs.size∧s1 = { s with heap:=h1 }) F.called_list (F.typeCall_list_1 _) F.entry_list_init (code_list_new _ ⟨rfl,rfl⟩) ?_
 rintro x s1 ⟨rfl,rfl⟩
 refine⟨⟨_,gS,rfl⟩,F.args_list_init_2 _ _,zO (A:=A.in1) hh (hit.at fun o e=>up it o e) (let ⟨o,ho,r⟩:=hl;⟨o,up l o ho,r⟩) hne i1 i2 hz gS fun h' tk acc c1 q1 q2 q3=>?_⟩
 exact⟨rfl,fin h' tk acc c1 (fun b o b1 e=>q1 b o (RY (Rt e)) b1 (up b o e)) q2 q3⟩
end
section
variable {X:Cx}
noncomputable def rvO(k:Bool)(a:Addr)(n:Nat):Obj:=if k=true then revObj a ((n:Int) - 1)else mW a ((n:Int) - 1)
noncomputable def rvφ(k:Bool)(p a:Addr)(n:Nat):Heap→Prop:=fun h=>h.get? p=some (rvO k a n)
theorem pb:E5 X (.type "reversed") (fun xs H Q=>∃ a k ys,xs=[.ref a]∧SqK X.K k H a ys∧∀ p,H p=none→p≠a→X.s₀.heap.objs.size≤p→Q (.ref p) (upd H p (.ext (rvφ k p a ys.length)))):=by
 intro pins s σ H xs us Q I rv h
 obtain⟨a,k,ys,rfl,sq,q⟩:=h
 obtain⟨u,rfl,ru⟩:=rv.one
 cases ru
 cases k with
 | true =>
  obtain⟨its,r,ht,hz⟩:=I.list sq
  have hl:=r.length
  obtain⟨o,ho,_⟩:=id ht.isList
  refine call_reversed_list ht.isList ⟨.ref s.heap.objs.size,_,I.laid (t':=s.toks) (o:=.ext (rvφ true s.heap.objs.size a ys.length)) (fun b u e=>Rf _ e) (Rx _) ?_,rfl,q _ I.fresh (Sz (Rt ho)) I.sz⟩
  have e:(s.heap.push (revObj a ((its.toArray.size:Int) - 1))).get? s.heap.objs.size=some (rvO true a ys.length):=by
   rw[Rp _ rfl,hl];rfl
  exact⟨e,⟨_,e⟩,fun h1 h2 z k=>k _ z⟩
 | false =>
  obtain⟨its,r,ht,hz⟩:=I.tuple sq
  have hl:=r.length
  obtain⟨o,ho,_⟩:=id ht
  have hz2:((its.toArray.size:Nat):Int)<2 ^ 63:=by
   have:sizeLine<2 ^ 62:=by decide
   rw[Rw]
   omega
  refine Cc ht hz2 fun t=>⟨.ref s.heap.objs.size,_,I.laid (t':=t) (o:=.ext (rvφ false s.heap.objs.size a ys.length)) (fun b u e=>Rf _ e) (Rx _) ?_,rfl,q _ I.fresh (Sz (Rt ho)) I.sz⟩
  have e:(s.heap.push (mW a ((its.toArray.size:Int) - 1))).get? s.heap.objs.size=some (rvO false a ys.length):=by
   rw[Rp _ rfl,hl];rfl
  exact⟨e,⟨_,e⟩,fun h1 h2 z k=>k _ z⟩
theorem rY(hc:X.calm=true):E5 X (.type "list") (fun xs H Q=>∃ it a k ys,xs=[.ref it]∧H it=some (.ext (rvφ k it a ys.length))∧SqK X.K k H a ys∧a≠it∧X.s₀.heap.objs.size≤it∧∀ p,H p=none→Q (.ref p) (jL (upd H p (.lst ys.reverse)) it)):=by
 intro pins s σ H xs us Q I rv h
 obtain⟨it,a,k,ys,rfl,hit,sq,hne,hge,q⟩:=h
 obtain⟨u,rfl,ru⟩:=rv.one
 cases ru
 have hob:s.heap.get? it=some (rvO k a ys.length):=(I.hok it _ hit).1
 obtain⟨its,r,hz,hcall⟩:∃ its:List Value,p0 ys its∧ys.length≤sizeLine∧∀(A:Around) (E:Value→Shared→Prop) (Q:Value→Shared→Prop),A.handled=none→(∀ h' tk acc c1,(∀ b o,b≠it→s.heap.get? b=some o→h'.get? b=some o)→h'.get? s.heap.objs.size=some { cls:=.type "list",dict:=none,data:=.seq acc c1,slots:=#[] }→ItemsOf (fL its.toArray) acc its.toArray.size→Q (.ref s.heap.objs.size) { s with heap:=h',toks:=tk })→wpAny (model X.prog X.w) A (call (.type "list") [.ref it]) Q E s:=by
  cases k with
  | true =>
   obtain⟨its,r,ht,hz⟩:=I.list sq
   have hsz:its.toArray.size=ys.length:=by rw[Rw];exact r.length.symm
   exact⟨its,r,hz,fun A E Q hA fin=>kU hA ⟨_,hob,rfl,by rw[hsz];rfl⟩ ht.isList hne (by rw[hsz];exact hz) fin⟩
  | false =>
   obtain⟨its,r,ht,hz⟩:=I.tuple sq
   have hsz:its.toArray.size=ys.length:=by rw[Rw];exact r.length.symm
   exact⟨its,r,hz,fun A E Q hA fin=>kT hA ⟨_,hob,rfl,by rw[hsz];rfl⟩ ht hne (by rw[hsz];exact hz) fin⟩
 refine hcall _ _ _ (I.ok.hd hc) fun h' tk acc c1 k1 k2 k3=>?_
 have hacc:=xy k3
 have fr:=I.fresh
 have ex:∀{b o},s.heap.get? b=some o→b≠s.heap.objs.size:=fun e=>RY (Rt e)
 have old:∀{b u},H b=some u→b≠s.heap.objs.size:=fun{b u} e z=>by rw[z,fr]at e;cases e
 have nit:∀{b u},H b=some u→u ≠ .ext (rvφ k it a ys.length)→b≠it:=fun{b u} e n z=>by
  rw[z,hit]at e;exact n (Option.some.inj e).symm
 have here:∀{b},b≠s.heap.objs.size→b≠it→jL (upd H s.heap.objs.size (.lst ys.reverse)) it b=H b:=fun b1 b2=>by rw[jK b2,o7 b1]
 have un:Un (frs X.stack) [it] H (jL (upd H s.heap.objs.size (.lst ys.reverse)) it) s.heap h':={
  keep:=fun b o e n _ hx=>k1 b o (fun z=>hx (by simp[z])) e
  slot:=fun b o e n _ hx=>⟨o.slots,k1 b o (fun z=>hx (by simp[z])) e⟩
  free:=fun b o e n hx=>by rw[here (ex e) (fun z=>hx (by simp[z]))];exact n
  there:=fun b o e hx=>⟨o,k1 b o (fun z=>hx (by simp[z])) e⟩
  tups:=fun b xs e=>by rw[here (old e) (nit e (by simp))];exact e
  frzs:=fun b o u e=>by rw[here (old e) (nit e (by simp))];exact e
  tbls:=fun b ps e=>⟨#[],by rw[here (old e) (nit e (by simp))];simpa using e⟩ }
 have ok:HOk X.prog X.w (jL (upd H s.heap.objs.size (.lst ys.reverse)) it) h':=fun b u e=>by
  have b2:b≠it:=fun z=>by rw[z,jJ]at e;cases e
  rw[jK b2]at e
  by_cases b1:b=s.heap.objs.size
  ·subst b1
   rw[j7]at e
   cases e
   exact⟨by rw[RQ];exact hz,acc.toList,c1,by rw[hacc];exact r.reverse,k2⟩
  ·rw[o7 b1]at e
   refine(I.hok b u e).stay (fun c v hcv z=>k1 c v ?_ z) (fun c z=>?_) fun c xs z=>?_
   ·rcases hcv with z2|z2
    ·rw[z2];exact b2
    ·exact nit z2 (by simp)
   ·rw[here (old z) (nit z (by simp))];exact z
   ·rw[here (old z) (nit z (by simp))];exact z
 refine⟨.ref s.heap.objs.size,_,I.call (g':=s.gens) (d':=s.drawn) (t':=tk) un ok I.bare (fun b hb=>?_),rfl,q _ fr⟩
 obtain rfl:b=it:=by simpa using hb
 refine⟨.inr hge,fun z=>?_,fun x c e z=>?_,fun p hp z=>?_⟩
 ·rw[z,I.free]at hit;cases hit
 ·rw[← z,I.freeC x c e]at hit;cases hit
 ·rw[← z,(I.pin p hp).2.1]at hit;cases hit
end
section
variable {prog:Program} {w:World} {A:Around} {E:Value→Shared→Prop} {s:Shared}
theorem wb{h h2:Heap}{a b:Addr}{its:Array Value}(x:h.IsList a its)(hs:Heap.ExtBut b h h2)(ne:a≠b):h2.IsList a its:=x.at fun o e=>hs a o ne e
theorem rT{it l:Addr}{its:Array Value}(hne:l≠it):∀(n i:Nat) (s:Shared) (Q:List Value→Shared→Prop),s.heap.IsListIter it l i→s.heap.IsList l its→i+n≤its.size →
  (∀ h2,h2.IsListIter it l (i+n)→Heap.SameBut it s.heap h2→Q ((its.toList.drop i).take n) { s with heap:=h2 })→wpAny (model prog w) A (draw (.ref it) n) Q E s
 | 0,i,s,Q,hi,_,_,k=>by
  show wpAny _ _ (pure []) Q E s
  refine Rn ?_
  simpa using k s.heap hi (Heap.SameBut.refl ..)
 | n+1,i,s,Q,hi,hl,hle,k=>by
  have lt:i<its.size:=by omega
  show wpAny _ _ (pyNext (.ref it) >>= _) Q E s
  refine QZ (wpAny_pyNext_list_item hi hl (x:=its[i]) (by simp[lt]) fun h1 hi1 hs1=>QZ (wpAny_holding ?_))
  refine rT hne n (i+1) _ _ hi1 (wb hl hs1.extBut hne) (by omega) fun h2 hi2 hs2=>Rn ?_
  have e:its.toList.drop i=its[i] :: its.toList.drop (i+1):=by simp[List.drop_eq_getElem_cons,lt]
  have z:=k h2 (by rw[show i+(n+1)=i+1+n by omega];exact hi2) (hs1.trans hs2)
  rw[e,List.take_succ_cons]at z
  exact z
theorem sL{l:Addr}{its:Array Value}{ts:List (Bool × (Value→Sem Unit))}{Q:Unit→Shared→Prop}(hh:A.handled=none)(hl:s.heap.IsList l its)(hn:ts.length=its.size)(hst:ts.findIdx? (·.1)=none)
  (k:∀ h2,Heap.ExtBut s.heap.objs.size s.heap h2→wpAny (model prog w) A (assignInOrder (ts.map (·.2)) its.toList) Q E { s with heap:=h2 }):wpAny (model prog w) A (unpack (.ref l) ts) Q E s:=by
 have ne:l≠s.heap.objs.size:=by obtain⟨o,ho,_⟩:=hl;exact RY (Rt ho)
 unfold unpack
 rw[hn,hst]
 refine QZ (wpAny_holding ?_)
 unfold unpackItems
 refine QZ ?_
 unfold notIterableAtAll
 refine QZ (wpAny_specialOf hl.typeIs F.slot_list_iter.lookup (Rn ?_))
 simp only[So,if_false]
 refine QZ (wpAny_holding (wpAny_pyIter_list hl ?_))
 refine QZ (wpAny_holding (rT ne its.size 0 _ _ ⟨_,Rp _ rfl,rfl,rfl⟩ (hl.at fun o e=>Rf _ e) (by omega) fun h1 hi1 hs1=>?_))
 have all:List.take its.size (List.drop 0 its.toList)=its.toList:=by
  rw[Wd];exact SR (by simp)
 rw[all,if_neg (by simp)]
 have hl1:h1.IsList l its:=wb (hl.at fun o e=>Rf _ e) hs1.extBut ne
 refine QZ (wpAny_holding (wpAny_pyNext_list_end hh hi1 hl1 (by simp) fun h2 he=>?_))
 simp only[Option.isSome_none,So,if_false]
 exact Rn (k h2 fun b o hb e=>he b o hb (hs1.extBut b o hb (Rf _ e)))
end
section
variable {X:Cx} {pos:Pos}
def Jj(K:Ra)(n:Nat)(t:TGs):TG:=fun v σ H Q=>∃ a xs,v = .ref a∧SqL K H a xs∧xs.length=n∧t xs σ H Q
theorem Ek{es:List Expr}{k:Nat}{t:TGs}{n:Nat}(hc:X.calm=true)(h:PGs X es t)(hn:(assignEach es X.env).length=n:=by rfl)
  (hst:(assignEach es X.env).findIdx? (·.1)=none:=by rfl):PG X (.Tuple es k pos) (Jj X.K n t):=by
 intro pins s σ H v u Q I r hw
 obtain⟨a,xs,e1,hq,hl,hw⟩:=hw
 subst e1
 cases r
 obtain⟨its,rv,ht,hz⟩:=I.list hq
 rw[assign_Tuple]
 refine QZ (wpAny_standAt (sL (I.ok.hd hc) ht.isList (by simp[hn,← hl,rv.length]) hst fun h2 hx=>?_))
 have I1:Inv X pins σ H { s with heap:=h2 }:=I.kept (t':=s.toks) fun b o e=>hx b o (RY (Rt e)) e
 exact h pins _ σ H xs _ Q I1 (by simpa using rv) hw
end
noncomputable def Itb(K:Ra)(a:Addr)(n:Nat):It :=
 ⟨fun i H=>i<n∧∃ xs x,SqL K H a xs∧xs[n - 1 - i]? = some x,fun i H x H'=>H'=H∧∀ xs,SqL K H a xs→xs[n - 1 - i]? = some x,fun i _=>n≤i⟩
theorem xg{P:Program}{w:World}{K:Ra}{tg:Expr}(a it:Addr)(n:Nat):pq P w K tg (Itb K a n) [it] it (fun i h=>i≤n∧h.IsRevIter it a ((n:Int) - 1 - (i:Int))) where
 mem:=by simp
 obj:=fun i h st b hb=>by
  obtain rfl:b=it:=by simpa using hb
  obtain⟨_,o,e,c,d⟩:=st
  exact⟨o,e,fun v z=>by rw[d]at z;cases z⟩
 keep:=fun i h h2 st k=>⟨st.1,st.2.at fun o e=>k it (by simp) o e⟩
 item:=by
  intro X hP hw hK hc i pins s σ H E I hf st hg
  subst hP hw hK
  obtain⟨hi,xs,x,hq,hx⟩:=hg
  obtain⟨its,rv,p,hz⟩:=I.list hq
  obtain⟨u,hu,ru⟩:=rv.get hx
  obtain⟨f0,f1,f2,f3,f4,f5⟩:=hf it (by simp)
  have e:(n:Int) - 1 - (i:Int)=((n - 1 - i:Nat):Int):=by omega
  have st2:=st.2
  rw[e]at st2
  refine wpAny_pyNext_rev_item st2 p.isList (x:=u) (by simpa using hu) fun h2 st3 sb=>?_
  have I1:Inv X pins σ H { s with heap:=h2 }:=I.turned (t':=s.toks) (fun b o hb e=>(sb.2 b hb).trans e) f0 f1 f3 f4 f5
  have e2:((n - 1 - i:Nat):Int) - 1=(n:Int) - 1 - ((i+1:Nat):Int):=by omega
  rw[e2]at st3
  obtain⟨o,e3,c,d⟩:=id st3
  exact⟨u,rfl,rP (s:={ s with heap:=h2 }) e3 c d (by decide) ⟨x,H,I1,ru,⟨rfl,fun ys hy=>by rw[I.list_inj hy hq];exact hx⟩,⟨by omega,st3⟩,fun b hb=>(hf b hb).1⟩⟩
 done:=by
  intro X hP hw hK hc i pins s σ H E I hf st hg
  subst hP hw hK
  have hi:i=n:=Nat.le_antisymm st.1 hg
  obtain⟨f0,f1,f2,f3,f4,f5⟩:=hf it (by simp)
  have st2:=st.2
  rw[hi,show(n:Int) - 1 - (n:Int) = -1 by omega]at st2
  refine wpAny_pyNext_rev_end (I.ok.hd hc) st2 fun h2 he=>?_
  exact⟨rfl,I.turned (t':=s.toks) (fun b o hb e=>he b o hb e) f0 f1 f3 f4 f5⟩
 self:=fun A i s Q E st k=>wpAny_pyIter_revIter st.2 k
section
variable {X:Cx}
def LN(K:Ra)(ta:TA):TI:=fun σ H R=>ta σ H fun vs H1=>∃ a xs,vs=[.ref a]∧SqL K H1 a xs∧R (Itb K a xs.length) H1
theorem Ei{tg e:Expr}{ta:TA}{p pos:Pos}(hg:Gl X "reversed")(hm:X.mg "reversed" = none)(hv:bootBuiltins "reversed" = some (.type "reversed"))(ha:PA X [e] ta)
  (hs:starEach [e] X.env=[(false,eval e X.env)]:=by rfl):PI X tg (.Call (.Name "reversed" p) [e] [] pos) (LN X.K ta):=by
 intro pins s σ H R I h
 refine Call_ (K4 I hg hm hv (PyProof.Rows.callWith_type1 (thn (ha pos pins s σ H _ I h) fun us s1 zz=>?_) hs rfl))
 ·obtain⟨vs,H1,I1,r1,a,xs,rfl,hq,q⟩:=zz
  obtain⟨u,rfl,ru⟩:=Y8 r1
  cases ru
  obtain⟨its,rv,pl,hz⟩:=I1.list hq
  have hl:=rv.length
  refine call_reversed_list pl.isList ?_
  have I2:Inv X pins σ H1 { s1 with heap:=s1.heap.push (revObj a ((its.toArray.size:Int) - 1)) }:=I1.kept (t':=s1.toks) fun b o e=>Rf _ e
  have st:(s1.heap.push (revObj a ((its.toArray.size:Int) - 1))).IsRevIter s1.heap.objs.size a ((xs.length:Int) - 1 - ((0:Nat):Int)):=by
   refine⟨_,Rp _ rfl,rfl,?_⟩
   rw[Rw,← hl]
   show Data.fields _=_
   rw[show(xs.length:Int) - 1 - ((0:Nat):Int)=(xs.length:Int) - 1 by omega]
  refine wpAny_pyIter_revIter st ⟨s1.heap.objs.size,[s1.heap.objs.size],_,_,H1,rfl,I2,xg a _ xs.length,⟨Sb _,st⟩,fun b hb=>?_,q⟩
  obtain rfl:b=s1.heap.objs.size:=by simpa using hb
  exact I1.fpOk (Rx _) (I1.hok.fresh (Rx _))
end
section
variable {prog:Program} {w:World} {A:Around} {E:Value→Shared→Prop} {s:Shared}
end
end L2
namespace L2
open PySem
section
variable {prog:Program} {w:World} {A:Around} {E:Value→Shared→Prop} {s:Shared}
theorem BH{k:Bool}{e p l:Addr}{n:Nat}{xs:Array Value}{v old:Value}{Q:Option Value→Shared→Prop}(ie:IsEnum s.heap e p n old)(g:SI k s.heap p l n)(m:SS k s.heap l xs)(hv:xs[n]? = some v)(hne:e≠p)
  (q:∀ h',IsEnumOut h' e p ((n:Int)+1) v s.heap.objs.size→SI k h' p l (n+1)→h'.get? s.heap.objs.size=some { cls:=.type "tuple",data:=.seq #[.int n s.toks,v] }→h'.objs.size=s.heap.objs.size+1 →
   (∀ b o,b≠e→b≠p→s.heap.get? b=some o→h'.get? b=some o)→Q (some (.ref s.heap.objs.size)) { s with heap:=h',toks:=s.toks+1 }):wpAny (model prog w) A (pyNext (.ref e)) Q E s:=by
 have ty:s.TypeIs (.ref e) "enumerate" := ⟨_,ie,rfl⟩
 unfold pyNext
 refine QZ (wpAny_attempt (wpAny_callSpecial?_slot (name:=Str.ofString "__next__") ty F.slot_enumerate_next (wpAny_call_entry F.slot_enumerate_next ty F.entry_enumerate_next ?_ (F.args_enumerate_next_1 _))))
 obtain⟨hp,gs,dr,tk,os⟩:=s
 show wpAny _ _ (field (.ref e) 2 >>= _) _ _ _
 refine QZ (wpAny_field ie rfl (x:=.ref p) rfl (QZ (gc g m hv fun ha ga sa=>?_)))
 replace sa:Heap.SameBut p hp ha:=sa
 have ea:IsEnum ha e p n old:=(sa.2 e hne).trans ie
 show wpAny _ _ (field (.ref e) 3 >>= _) _ _ ⟨ha,gs,dr,tk,os⟩
 refine QZ (wpAny_field ea rfl (x:=rawInt n) rfl ?_)
 show wpAny _ _ (field (.ref e) 4 >>= _) _ _ ⟨ha,gs,dr,tk,os⟩
 refine QZ (wpAny_field ea rfl (x:=.none) rfl ?_)
 show wpAny _ _ (mkInt n >>= _) _ _ ⟨ha,gs,dr,tk,os⟩
 refine QZ (wpAny_mkInt ?_)
 show wpAny _ _ (setField (.ref e) 3 (rawInt ((n:Int)+1)) >>= _) _ _ ⟨ha,gs,dr,tk+1,os⟩
 refine QZ (wpAny_setField_rec ea (by simp) fun hb eb sb=>?_)
 replace sb:Heap.SameBut e ha hb:=sb
 replace eb:IsEnum hb e p ((n:Int)+1) old:=eb
 show wpAny _ _ (setField (.ref e) 4 .none >>= _) _ _ ⟨hb,gs,dr,tk+1,os⟩
 refine QZ (wpAny_setField_rec eb (by simp) fun hc ec sc=>?_)
 replace sc:Heap.SameBut e hb hc:=sc
 replace ec:IsEnum hc e p ((n:Int)+1) old:=ec
 show wpAny _ _ (newTuple [.int n tk,v] >>= _) _ _ ⟨hc,gs,dr,tk+1,os⟩
 refine QZ (wpAny_newTuple ?_)
 have zc:hc.objs.size=hp.objs.size:=by rw[sc.1,sb.1,sa.1]
 have ltE:e<hp.objs.size:=Rt ie
 obtain⟨hd,hhd⟩:∃ hd,hd=hc.push { cls:=.type "tuple",data:=.seq #[.int n tk,v] }:=⟨_,rfl⟩
 have ed:IsEnum hd e p ((n:Int)+1) old:=by rw[hhd];exact Rf _ ec
 have td:hd.get? hp.objs.size=some { cls:=.type "tuple",data:=.seq #[.int n tk,v] }:=by rw[hhd,← zc];exact Rp _ rfl
 have zd:hd.objs.size=hp.objs.size+1:=by rw[hhd,Sr,zc]
 have kd:∀ b o,b≠e→b≠p→hp.get? b=some o→hd.get? b=some o:=fun b o b1 b2 z=>by rw[hhd];exact Rf _ (sc.extBut b o b1 (sb.extBut b o b1 (sa.extBut b o b2 z)))
 have gd:SI k hd p l (n+1):=((ga.but sb.extBut (Ne.symm hne)).but sc.extBut (Ne.symm hne)).at fun o z=>by rw[hhd];exact Rf _ z
 show wpAny _ _ (Builtin.SmallTypes.ownedTupleIsFree (.ref e) >>= _) _ _ ⟨hc.push { cls:=.type "tuple",data:=.seq #[.int n tk,v] },gs,dr,tk+1,os⟩
 rw[← hhd,zc]
 refine QZ ?_;unfold Builtin.SmallTypes.ownedTupleIsFree
 refine QZ (wpAny_field ed rfl (x:=.none) rfl (Rn ?_));simp only[if_true]
 refine QZ (wpAny_rule (QZ (wpAny_field ed rfl (x:=old) rfl (QZ (wpAny_setField_rec ed (by simp) fun hf ef sf=>?_)))))
 replace sf:Heap.SameBut e hd hf:=sf
 replace ef:IsEnum hf e p ((n:Int)+1) v:=ef
 show wpAny _ _ (Builtin.SmallTypes.ownedTupleHandOut (.ref e) (.ref hp.objs.size) >>= _) _ _ ⟨hf,gs,dr,tk+1,os⟩
 refine QZ ?_;unfold Builtin.SmallTypes.ownedTupleHandOut
 refine QZ (wpAny_setField_rec ef (by simp) fun hg eg sg=>?_)
 replace sg:Heap.SameBut e hf hg:=sg
 replace eg:IsEnumOut hg e p ((n:Int)+1) v hp.objs.size:=eg
 refine wpAny_setField_rec eg (by simp) fun hh eh sh=>?_
 replace sh:Heap.SameBut e hg hh:=sh
 replace eh:IsEnumOut hh e p ((n:Int)+1) v hp.objs.size:=eh
 refine QZ (wpAny_letGo (Rn ⟨_,rfl,Rn (q hh eh ?_ ?_ ?_ ?_)⟩))
 ·exact((gd.but sf.extBut (Ne.symm hne)).but sg.extBut (Ne.symm hne)).but sh.extBut (Ne.symm hne)
 ·exact sh.extBut _ _ (Sz ltE) (sg.extBut _ _ (Sz ltE) (sf.extBut _ _ (Sz ltE) td))
 ·show hh.objs.size=hp.objs.size+1
  rw[sh.1,sg.1,sf.1,zd]
 ·exact fun b o b1 b2 z=>sh.extBut b o b1 (sg.extBut b o b1 (sf.extBut b o b1 (kd b o b1 b2 z)))
theorem Fi{k:Bool}{e p l:Addr}{n:Nat}{xs:Array Value}{old:Value}{Q:Option Value→Shared→Prop}(hA:A.handled=none)(ie:IsEnum s.heap e p n old)(g:SI k s.heap p l n)(m:SS k s.heap l xs)(hv:xs[n]? = none)
  (q:∀ h',Heap.ExtBut p s.heap h'→Q none { s with heap:=h' }):wpAny (model prog w) A (pyNext (.ref e)) Q E s:=by
 have ty:s.TypeIs (.ref e) "enumerate" := ⟨_,ie,rfl⟩
 unfold pyNext
 refine QZ (wpAny_attempt (wpAny_callSpecial?_slot (name:=Str.ofString "__next__") ty F.slot_enumerate_next (wpAny_call_entry F.slot_enumerate_next ty F.entry_enumerate_next ?_ (F.args_enumerate_next_1 _))))
 show wpAny _ _ (field (.ref e) 2 >>= _) _ _ _
 refine QZ (wpAny_field ie rfl (x:=.ref p) rfl (QZ (sW hA g m hv fun h' x he' zz=>?_)))
 obtain⟨o,ho,hc⟩:=zz
 exact QZ (wpAny_isInstance (T := "StopIteration") (b:=true) ⟨o,ho,hc⟩ isSubtype_stop (Rn (q _ he')))
end
set_option maxHeartbeats 2000000 in
theorem BI(l:Addr)(xs:Array Value)(n:Nat)(dct:Option Addr)(sl:Array (Option Value)) :
  Meets (Builtin.«enumerate.__new__» ⟨[.type "enumerate",.ref l],[]⟩) (fun _ R s=>s.heap.get? l=some { cls:=.type "tuple",dict:=dct,data:=.seq xs n,slots:=sl } ∧
   R (.ok (.ret (.ref (zA false s.heap l).objs.size))) { s with heap:=(zA false s.heap l).push { cls:=.type "enumerate",data:=.fields #[.none,.bool false,.ref s.heap.objs.size,rawInt 0,.none,.none] } }) :=
 .of_wp fun prog w A R s h=>by
  obtain⟨hp,g,d,tk,os⟩:=s
  obtain⟨hl,h⟩:=h
  have hsub:=sub_enumerate
  have hT:Heap.IsTuple (Shared.heap ⟨hp,g,d,tk,os⟩) l xs:=⟨_,hl,rfl,n,rfl⟩
  wp_walk using AutoSeq1.wpAny_loadPart' hl
  refine wpAny_stack_any fun st=>Rn ?_
  split
  ·rename_i c _ _ _ _ _
   cases(c == Value.type "enumerate")
   ·wp_walk using AutoSeq1.wpAny_loadPart' hl,wpAny_pyIter_tuple hT
    exact⟨_,rfl,h⟩
   ·wp_walk using AutoSeq1.wpAny_loadPart' hl,wpAny_pyIter_tuple hT
    exact⟨_,rfl,h⟩
  ·wp_walk using AutoSeq1.wpAny_loadPart' hl,wpAny_pyIter_tuple hT
   exact⟨_,rfl,h⟩
section
variable {prog:Program} {w:World} {A:Around} {E:Value→Shared→Prop} {s:Shared}
theorem Ce{k:Bool}{l:Addr}{xs:Array Value}{Q:Value→Shared→Prop}(m:SS k s.heap l xs)
  (q:∀ h',IsEnum h' (s.heap.objs.size+1) s.heap.objs.size 0 .none→SI k h' s.heap.objs.size l 0→h'.objs.size=s.heap.objs.size+2→(∀ b o,s.heap.get? b=some o→h'.get? b=some o)→Q (.ref (s.heap.objs.size+1)) { s with heap:=h' }) :
  wpAny (model prog w) A (call (.type "enumerate") [.ref l]) Q E s:=by
 cases k with
 | true=>exact call_enumerate_list m q
 | false =>
  obtain⟨⟨c,dct,dt,sl⟩,hl,hc,n,hd⟩:=m
  simp only at hc hd
  subst hc;subst hd
  refine callType_new F.called_enumerate (by decide) (F.typeCall_enumerate_1 _) (F.newCall_enumerate_1 _) (fun obj=>F.args_object_init_2 obj _) F.entry_enumerate_new (BI l xs n dct sl) ⟨hl,?_⟩
  have s1:(zA false s.heap l).objs.size=s.heap.objs.size+1:=Sr ..
  have o1:((zA false s.heap l).push { cls:=.type "enumerate",data:=.fields #[.none,.bool false,.ref s.heap.objs.size,rawInt 0,.none,.none] }).get? (zA false s.heap l).objs.size=some _:=Rp _ rfl
  show _∧_
  rw[s1]at o1 ⊢
  exact⟨⟨_,o1,rfl⟩,q _ o1 ⟨_,Rf _ (Rp _ rfl),rfl,rfl⟩ (by rw[Sr,s1]) fun b o e=>Rf _ (Rf _ e)⟩
end
end L2
namespace L2
open PySem PySem.Spec PyProof.Rows
noncomputable def Ite(K:Ra)(k:Bool)(l:Addr):It :=
 ⟨fun i H=>∃ xs x,SqK K k H l xs∧xs[i]? = some x,
  fun i H v H'=>∃ T x,H T=none∧v = .ref T∧H'=upd H T (.tup [.int i,x])∧∀ xs,SqK K k H l xs→xs[i]? = some x,
  fun i H=>∃ xs,SqK K k H l xs∧xs.length≤i⟩
def JM(k:Bool)(e p l:Addr)(i:Nat)(h:Heap):Prop:=(∃ old,IsEnum h e p i old)∧SI k h p l i
theorem xb{P:Program}{w:World}{K:Ra}{elts:List Expr}{kx:Nat}{tp:Pos}{k:Bool}{e p l:Addr}(hne:e≠p):pq P w K (.Tuple elts kx tp) (Ite K k l) [e,p] e (JM k e p l) where
 mem:=by simp
 obj:=fun i h ⟨⟨old,ie⟩,g⟩ c hc=>by
  simp only[RC,RS,or_false]at hc
  rcases hc with rfl|rfl
  ·exact⟨_,ie,fun v z=>by cases z⟩
  ·exact g.obj
 keep:=fun i h h' ⟨⟨old,ie⟩,g⟩ kk=>⟨⟨old,kk e (by simp) _ ie⟩,g.at fun o z=>kk p (by simp) o z⟩
 item:=by
  intro X hP hw hK hc i pins s σ H E I hf st hg
  subst hP hw hK
  obtain⟨⟨old,ie⟩,g⟩:=st
  obtain⟨xs,x,q1,hx⟩:=hg
  obtain⟨is1,r1,m1⟩:=I.sqk q1
  obtain⟨u1,hu1,ru1⟩:=r1.get hx
  refine BH ie g m1 (v:=u1) (by simpa using hu1) hne fun h' a1 a2 a3 a4 kk=>?_
  refine⟨_,rfl,?_⟩
  refine wpAny_letOwnedTupleGo_enum (s:={ s with heap:=h',toks:=s.toks+1 }) a1 fun h2 b1 b2=>?_
  have lt:∀{c o},s.heap.get? c=some o→c≠s.heap.objs.size:=fun z=>RY (Rt z)
  have I1:Inv X pins σ (upd H s.heap.objs.size (.tup [.int i,x])) { s with heap:=s.heap.push { cls:=.type "tuple",data:=.seq #[.int i s.toks,u1] },toks:=s.toks+1 } :=
   I.laid (o:=.tup [.int i,x]) (fun b ob q=>Rf _ q) (Rx _) ⟨(show 2≤sizeLine by decide),[.int i s.toks,u1],.cons ⟨_,rfl⟩ (.cons ru1 .nil),IsTup.new _ _⟩
  have nfp:∀ c∈[e,p],c≠s.heap.objs.size:=fun c hc=>by
   simp only[RC,RS,or_false]at hc
   rcases hc with rfl|rfl
   ·exact lt ie
   ·obtain⟨o,z,_⟩:=g.obj;exact lt z
  have hf':∀ c∈[e,p],cS X pins (upd H s.heap.objs.size (.tup [.int i,x])) c:=fun c hc=>by
   obtain⟨f0,f1⟩:=hf c hc
   exact⟨by rw[o7 (nfp c hc)];exact f0,f1⟩
  have I2:Inv X pins σ (upd H s.heap.objs.size (.tup [.int i,x])) { s with heap:=h2,toks:=s.toks+1 }:=by
   refine Inv.turnedN (s:={ s with heap:=s.heap.push { cls:=.type "tuple",data:=.seq #[.int i s.toks,u1] },toks:=s.toks+1 }) (t':=s.toks+1) (h':=h2) (ch:=[e,p]) I1 (fun c o hcn z=>?_) hf'
   simp only[RC,RS,or_false,not_or]at hcn
   obtain⟨n1,n2⟩:=hcn
   refine b2.extBut c o n1 ?_
   have z':(s.heap.push { cls:=.type "tuple",data:=.seq #[.int i s.toks,u1] }).get? c=some o:=z
   by_cases hcs:c=s.heap.objs.size
   ·subst hcs
    rw[Rp _ rfl]at z'
    cases z'
    exact a3
   ·rw[Vy _ _ _ hcs]at z'
    exact kk c o n1 n2 z'
  refine⟨.ref s.heap.objs.size,_,I2,rfl,⟨_,x,I.hok.fresh (Rx _),rfl,rfl,fun zs hz=>by rw[I.sqk_inj hz q1];exact hx⟩,?_,fun c hc=>(hf' c hc).1⟩
  have ec:((i+1:Nat):Int)=(i:Int)+1:=by omega
  exact⟨⟨u1,by rw[ec];exact b1⟩,a2.at fun o z=>b2.extBut p o (Ne.symm hne) z⟩
 done:=by
  intro X hP hw hK hc i pins s σ H E I hf st hg
  subst hP hw hK
  obtain⟨⟨old,ie⟩,g⟩:=st
  obtain⟨xs,q1,hx⟩:=hg
  obtain⟨is1,r1,m1⟩:=I.sqk q1
  have e1:=r1.length
  refine Fi (I.ok.hd hc) ie g m1 (by simp;omega) fun h' kk=>⟨rfl,?_⟩
  refine I.turnedN (t':=s.toks) (ch:=[e,p]) (fun c o hcn z=>?_) hf
  simp only[RC,RS,or_false,not_or]at hcn
  exact kk c o hcn.2 z
 self:=fun _ _ _ _ _ st h=>let ⟨⟨_,ie⟩,_⟩:=st;wpAny_pyIter_enum ie h
def LM(K:Ra)(ta:TA):TI:=fun σ H R=>ta σ H fun vs H1=>∃ k l,vs=[.ref l]∧(∃ xs,SqK K k H1 l xs)∧R (Ite K k l) H1
theorem Eh{X:Cx}{elts:List Expr}{kx:Nat}{tp:Pos}{a:Expr}{ta:TA}{p pos:Pos}(hg:Gl X "enumerate")(hm:X.mg "enumerate" = none)(ha:PA X [a] ta)(hs:starEach [a] X.env=[(false,eval a X.env)]:=by rfl) :
  PI X (.Tuple elts kx tp) (.Call (.Name "enumerate" p) [a] [] pos) (LM X.K ta):=by
 intro pins s σ H R I h
 refine Call_ (K4 I hg hm PyProof.Rows.boot_enumerate (PyProof.Rows.callWith_type1 (thn (ha pos pins s σ H _ I h) fun us s1 ⟨vs,H1,I1,r1,q1⟩=>?_) hs rfl))
 obtain⟨k,l,e,⟨xs,q2⟩,q⟩:=q1
 subst e
 cases r1 with
 | cons r rr =>
  cases rr
  cases r
  obtain⟨is1,_,m1⟩:=I1.sqk q2
  refine Ce m1 fun h' a1 a2 a3 kk=>?_
  refine wpAny_pyIter_enum (s:={ s1 with heap:=h' }) a1 ?_
  refine⟨s1.heap.objs.size+1,_,_,_,H1,rfl,I1.kept (t':=s1.toks) kk,xb (Nat.succ_ne_self _),⟨⟨_,a1⟩,a2⟩,fun c hc=>?_,q⟩
  have hge:s1.heap.objs.size≤c:=by
   simp only[RC,RS,or_false]at hc
   rcases hc with rfl|rfl
   ·exact Tv _ _
   ·exact Rx _
  exact I1.fpOk hge (I1.hok.fresh hge)
end L2
namespace L2
open PySem
theorem PE.imp{X:Cx}{x:Expr}{t t':TE}(h:PE X x t)(i:∀ σ H Q,t' σ H Q→t σ H Q):PE X x t':=fun pins s σ H Q I q=>h pins s σ H Q I (i σ H Q q)
theorem PT.imp{X:Cx}{x:Expr}{t t':TT}(h:PT X x t)(i:∀ σ H Q,t' σ H Q→t σ H Q):PT X x t':=fun pins s σ H Q I q=>h pins s σ H Q I (i σ H Q q)
theorem PW.imp{X:Cx}{x:Expr}{t t':TT}(h:PW X x t)(i:∀ σ H Q,t' σ H Q→t σ H Q):PW X x t':=fun wh pins s σ H Q I q=>h wh pins s σ H Q I (i σ H Q q)
theorem PA.imp{X:Cx}{x:List Expr}{t t':TA}(h:PA X x t)(i:∀ σ H Q,t' σ H Q→t σ H Q):PA X x t':=fun pos pins s σ H Q I q=>h pos pins s σ H Q I (i σ H Q q)
theorem PS.imp{X:Cx}{x:Stmt}{t t':TS}(h:PS X x t)(i:∀ E σ H,t' E σ H→t E σ H):PS X x t':=fun pins s σ H D I q=>h pins s σ H D I (i D σ H q)
theorem PSs.imp{X:Cx}{x:List Stmt}{t t':TS}(h:PSs X x t)(i:∀ E σ H,t' E σ H→t E σ H):PSs X x t':=fun pins s σ H D I q=>h pins s σ H D I (i D σ H q)
theorem OpR.imp{X:Cx}{f:Value→Value→Sem Value}{r r':R2}(h:OpR X f r)(i:∀ x y H Q,r' x y H Q→r x y H Q):OpR X f r':=fun pins s σ H x y v u Q I rx ry q=>h pins s σ H x y v u Q I rx ry (i x y H Q q)
theorem IxR.imp{X:Cx}{r r':R2}(h:IxR X r)(i:∀ x y H Q,r' x y H Q→r x y H Q):IxR X r':=fun va sl pins s σ H x y v u Q I rx ry q=>h va sl pins s σ H x y v u Q I rx ry (i x y H Q q)
theorem PG.imp{X:Cx}{x:Expr}{t t':TG}(h:PG X x t)(i:∀ v σ H Q,t' v σ H Q→t v σ H Q):PG X x t':=fun pins s σ H v u Q I r q=>h pins s σ H v u Q I r (i v σ H Q q)
theorem PGs.imp{X:Cx}{x:List Expr}{t t':TGs}(h:PGs X x t)(i:∀ v σ H Q,t' v σ H Q→t v σ H Q):PGs X x t':=fun pins s σ H v u Q I r q=>h pins s σ H v u Q I r (i v σ H Q q)
end L2
namespace DL
open PySem PySem.Spec L2
open PyProof.Rows hiding St
inductive D where
 | non|bl (b:Bool)|int (i:Int)|str (x:Str)|ref (a:Addr)|tup (ds:List D)|vl (ds:List D)|ty (n:String)|dic
def KL(K:Ra)(a:Addr)(xs:List V):Prop:=∀ H:Hp,SqL K H a xs
mutual
inductive Has (K:Ra) (H:Hp):V→D→Prop
 | non:Has K H .non .non
 | bl (b:Bool):Has K H (.bl b) (.bl b)
 | int (i:Int):Has K H (.int i) (.int i)
 | str (x:Str):Has K H (.str x) (.str x)
 | ref (a:Addr):Has K H (.ref a) (.ref a)
 | ty (n:String):Has K H (.ty n) (.ty n)
 | tup {a:Addr} {xs:List V} {ds:List D}:SqT K H a xs→HasL K H xs ds→Has K H (.ref a) (.tup ds)
 | vl {a:Addr} {xs:List V} {ds:List D}:((∃ o,H a=some (.frz o (.lst xs)))∨KL K a xs)→HasL K H xs ds→Has K H (.ref a) (.vl ds)
 | dic {a:Addr}:(∃ o:Obj,H a=some (.frz o (.own 0))∧o.cls = .type "dict")→Has K H (.ref a) .dic
inductive HasL (K:Ra) (H:Hp):List V→List D→Prop
 | nil:HasL K H [] []
 | cons {v:V} {d:D} {vs:List V} {ds:List D}:Has K H v d→HasL K H vs ds→HasL K H (v :: vs) (d :: ds)
end
structure KT0(H H':Hp):Prop where
 tp:∀ a xs,Rd H a (.tup xs)→Rd H' a (.tup xs)
 fz:∀ a o u,H a=some (.frz o u)→H' a=some (.frz o u)
structure KT(H H':Hp):Prop extends KT0 H H' where
 ex:∀ a φ,H a=some (.ext φ)→H' a=some (.ext φ)
theorem KT.refl(H:Hp):KT H H:=⟨⟨fun _ _ h=>h,fun _ _ _ h=>h⟩,fun _ _ h=>h⟩
theorem KT.trans{H H1 H2:Hp}(a:KT H H1)(b:KT H1 H2):KT H H2:=⟨⟨fun p xs h=>b.tp p xs (a.tp p xs h),fun p o xs h=>b.fz p o xs (a.fz p o xs h)⟩,fun p φ h=>b.ex p φ (a.ex p φ h)⟩
theorem KT0.sq{K:Ra}{H H':Hp}(k:KT0 H H'){a:Addr}{xs:List V}(h:SqT K H a xs):SqT K H' a xs:=h.elim (fun z=>.inl (k.tp a xs z)) .inr
theorem KT.sq{K:Ra}{H H':Hp}(k:KT H H'){a:Addr}{xs:List V}(h:SqT K H a xs):SqT K H' a xs:=k.toKT0.sq h
theorem KT0.at{H:Hp}{p:Addr}{o:HO}(h1:∀ xs,¬ Rd H p (.tup xs))(h2:∀ q u,H p≠some (.frz q u)):KT0 H (upd H p o) where
 tp:=fun a xs r=>by
  have hn:a≠p:=by intro e;subst e;exact h1 xs r
  rcases r with r|⟨q,r⟩
  ·exact .inl (by rw[o7 hn];exact r)
  ·exact .inr ⟨q,by rw[o7 hn];exact r⟩
 fz:=fun a q xs r=>by
  have hn:a≠p:=by intro e;subst e;exact h2 q xs r
  rw[o7 hn];exact r
theorem KT.at{H:Hp}{p:Addr}{o:HO}(h1:∀ xs,¬ Rd H p (.tup xs))(h2:∀ q u,H p≠some (.frz q u))(h3:∀ φ,H p≠some (.ext φ)):KT H (upd H p o):=⟨KT0.at h1 h2,fun a φ r=>by
  have hn:a≠p:=by intro e;subst e;exact h3 φ r
  rw[o7 hn];exact r⟩
theorem KT.alloc{H:Hp}{p:Addr}{o:HO}(h:H p=none):KT H (upd H p o):=KT.at (fun xs r=>by rcases r with r|⟨_,r⟩<;>(rw[h]at r;cases r)) (fun q xs r=>by rw[h]at r;cases r) fun φ r=>by rw[h]at r;cases r
theorem KT.any{H:Hp}{p:Addr}{xs:List V}{o:HO}(h:H p=some (.lst xs)):KT H (upd H p o):=KT.at (fun xs r=>by rcases r with r|⟨_,r⟩<;>(rw[h]at r;cases r)) (fun q xs r=>by rw[h]at r;cases r) fun φ r=>by rw[h]at r;cases r
theorem KT.write{H:Hp}{p:Addr}{xs ys:List V}(h:H p=some (.lst xs)):KT H (upd H p (.lst ys)):=KT.any h
theorem KT0.ext{H:Hp}{p:Addr}{φ:Heap→Prop}{o:HO}(h:H p=some (.ext φ)):KT0 H (upd H p o):=KT0.at (fun xs r=>by rcases r with r|⟨_,r⟩<;>(rw[h]at r;cases r)) fun q xs r=>by rw[h]at r;cases r
theorem KT.new{H H':Hp}{p:Addr}{o:HO}(k:KT H H')(h:H p=none):KT H (upd H' p o) where
 tp:=fun a xs r=>by
  have hn:a≠p:=by intro e;subst e;rcases r with r|⟨_,r⟩<;>(rw[h]at r;cases r)
  rcases k.tp a xs r with r|⟨q,r⟩
  ·exact .inl (by rw[o7 hn];exact r)
  ·exact .inr ⟨q,by rw[o7 hn];exact r⟩
 fz:=fun a q xs r=>by
  have hn:a≠p:=by intro e;subst e;rw[h]at r;cases r
  rw[o7 hn];exact k.fz a q xs r
 ex:=fun a φ r=>by
  have hn:a≠p:=by intro e;subst e;rw[h]at r;cases r
  rw[o7 hn];exact k.ex a φ r
mutual
theorem Has.mono0{K:Ra}{H H':Hp}(k:KT0 H H'):∀{v:V} {d:D},Has K H v d→Has K H' v d
 | _,_,.non=>.non
 | _,_,.bl b=>.bl b
 | _,_,.int i=>.int i
 | _,_,.str x=>.str x
 | _,_,.ref a=>.ref a
 | _,_,.ty n=>.ty n
 | _,_,.tup s l=>.tup (k.sq s) (HasL.mono0 k l)
 | _,_,.vl h l=>.vl (h.elim (fun⟨o,e⟩=>.inl ⟨o,k.fz _ _ _ e⟩) .inr) (HasL.mono0 k l)
 | _,_,.dic h=>.dic (let ⟨o,e,c⟩:=h;⟨o,k.fz _ _ _ e,c⟩)
theorem HasL.mono0{K:Ra}{H H':Hp}(k:KT0 H H'):∀{v:List V} {d:List D},HasL K H v d→HasL K H' v d
 | _,_,.nil=>.nil
 | _,_,.cons a b=>.cons (Has.mono0 k a) (HasL.mono0 k b)
end
theorem Has.mono{K:Ra}{H H':Hp}(k:KT H H'){v:V}{d:D}(h:Has K H v d):Has K H' v d:=h.mono0 k.toKT0
theorem HasL.mono{K:Ra}{H H':Hp}(k:KT H H'){v:List V}{d:List D}(h:HasL K H v d):HasL K H' v d:=h.mono0 k.toKT0
section
variable {K:Ra} {H H':Hp}
theorem HasL.length:∀{vs:List V} {ds:List D},HasL K H vs ds→vs.length=ds.length
 | _,_,.nil=>rfl
 | _,_,.cons _ b=>congrArg Nat.succ (HasL.length b)
theorem HasL.get:∀{vs:List V} {ds:List D} {i:Nat} {d:D},HasL K H vs ds→ds[i]? = some d→∃ v,vs[i]? = some v∧Has K H v d
 | _,_,_,_,.nil,e=>by simp at e
 | _,_,0,_,.cons a _,e=>by simp at e;subst e;exact⟨_,rfl,a⟩
 | _,_,i+1,d,.cons _ b,e=>by
  obtain⟨v,h1,h2⟩:=HasL.get (i:=i) (d:=d) b (by simpa using e)
  exact⟨v,by simpa using h1,h2⟩
theorem HasL.getV:∀{vs:List V} {ds:List D} {i:Nat} {v:V},HasL K H vs ds→vs[i]? = some v→∃ d,ds[i]? = some d∧Has K H v d
 | _,_,_,_,.nil,e=>by simp at e
 | _,_,0,_,.cons a _,e=>by simp at e;subst e;exact⟨_,rfl,a⟩
 | _,_,i+1,d,.cons _ b,e=>by
  obtain⟨v,h1,h2⟩:=HasL.getV (i:=i) (v:=d) b (by simpa using e)
  exact⟨v,by simpa using h1,h2⟩
theorem HasL.set{v:V}{d:D}(r:Has K H v d):∀{vs:List V} {ds:List D} (i:Nat),HasL K H vs ds→HasL K H (vs.set i v) (ds.set i d)
 | _,_,_,.nil=>.nil
 | _,_,0,.cons _ t=>.cons r t
 | _,_,i+1,.cons q t=>.cons q (HasL.set r i t)
theorem HasL.append:∀{xs ys:List V} {us ws:List D},HasL K H xs us→HasL K H ys ws→HasL K H (xs++ys) (us++ws)
 | _,_,_,_,.nil,s=>s
 | _,_,_,_,.cons r t,s=>.cons r (HasL.append t s)
theorem HasL.take:∀{xs:List V} {us:List D} (n:Nat),HasL K H xs us→HasL K H (xs.take n) (us.take n)
 | _,_,0,_=>.nil
 | _,_,_+1,.nil=>.nil
 | _,_,n+1,.cons r t=>.cons r (HasL.take n t)
theorem HasL.drop:∀{xs:List V} {us:List D} (n:Nat),HasL K H xs us→HasL K H (xs.drop n) (us.drop n)
 | _,_,0,r=>r
 | _,_,_+1,.nil=>.nil
 | _,_,n+1,.cons _ t=>HasL.drop n t
theorem HasL.ints:∀(ns:List Int),HasL K H (ns.map V.int) (ns.map D.int)
 | []=>.nil
 | n :: r=>.cons (.int n) (HasL.ints r)
end
inductive MO where
 | lst (ds:List D)
noncomputable abbrev Mem:=Addr→Option MO
noncomputable def B2(M:Mem)(a:Addr)(o:MO):Mem:=fun b=>if b=a then some o else M b
theorem g9{M:Mem}{a:Addr}{o:MO}:B2 M a o a=some o:=by unfold B2;rw[if_pos rfl]
theorem A2{M:Mem}{a b:Addr}{o:MO}(h:b≠a):B2 M a o b=M b:=by unfold B2;rw[if_neg h]
theorem Y9{M:Mem}{a:Addr}{o u:MO}:B2 (B2 M a o) a u=B2 M a u:=by
 funext b;unfold B2;by_cases h:b=a<;>simp[h]
noncomputable def MOk(K:Ra)(H:Hp)(a:Addr):MO→Prop
 | .lst ds=>∃ xs,H a=some (.lst xs)∧HasL K H xs ds
def v6(K:Ra)(H:Hp)(M:Mem):Prop:=∀ a o,M a=some o→MOk K H a o
section
variable {K:Ra} {H H':Hp} {M:Mem}
theorem v6.fresh(h:v6 K H M){p:Addr}(e:H p=none):M p=none:=by
 cases q:M p with
 | none=>rfl
 | some o =>
  cases o with
  | lst ds=>obtain⟨xs,z,_⟩:=h p _ q;rw[e]at z;cases z
theorem v6.alloc(h:v6 K H M){p:Addr}{u:HO}(e:H p=none):v6 K (upd H p u) M:=fun a o m=>by
 have k:KT H (upd H p u):=KT.alloc e
 cases o with
 | lst ds =>
  obtain⟨xs,z,l⟩:=h a _ m
  have hn:a≠p:=K2 z e
  exact⟨xs,by rw[o7 hn];exact z,l.mono k⟩
theorem v6.new(h:v6 K H M){p:Addr}{xs:List V}{ds:List D}(e:H p=none)(l:HasL K H xs ds):v6 K (upd H p (.lst xs)) (B2 M p (.lst ds)):=fun a o m=>by
 by_cases q:a=p
 ·subst q
  rw[g9]at m;cases m
  exact⟨xs,j7,l.mono (KT.alloc e)⟩
 ·rw[A2 q]at m
  exact h.alloc e a o m
theorem v6.write(h:v6 K H M){p:Addr}{xs ys:List V}{ds:List D}(e:H p=some (.lst xs))(l:HasL K H ys ds):v6 K (upd H p (.lst ys)) (B2 M p (.lst ds)):=fun a o m=>by
 have k:KT H (upd H p (.lst ys)):=KT.write e
 by_cases q:a=p
 ·subst q
  rw[g9]at m;cases m
  exact⟨ys,j7,l.mono k⟩
 ·rw[A2 q]at m
  cases o with
  | lst es =>
   obtain⟨zs,z,l⟩:=h a _ m
   exact⟨zs,by rw[o7 q];exact z,l.mono k⟩
theorem v6.lst(h:v6 K H M){a:Addr}{ds:List D}(m:M a=some (.lst ds)):∃ xs,H a=some (.lst xs)∧HasL K H xs ds:=h a _ m
end
noncomputable abbrev Ev:=List (Option D)
structure B7(K:Ra)(H:Hp)(σ:St)(e:Ev):Prop where
 len:σ.length=e.length
 has:∀(i:Nat) (d:D),e[i]? = some (some d)→∃ v,σ[i]? = some (some v)∧Has K H v d
section
variable {K:Ra} {H H':Hp} {σ:St} {e:Ev}
theorem B7.mono(k:KT H H')(h:B7 K H σ e):B7 K H' σ e:=⟨h.len,fun i d z=>let ⟨v,a,b⟩:=h.has i d z;⟨v,a,b.mono k⟩⟩
theorem B7.set(h:B7 K H σ e){v:V}{d:D}(r:Has K H v d)(i:Nat):B7 K H (σ.set i (some v)) (e.set i (some d)):=by
 refine⟨by simp[h.len],fun j x z=>?_⟩
 rw[VA]at z ⊢
 by_cases q:i=j
 ·subst q
  rw[if_pos rfl]at z ⊢
  by_cases l:i<e.length
  ·rw[if_pos l]at z
   rw[if_pos (by rw[h.len];exact l)]
   cases z
   exact⟨v,rfl,r⟩
  ·rw[if_neg l]at z;cases z
 ·rw[if_neg q]at z ⊢
  exact h.has j x z
end
noncomputable def cP(N:List Str)(ds:List D):Ev:=ds.map some++Tf (N.length - ds.length) none
theorem B7.start0{K:Ra}{H:Hp}{N:List Str}{vs:List V}{ds:List D}(h:HasL K H vs ds):B7 K H (L2.start N vs) (cP N ds):=by
 have hl:=h.length
 refine⟨by simp[L2.start,cP,hl],fun i d z=>?_⟩
 unfold cP at z
 unfold L2.start
 rw[SH]at z ⊢
 simp only[Rh]at z ⊢
 rw[hl]
 by_cases q:i<ds.length
 ·rw[if_pos q]at z ⊢
  rw[Rj]at z ⊢
  cases e:ds[i]? with
  | none=>rw[e]at z;cases z
  | some x =>
   rw[e]at z
   have z':x=d:=by simpa using z
   subst z'
   obtain⟨v,a,b⟩:=h.get e
   exact⟨v,by rw[a];rfl,b⟩
 ·rw[if_neg q]at z
  rw[SK]at z
  split at z<;>cases z
noncomputable abbrev DK:=D→Mem→Prop
noncomputable abbrev DTE:=Ev→Mem→DK→Prop
noncomputable abbrev DTT:=Ev→Mem→(Bool→Mem→Prop)→Prop
noncomputable abbrev DTA:=Ev→Mem→(List D→Mem→Prop)→Prop
structure bR where
 nx:Ev→Mem→Prop
 rt:DK
 bk:Ev→Mem→Prop:=fun _ _=>False
 ct:Ev→Mem→Prop:=fun _ _=>False
noncomputable abbrev DTS:=bR→Ev→Mem→Prop
def jO(K:Ra)(H:Hp)(R:DK)(Q:VK):Prop:=∀ d M',R d M'→∀ v H',KT H H'→v6 K H' M'→Has K H' v d→Q v H'
def Cy(K:Ra)(H:Hp)(R:Bool→Mem→Prop)(Q:Bool→Hp→Prop):Prop:=∀ b M',R b M'→∀ H',KT H H'→v6 K H' M'→Q b H'
def Fy(K:Ra)(H:Hp)(R:List D→Mem→Prop)(Q:List V→Hp→Prop):Prop:=∀ ds M',R ds M'→∀ vs H',KT H H'→v6 K H' M'→HasL K H' vs ds→Q vs H'
def sD(K:Ra)(H:Hp)(R:Ev→Mem→Prop)(Q:St→Hp→Prop):Prop:=∀ e M',R e M'→∀ σ H',KT H H'→v6 K H' M'→B7 K H' σ e→Q σ H'
structure Fit(K:Ra)(H:Hp)(F:bR)(E:sF):Prop where
 nx:sD K H F.nx E.nx
 rt:jO K H F.rt E.rt
 bk:sD K H F.bk E.bk
 ct:sD K H F.ct E.ct
section
variable {K:Ra} {H H':Hp}
theorem jO.mono{R:DK}{Q:VK}(h:jO K H R Q)(k:KT H H'):jO K H' R Q:=fun d M r v H2 k2 a b=>h d M r v H2 (k.trans k2) a b
theorem Cy.mono{R:Bool→Mem→Prop}{Q:Bool→Hp→Prop}(h:Cy K H R Q)(k:KT H H'):Cy K H' R Q:=fun d M r H2 k2 a=>h d M r H2 (k.trans k2) a
theorem Fy.mono{R:List D→Mem→Prop}{Q:List V→Hp→Prop}(h:Fy K H R Q)(k:KT H H'):Fy K H' R Q:=fun d M r v H2 k2 a b=>h d M r v H2 (k.trans k2) a b
theorem sD.mono{R:Ev→Mem→Prop}{Q:St→Hp→Prop}(h:sD K H R Q)(k:KT H H'):sD K H' R Q:=fun d M r v H2 k2 a b=>h d M r v H2 (k.trans k2) a b
theorem Fit.mono{F:bR}{E:sF}(h:Fit K H F E)(k:KT H H'):Fit K H' F E:=⟨h.nx.mono k,h.rt.mono k,h.bk.mono k,h.ct.mono k⟩
end
def up(K:Ra)(t:DTE):TE:=fun σ H Q=>∃ e M R,B7 K H σ e∧v6 K H M∧t e M R∧jO K H R Q
def upT(K:Ra)(t:DTT):TT:=fun σ H Q=>∃ e M R,B7 K H σ e∧v6 K H M∧t e M R∧Cy K H R Q
def upA(K:Ra)(t:DTA):TA:=fun σ H Q=>∃ e M R,B7 K H σ e∧v6 K H M∧t e M R∧Fy K H R Q
def upS(K:Ra)(t:DTS):TS:=fun E σ H=>∃ e M F,B7 K H σ e∧v6 K H M∧t F e M∧Fit K H F E
abbrev DPE(X:Cx)(x:Expr)(t:DTE):Prop:=PE X x (up X.K t)
abbrev DPT(X:Cx)(x:Expr)(t:DTT):Prop:=PT X x (upT X.K t)
abbrev DPW(X:Cx)(x:Expr)(t:DTT):Prop:=PW X x (upT X.K t)
abbrev DPA(X:Cx)(x:List Expr)(t:DTA):Prop:=PA X x (upA X.K t)
abbrev DPS(X:Cx)(x:Stmt)(t:DTS):Prop:=PS X x (upS X.K t)
abbrev Nz(X:Cx)(x:List Stmt)(t:DTS):Prop:=PSs X x (upS X.K t)
structure JE(X:Cx)(x:Expr)(t:DTE):Prop where
 out:DPE X x t
structure JT(X:Cx)(x:Expr)(t:DTT):Prop where
 out:DPT X x t
structure JW(X:Cx)(x:Expr)(t:DTT):Prop where
 out:DPW X x t
structure JA(X:Cx)(x:List Expr)(t:DTA):Prop where
 out:DPA X x t
structure JS(X:Cx)(x:Stmt)(t:DTS):Prop where
 out:DPS X x t
structure JSs(X:Cx)(x:List Stmt)(t:DTS):Prop where
 out:Nz X x t
section
variable {X:Cx} {a b c:Expr} {ta tb tc:DTE} {pos:Pos}
def bH(i:Nat):DTE:=fun e M R=>∃ d,e[i]? = some (some d)∧R d M
def dC(d:D):DTE:=fun _ M R=>R d M
theorem a8(i:Nat){x:Str}{pos:Pos}(hN:X.N[i]? = some x:=by rfl)(hv:Vis X.env.scope x:=by first|exact Or.inl rfl|exact Or.inr (Or.inl rfl)|exact Or.inr (Or.inr rfl))(hd:(x == ("__debug__" : Str))=false:=by decide)
  (hcd:(x == ("__classdict__" : Str))=false:=by decide):JE X (.Name x pos) (bH i):=⟨(AF hN hv hd hcd).imp (by
  rintro σ H Q ⟨e,M,R,ok,am,⟨d,z,r⟩,f⟩
  obtain⟨v,h1,h2⟩:=ok.has i d z
  exact⟨v,h1,f d M r v H (KT.refl H) am h2⟩)⟩
theorem br{v:V}{d:D}(h:PE X a (tC v))(r:∀ H,Has X.K H v d):DPE X a (dC d) :=
 h.imp (by rintro σ H Q ⟨e,M,R,ok,am,z,f⟩;exact f d M z v H (KT.refl H) am (r H))
theorem d4{i j pos}:JE X (.Constant (.int i) j pos) (dC (.int i)):=⟨br Iz fun _=>.int i⟩
theorem D3{b j pos}:JE X (.Constant (.bool b) j pos) (dC (.bl b)):=⟨br Ls fun _=>.bl b⟩
theorem D9{j pos}:JE X (.Constant .none j pos) (dC .non):=⟨br Iy fun _=>.non⟩
theorem j5{x j pos}:JE X (.Constant (.str x) j pos) (dC (.str x)):=⟨br Iu fun _=>.str x⟩
def Mz(K:Ra)(v:V)(d:D):Prop:=∀ H,Has K H v d
theorem Jr{x:Str}{v:V}{d:D}{u:Value}{pos:Pos}(hg:Gl X x)(hm:X.mg x=some u)(r:u6 v u)(hk:Mz X.K v d)(hd:(x == ("__debug__" : Str))=false:=by decide):DPE X (.Name x pos) (dC d) :=
 br (Eo hg hm r hd) hk
noncomputable abbrev DR2:=D→D→Mem→DK→Prop
def upR(K:Ra)(g:DR2):R2:=fun x y H Q=>∃ dx dy M R,Has K H x dx∧Has K H y dy∧v6 K H M∧g dx dy M R∧jO K H R Q
def DOp(X:Cx)(f:Value→Value→Sem Value)(g:DR2):Prop:=OpR X f (upR X.K g)
def dOp(g:DR2)(ta tb:DTE):DTE:=fun e M R=>ta e M fun x M1=>tb e M1 fun y M2=>g x y M2 R
theorem mV{ta tb:DTE}{g:DR2}{σ:St}{H:Hp}{Q:VK}(h:up X.K (dOp g ta tb) σ H Q):tOp (upR X.K g) (up X.K ta) (up X.K tb) σ H Q:=by
 obtain⟨e,M,R,ok,am,t,f⟩:=h
 refine⟨e,M,_,ok,am,t,fun x M1 h1 v H1 k1 a1 r1=>?_⟩
 refine⟨e,M1,_,ok.mono k1,a1,h1,fun y M2 h2 u H2 k2 a2 r2=>?_⟩
 exact⟨x,y,M2,R,r1.mono k2,r2,a2,h2,f.mono (k1.trans k2)⟩
theorem f9{op:Operator}{g:DR2}(ho:DOp X (binaryOp op) g)(ha:JE X a ta)(hb:JE X b tb):JE X (.BinOp a op b pos) (dOp g ta tb):=⟨have ha:=ha.out;have hb:=hb.out;(Gz ho ha hb).imp fun _ _ _ h=>mV h⟩
theorem Ja{op:CmpOp}{g:DR2}(ho:DOp X (compareOp op) g)(ha:JE X a ta)(hb:JE X b tb)(hm:behindInMarks op b=false):JE X (.Compare a [op] [b] pos) (dOp g ta tb):=⟨have ha:=ha.out;have hb:=hb.out;(Es ho ha hb hm).imp fun _ _ _ h=>mV h⟩
def rW(t:DTE):DTT:=fun e M R=>t e M fun x M'=>∃ k,x = .bl k∧R k M'
theorem qu{K:Ra}{H:Hp}{R:Bool→Mem→Prop}{Q:Bool→Hp→Prop}(f:Cy K H R Q):jO K H (fun x M'=>∃ k,x = .bl k∧R k M') (fun x H'=>∃ k,x = .bl k∧Q k H'):=by
 rintro d M' ⟨k,rfl,r⟩ v H' kt am h
 cases h
 exact⟨k,rfl,f k M' r H' kt am⟩
theorem EN{op:CmpOp}{g:DR2}(ho:DOp X (compareOp op) g)(ha:JE X a ta)(hb:JE X b tb)(hm:behindInMarks op b=false):JT X (.Compare a [op] [b] pos) (rW (dOp g ta tb)):=⟨have ha:=ha.out;have hb:=hb.out;(Eb ho ha hb hm).imp (by rintro σ H Q ⟨e,M,R,ok,am,t,f⟩;exact mV (Q:=fun x H'=>∃ k,x = .bl k∧Q k H') ⟨e,M,_,ok,am,t,qu f⟩)⟩
theorem p9{x:Expr}{t:DTE}(h:JE X x t)(he:∀ whole,isTrue x X.env whole=(do let v ← whole;standAt x.pos;holding [v] (truthy v)):=by intro _;rfl):JT X x (rW t):=⟨have h:=h.out;(Ib h he).imp (by rintro σ H Q ⟨e,M,R,ok,am,t,f⟩;exact⟨e,M,_,ok,am,t,qu f⟩)⟩
noncomputable def fI(f:Int→Int→D):D→D→Option D
 | .int i,.int j=>some (f i j)
 | _,_=>none
def gF(f:D→D→Option D):DR2:=fun x y M R=>∃ z,f x y=some z∧R z M
def gI(C:Int→Int→Prop)(f:Int→Int→D):DR2:=fun x y M R=>∃ i j,x = .int i∧y = .int j∧C i j∧R (f i j) M
theorem oZ{f:Int→Int→D}{x y z:D}(h:fI f x y=some z):∃ i j,x = .int i∧y = .int j∧z=f i j:=by
 cases x with
 | int i =>
  cases y with
  | int j=>exact⟨i,j,rfl,rfl,(Option.some.inj h).symm⟩
  | _=>cases h
 | _=>cases h
theorem wC{f:Value→Value→Sem Value}{C:Int→Int→Prop}{g:Int→Int→V}{g':Int→Int→D}(h:OpR X f (rI C g))(hg:∀ i j H,Has X.K H (g i j) (g' i j)):DOp X f (gI C g') :=
 OpR.imp h (by
  rintro x y H Q ⟨dx,dy,M,R,hx,hy,am,⟨i,j,e1,e2,hc,r⟩,f⟩
  subst e1;subst e2
  cases hx;cases hy
  exact⟨i,j,rfl,rfl,hc,f _ M r _ H (KT.refl H) am (hg i j H)⟩)
theorem jM{f:Value→Value→Sem Value}{g:Int→Int→V}{g':Int→Int→D}(h:OpR X f (rI0 g))(hg:∀ i j H,Has X.K H (g i j) (g' i j)):DOp X f (gF (fI g')) :=
 OpR.imp h (by
  rintro x y H Q ⟨dx,dy,M,R,hx,hy,am,⟨z,e,r⟩,f⟩
  obtain⟨i,j,e1,e2,e3⟩:=oZ e
  subst e1;subst e2;subst e3
  cases hx;cases hy
  exact⟨i,j,rfl,rfl,f _ M r _ H (KT.refl H) am (hg i j H)⟩)
theorem F7:DOp X (binaryOp .Add) (gF (fI fun i j=>.int (i+j))):=jM IG fun _ _ _=>.int _
theorem bK:DOp X (binaryOp .Sub) (gF (fI fun i j=>.int (i - j))):=jM ID fun _ _ _=>.int _
theorem cM:DOp X (compareOp .Lt) (gF (fI fun i j=>.bl (decide (i<j)))):=jM Lw fun _ _ _=>.bl _
theorem Nc:DOp X (compareOp .LtE) (gF (fI fun i j=>.bl (decide (i≤j)))):=jM Lx fun _ _ _=>.bl _
theorem kP:DOp X (compareOp .Gt) (gF (fI fun i j=>.bl (decide (j<i)))):=jM Ly fun _ _ _=>.bl _
theorem ju:DOp X (binaryOp .Mod) (gI (fun _ j=>0<j) fun i j=>.int (i % j)):=wC IF fun _ _ _=>.int _
theorem bL:DOp X (binaryOp .Pow) (gI sG fun i j=>.int (i ^ j.toNat)):=wC IE fun _ _ _=>.int _
noncomputable def gU(f:Int→D):D→Mem→DK→Prop:=fun x M R=>∃ i,x = .int i∧R (f i) M
def dUn(g:D→Mem→DK→Prop)(ta:DTE):DTE:=fun e M R=>ta e M fun x M1=>g x M1 R
theorem A1(ha:JE X a ta):JE X (.UnaryOp .USub a pos) (dUn (gU fun i=>.int (-i)) ta):=⟨have ha:=ha.out;(Lp Hz ha).imp (by rintro σ H Q ⟨e,M,R,ok,am,t,f⟩;exact⟨e,M,_,ok,am,t,fun x M1 ⟨i,z,r⟩ v H1 k1 a1 r1=>by
  subst z;cases r1;exact⟨i,rfl,f _ M1 r _ H1 k1 a1 (.int _)⟩⟩)⟩
variable {tA tB':DTT} {E8:List Expr}
def Mo(t u:DTT):DTT:=fun e M R=>t e M fun c M1=>if c=true then u e M1 R else R false M1
def dOr(t u:DTT):DTT:=fun e M R=>t e M fun c M1=>if c=true then R true M1 else u e M1 R
def Mg(t:DTT):DTT:=fun e M R=>t e M fun c M1=>R (!c) M1
theorem dP(ha:JT X a tA):JW X (.BoolOp .And [a] pos) tA:=⟨have ha:=ha.out;Ea ha⟩
theorem D8(ha:JT X a tA):JW X (.BoolOp .Or [a] pos) tA:=⟨have ha:=ha.out;HY ha⟩
theorem jG(ha:JT X a tA)(hb:JW X (.BoolOp .And (b :: E8) pos) tB'):JW X (.BoolOp .And (a :: b :: E8) pos) (Mo tA tB'):=⟨have ha:=ha.out;have hb:=hb.out;(HZ ha hb).imp (by rintro σ H Q ⟨e,M,R,ok,am,t,f⟩;exact⟨e,M,_,ok,am,t,fun k M1 h1 H1 k1 a1=>by
  cases k with
  | true=>exact⟨e,M1,R,ok.mono k1,a1,h1,f.mono k1⟩
  | false=>exact f false M1 h1 H1 k1 a1⟩)⟩
theorem C2(ha:JT X a tA)(hb:JW X (.BoolOp .Or (b :: E8) pos) tB'):JW X (.BoolOp .Or (a :: b :: E8) pos) (dOr tA tB'):=⟨have ha:=ha.out;have hb:=hb.out;(Ln ha hb).imp (by rintro σ H Q ⟨e,M,R,ok,am,t,f⟩;exact⟨e,M,_,ok,am,t,fun k M1 h1 H1 k1 a1=>by
  cases k with
  | true=>exact f true M1 h1 H1 k1 a1
  | false=>exact⟨e,M1,R,ok.mono k1,a1,h1,f.mono k1⟩⟩)⟩
theorem F6(ha:JT X a tA):JT X (.UnaryOp .Not a pos) (Mg tA):=⟨have ha:=ha.out;(Ic ha).imp (by rintro σ H Q ⟨e,M,R,ok,am,t,f⟩;exact⟨e,M,_,ok,am,t,fun k M1 h1 H1 k1 a1=>f (!k) M1 h1 H1 k1 a1⟩)⟩
theorem F2{x:Expr}{t:DTT}(h:JW X x t):JT X x t:=⟨have h:=h.out;PW.pt h⟩
def Ha(ta tb:DTE):DTE:=fun e M R=>ta e M fun x M1=>∃ c,x = .bl c∧if c=true then tb e M1 R else R (.bl false) M1
def Mf(ta tb:DTE):DTE:=fun e M R=>ta e M fun x M1=>∃ c,x = .bl c∧if c=true then R (.bl true) M1 else tb e M1 R
def GS(ta:DTE):DTE:=fun e M R=>ta e M fun x M1=>∃ c,x = .bl c∧R (.bl (!c)) M1
theorem J6{op}{t:DTE}(h:JE X a t):JE X (.BoolOp op [a] pos) t:=⟨have h:=h.out;Iv h⟩
theorem G2(ha:JE X a ta)(hb:JE X (.BoolOp .And (b :: E8) pos) tb):JE X (.BoolOp .And (a :: b :: E8) pos) (Ha ta tb):=⟨have ha:=ha.out;have hb:=hb.out;(IB ha hb).imp (by rintro σ H Q ⟨e,M,R,ok,am,t,f⟩;exact⟨e,M,_,ok,am,t,fun x M1 ⟨k,z,h1⟩ v H1 k1 a1 r1=>by
  subst z;cases r1
  refine⟨k,rfl,?_⟩
  cases k with
  | true=>exact⟨e,M1,R,ok.mono k1,a1,h1,f.mono k1⟩
  | false=>exact f _ M1 h1 _ H1 k1 a1 (.bl _)⟩)⟩
theorem Bq(ha:JE X a ta)(hb:JE X (.BoolOp .Or (b :: E8) pos) tb):JE X (.BoolOp .Or (a :: b :: E8) pos) (Mf ta tb):=⟨have ha:=ha.out;have hb:=hb.out;(Lq ha hb).imp (by rintro σ H Q ⟨e,M,R,ok,am,t,f⟩;exact⟨e,M,_,ok,am,t,fun x M1 ⟨k,z,h1⟩ v H1 k1 a1 r1=>by
  subst z;cases r1
  refine⟨k,rfl,?_⟩
  cases k with
  | true=>exact f _ M1 h1 _ H1 k1 a1 (.bl _)
  | false=>exact⟨e,M1,R,ok.mono k1,a1,h1,f.mono k1⟩⟩)⟩
theorem gK(ha:JE X a ta):JE X (.UnaryOp .Not a pos) (GS ta):=⟨have ha:=ha.out;(Iw ha).imp (by rintro σ H Q ⟨e,M,R,ok,am,t,f⟩;exact⟨e,M,_,ok,am,t,fun x M1 ⟨k,z,h1⟩ v H1 k1 a1 r1=>by
  subst z;cases r1
  exact⟨k,rfl,f _ M1 h1 _ H1 k1 a1 (.bl _)⟩⟩)⟩
def dIf(t:DTT)(ta tb:DTE):DTE:=fun e M R=>t e M fun c M1=>if c=true then ta e M1 R else tb e M1 R
theorem dO(hc:JT X c tA)(ha:JE X a ta)(hb:JE X b tb):JE X (.IfExp c a b pos) (dIf tA ta tb):=⟨have hc:=hc.out;have ha:=ha.out;have hb:=hb.out;(AI hc ha hb).imp (by rintro σ H Q ⟨e,M,R,ok,am,t,f⟩;exact⟨e,M,_,ok,am,t,fun k M1 h1 H1 k1 a1=>by
  cases k with
  | true=>exact⟨e,M1,R,ok.mono k1,a1,h1,f.mono k1⟩
  | false=>exact⟨e,M1,R,ok.mono k1,a1,h1,f.mono k1⟩⟩)⟩
def Mh:DTA:=fun _ M R=>R [] M
def GY(ta:DTE)(tr:DTA):DTA:=fun e M R=>ta e M fun x M1=>tr e M1 fun xs M2=>R (x :: xs) M2
variable {es:List Expr} {tr:DTA}
theorem a9:JA X [] Mh:=⟨ou.imp (by rintro σ H Q ⟨e,M,R,ok,am,t,f⟩;exact f [] M t [] H (KT.refl H) am .nil)⟩
theorem a7(ha:JE X a ta)(hr:JA X es tr)(hs:starEach (a :: es) X.env=(false,eval a X.env) :: starEach es X.env:=by rfl):JA X (a :: es) (GY ta tr):=⟨have ha:=ha.out;have hr:=hr.out;(gH ha hr hs).imp (by rintro σ H Q ⟨e,M,R,ok,am,t,f⟩;exact⟨e,M,_,ok,am,t,fun x M1 h1 v H1 k1 a1 r1 =>
  ⟨e,M1,_,ok.mono k1,a1,h1,fun xs M2 h2 vs H2 k2 a2 r2=>f _ M2 h2 _ H2 (k1.trans k2) a2 (.cons (r1.mono k2) r2)⟩⟩)⟩
def Ma(t:DTA):DTE:=fun e M R=>t e M fun ds M1=>ds.length≤sizeLine∧R (.tup ds) M1
def Mi(t:DTA):DTE:=fun e M R=>t e M fun ds M1=>ds.length≤sizeLine∧∀ p,M1 p=none→R (.ref p) (B2 M1 p (.lst ds))
theorem e7{x1}(h:JA X es tr):JE X (.Tuple es x1 pos) (Ma tr):=⟨have h:=h.out;(Ir h).imp (by rintro σ H Q ⟨e,M,R,ok,am,t,f⟩;exact⟨e,M,_,ok,am,t,fun ds M1 ⟨hz,h1⟩ vs H1 k1 a1 r1=>by
  refine⟨by rw[r1.length];exact hz,fun p hp=>?_⟩
  have k2:KT H1 (upd H1 p (.tup vs)):=KT.alloc hp
  exact f _ M1 h1 _ _ (k1.trans k2) (a1.alloc hp) (.tup (SqT.of j7) (r1.mono k2))⟩)⟩
theorem ay(h:JA X es tr):JE X (.List es pos) (Mi tr):=⟨have h:=h.out;(AH h).imp (by rintro σ H Q ⟨e,M,R,ok,am,t,f⟩;exact⟨e,M,_,ok,am,t,fun ds M1 ⟨hz,h1⟩ vs H1 k1 a1 r1=>by
  refine⟨by rw[r1.length];exact hz,fun p hp=>?_⟩
  have k2:KT H1 (upd H1 p (.lst vs)):=KT.alloc hp
  exact f _ _ (h1 p (a1.fresh hp)) _ _ (k1.trans k2) (a1.new hp r1) (.ref p)⟩)⟩
theorem HasL.at{K:Ra}{H:Hp}{vs:List V}{ds:List D}(h:HasL K H vs ds){i:Int}{z:D}(e:atI ds i=some z):∃ v,atI vs i=some v∧Has K H v z:=by
 unfold atI at e ⊢
 rw[h.length]
 cases q:ixN ds.length i with
 | none=>rw[q]at e;cases e
 | some j =>
  rw[q]at e
  exact h.get e
def DIx(X:Cx)(g:DR2):Prop:=IxR X (upR X.K g)
theorem LG{g:DR2}(hr:DIx X g)(ha:JE X a ta)(hb:JE X b tb)(hs:pz b):JE X (.Subscript a b pos) (dOp g ta tb):=⟨have ha:=ha.out;have hb:=hb.out;(Lr hr ha hb hs).imp fun _ _ _ h=>mV h⟩
noncomputable abbrev DXK:=Value→Mem→Prop
noncomputable abbrev DSp:=List D→Mem→DK→DXK→Prop
def JK(K:Ra)(H:Hp)(Y:DXK)(E:XK):Prop:=∀ c M',Y c M'→∀ o H',KT H H'→v6 K H' M'→E c o H'
noncomputable def qt(K:Ra)(sp:DSp):Sp:=fun vs H Q E=>∃ ds M R Y,HasL K H vs ds∧v6 K H M∧sp ds M R Y∧jO K H R Q∧JK K H Y E
def wI(sp:DSp)(dds:List D)(Y:DXK)(t:DTA):DTE:=fun e M R=>t e M fun ds M1=>sp (ds++dds) M1 R Y
end
section
variable {X:Cx} {CX:CXT} {k:Nat} {f C:Addr} {fd:FuncData} {ps:List Str} {sp:DSp} {dvs:List V} {dds:List D} {ds:List Value} {E:XK} {Y:DXK} {x m:Str} {p pos apos:Pos} {e o:Expr} {es:List Expr} {t:DTA}
theorem Js(F:Y6 X.prog X.w X.K X.mg X.base CX k f fd ps (qt X.K sp))(hr:M8 k X.A)(hg:Gl X x)(hm:X.mg x=some (.ref f))(hk:PySem.W.keepIn X.K (.ref f)=true)(hb:jP X.K fd ps ds)(hd:p0 dvs ds)(hdd:∀ H,HasL X.K H dvs dds)(hx:pA CX X E)(hY:∀ H,JK X.K H Y E)
  (ha:DPA X (e :: es) t) (hdb:(x == ("__debug__" : Str))=false:=by decide) (he:starEach (e :: es) X.env=(false,eval e X.env) :: starEach es X.env:=by rfl) (hpl:(backTo pos (starEach es X.env)).any (·.1)=false:=by rfl) :
  DPE X (.Call (.Name x p) (e :: es) [] pos) (wI sp dds Y t) :=
 (Et F hr hg hm hk hb hd hx ha hdb he hpl).imp (by rintro σ H Q ⟨e,M,R,ok,am,t,f⟩;exact⟨e,M,_,ok,am,t,fun xs M1 h1 vs H1 k1 a1 r1 =>
  ⟨xs++dds,M1,R,Y,r1.append (hdd H1),a1,h1,f.mono k1,hY H1⟩⟩)
end
section
variable {X:Cx} {st:Stmt} {E8:List Stmt} {t u:DTS} {e:Expr} {te:DTE} {pos:Pos}
def GU:DTS:=fun F e M=>F.nx e M
def Jt(t u:DTS):DTS:=fun F e M=>t { F with nx:=u F } e M
theorem f7:JSs X [] GU:=⟨Ed.imp (by rintro E σ H ⟨e,M,F,ok,am,t,f⟩;exact f.nx e M t σ H (KT.refl H) am ok)⟩
theorem d5(h1:JS X st t)(h2:JSs X E8 u):JSs X (st :: E8) (Jt t u):=⟨have h1:=h1.out;have h2:=h2.out;(qW h1 h2).imp (by rintro E σ H ⟨e,M,F,ok,am,t,f⟩;exact⟨e,M,{ F with nx:=u F },ok,am,t,⟨fun e' M' h σ' H' k a o=>⟨e',M',F,o,a,h,f.mono k⟩,f.rt,f.bk,f.ct⟩⟩)⟩
theorem d6(h1:JS X st t):JSs X [st] t:=⟨have h1:=h1.out;Ec h1⟩
def GX(te:DTE):DTS:=fun F e M=>te e M fun _ M1=>F.nx e M1
theorem C1(he:JE X e te)(hs:swapsWith e none pos.line X.env=pure false:=by rfl):JS X (.Expr e pos) (GX te):=⟨have he:=he.out;(Ee he hs).imp (by rintro E σ H ⟨e,M,F,ok,am,t,f⟩;exact⟨e,M,_,ok,am,t,fun d M1 h1 v H1 k1 a1 r1=>f.nx e M1 h1 σ H1 k1 a1 (ok.mono k1)⟩)⟩
def Md(te:DTE):DTS:=fun F e M=>te e M F.rt
theorem d9(he:JE X e te):JS X (.Return (some e) pos) (Md te):=⟨have he:=he.out;(Ih he).imp (by rintro E σ H ⟨e,M,F,ok,am,t,f⟩;exact⟨e,M,_,ok,am,t,f.rt⟩)⟩
def Mk(c:DTT)(t u:DTS):DTS:=fun F e M=>c e M fun b M1=>if b=true then t F e M1 else u F e M1
theorem g7{c:Expr}{a b:List Stmt}{tc:DTT}(hc:JT X c tc)(ha:JSs X a t)(hb:JSs X b u):JS X (.If c a b pos) (Mk tc t u):=⟨have hc:=hc.out;have ha:=ha.out;have hb:=hb.out;(Lo hc ha hb).imp (by rintro E σ H ⟨e,M,F,ok,am,t,f⟩;exact⟨e,M,_,ok,am,t,fun k M1 h1 H1 k1 a1=>by
  cases k with
  | true=>exact⟨e,M1,F,ok.mono k1,a1,h1,f.mono k1⟩
  | false=>exact⟨e,M1,F,ok.mono k1,a1,h1,f.mono k1⟩⟩)⟩
def BV:DTS:=fun _ _ _=>False
theorem mH:JS X st BV:=⟨Ax.imp (by rintro E σ H ⟨_,_,_,_,_,t,_⟩;exact t)⟩
noncomputable abbrev DTG:=D→Ev→Mem→(Ev→Mem→Prop)→Prop
noncomputable abbrev aG:=List D→Ev→Mem→(Ev→Mem→Prop)→Prop
def upG(K:Ra)(g:DTG):TG:=fun v σ H Q=>∃ d e M R,Has K H v d∧B7 K H σ e∧v6 K H M∧g d e M R∧sD K H R Q
def MG(K:Ra)(g:aG):TGs:=fun vs σ H Q=>∃ ds e M R,HasL K H vs ds∧B7 K H σ e∧v6 K H M∧g ds e M R∧sD K H R Q
abbrev DPG(X:Cx)(x:Expr)(g:DTG):Prop:=PG X x (upG X.K g)
abbrev NA(X:Cx)(x:List Expr)(g:aG):Prop:=PGs X x (MG X.K g)
structure JG(X:Cx)(x:Expr)(g:DTG):Prop where
 out:DPG X x g
structure JGs(X:Cx)(x:List Expr)(g:aG):Prop where
 out:NA X x g
def cQ(i:Nat):DTG:=fun d e M R=>R (e.set i (some d)) M
theorem Bp{i:Nat}{x:Str}(hN:X.N.Nodup)(hi:X.N[i]? = some x)(hx:Loc X.env.scope x)(hf:X.fn x=true∨X.env.scope.names.lookup x=some .local:=by first|exact .inl rfl|exact .inr rfl|assumption):JG X (.Name x pos) (cQ i):=⟨PG.imp (El hN hi hx hf) (by rintro v σ H Q ⟨d,e,M,R,r,ok,am,g,f⟩;exact f _ M g _ H (KT.refl H) am (ok.set r i))⟩
def GO:aG:=fun ds e M R=>ds=[]∧R e M
def BR(t:DTG)(u:aG):aG:=fun ds e M R=>∃ d r,ds=d :: r∧t d e M fun e' M'=>u r e' M' R
theorem i0:JGs X [] GO:=⟨PGs.imp Ej (by
 rintro v σ H Q ⟨ds,e,M,R,r,ok,am,⟨z,g⟩,f⟩
 subst z;cases r;exact⟨rfl,f e M g σ H (KT.refl H) am ok⟩)⟩
end
section
variable {X:Cx} {st:Stmt} {E8:List Stmt} {t u:DTS} {e:Expr} {te:DTE} {pos:Pos}
theorem d7{x:Expr}{xs:List Expr}{t:DTG}{u:aG}(h1:JG X x t)(h2:JGs X xs u)
  (hs:(assignEach (x :: xs) X.env).map (·.2)=assign x X.env :: (assignEach xs X.env).map (·.2):=by rfl):JGs X (x :: xs) (BR t u):=⟨have h1:=h1.out;have h2:=h2.out;PGs.imp (AE h1 h2 hs) (by
  rintro vs σ H Q ⟨ds,e,M,R,r,ok,am,⟨d,dr,z,g⟩,f⟩
  subst z
  cases r with
  | cons r rr=>exact⟨_,_,rfl,d,e,M,_,r,ok,am,g,fun e1 M1 h1 σ1 H1 k1 a1 ok1=>⟨dr,e1,M1,R,rr.mono k1,ok1,a1,h1,f.mono k1⟩⟩)⟩
def rV(n:Nat)(t:aG):DTG:=fun d e M R=>∃ ds,d = .tup ds∧ds.length=n∧t ds e M R
theorem i9{xs:List Expr}{k:Nat}{t:aG}{n:Nat}(hc:X.calm=true)(h:JGs X xs t)
  (hn:(assignEach xs X.env).length=n:=by rfl) (hst:(assignEach xs X.env).findIdx? (·.1)=none:=by rfl):JG X (.Tuple xs k pos) (rV n t):=⟨have h:=h.out;PG.imp (Ip hc h hn hst) (by
  rintro v σ H Q ⟨d,e,M,R,r,ok,am,⟨ds,z,hl,g⟩,f⟩
  subst z
  cases r with
  | tup s l=>exact⟨_,_,rfl,s,by rw[l.length];exact hl,ds,e,M,R,l,ok,am,g,f⟩)⟩
noncomputable abbrev CA:=D→D→D→Mem→(Mem→Prop)→Prop
noncomputable def LO:CA:=fun o i v M R=>∃ p ds k j,o = .ref p∧i = .int k∧M p=some (.lst ds)∧ixN ds.length k=some j∧R (B2 M p (.lst (ds.set j v)))
def GN(to ti:DTE)(t:CA):DTG:=fun d e M R=>to e M fun o M1=>ti e M1 fun i M2=>t o i d M2 fun M3=>R e M3
theorem we{o i:Expr}{to ti:DTE}(ho:JE X o to)(hi:JE X i ti)
  (ha:∀ v,assign (.Subscript o i pos) X.env v=(do
   let ov ← holding [v] (eval o X.env)
   let iv ← holding [v,ov] (eval i X.env)
   standAt pos
   holding [v,ov,iv] (setItem ov iv v)
   release [v,ov,iv] []):=by intro _;rfl):JG X (.Subscript o i pos) (GN to ti LO):=⟨have ho:=ho.out;have hi:=hi.out;PG.imp (Iq ho hi Aa ha) fun v σ H Q ⟨d,e,M,R,r,ok,am,g,f⟩ =>
  ⟨e,M,_,ok,am,g,fun x M1 h1 vo H1 k1 a1 r1=>⟨e,M1,_,ok.mono k1,a1,h1,fun y M2 ⟨p,ds,k,j,e1,e2,e3,e4,h2⟩ vi H2 k2 a2 r2=>by
   subst e1;subst e2
   cases r1;cases r2
   obtain⟨xs,hx,l⟩:=a2.lst e3
   have kt:KT H H2:=k1.trans k2
   have kw:KT H2 (upd H2 p (.lst (xs.set j v))):=KT.write hx
   exact⟨p,xs,k,j,rfl,rfl,hx,by rw[l.length];exact e4,f e _ h2 σ _ (kt.trans kw) (a2.write hx (l.set (r.mono kt) j)) ((ok.mono kt).mono kw)⟩⟩⟩⟩
def yc(te:DTE)(g:DTG):DTS:=fun F e M=>te e M fun x M1=>g x e M1 F.nx
theorem u9{tg x:Expr}{tx:DTE}{g:DTG}(he:JE X x tx)(hg:JG X tg g)(hs:swapsWithSole [tg] x pos.line X.env=pure false:=by rfl)(hw:swappedStores [tg] x X.env=pure none:=by rfl)
  (h1:(assignEach [tg] X.env).map (·.2)=[assign tg X.env]:=by rfl):JS X (.Assign [tg] x pos) (yc tx g):=⟨have he:=he.out;have hg:=hg.out;(Ik he hg hs hw h1).imp (by rintro E σ H ⟨e,M,F,ok,am,t,f⟩;exact⟨e,M,_,ok,am,t,fun d M1 h1 v H1 k1 a1 r1=>⟨d,e,M1,F.nx,r1,ok.mono k1,a1,h1,f.nx.mono k1⟩⟩)⟩
theorem EM{i:Nat}{x:Str}{tx:DTE}{pos':Pos}(hN:X.N.Nodup)(hi:X.N[i]? = some x)(hx:Loc X.env.scope x)(he:JE X e tx)(hs:swapsWith e (some (.Name x pos')) pos.line X.env=pure false:=by rfl)(hf:X.fn x=true∨X.env.scope.names.lookup x=some .local:=by first|exact .inl rfl|exact .inr rfl|assumption):JS X (.Assign [.Name x pos'] e pos) (yc tx (cQ i)):=⟨have he:=he.out;(Ig hN hi hx he hs hf).imp (by rintro E σ H ⟨e,M,F,ok,am,t,f⟩;exact⟨e,M,_,ok,am,t,fun d M1 h1 v H1 k1 a1 r1=>f.nx _ M1 h1 _ H1 k1 a1 ((ok.mono k1).set r1 i)⟩)⟩
def Me(i j:Nat)(ta:DTA):DTS:=fun F e M=>ta e M fun ds M1=>∃ x y,ds=[x,y]∧F.nx ((e.set i (some x)).set j (some y)) M1
theorem oR{i j:Nat}{x y:Str}{a b:Expr}{ta:DTA}{px py pt:Pos}{kt k2 pt2}(hc:X.calm=true)(hN:X.N.Nodup)(hi:X.N[i]? = some x)(hj:X.N[j]? = some y)(hij:i≠j)
  (hx:X.env.scope.names.lookup x=some .local) (hy:X.env.scope.names.lookup y=some .local) (ha:JA X [a,b] ta)
  (hw:swappedStores [.Tuple [.Name x px,.Name y py] kt pt] (.Tuple [a,b] k2 pt2) X.env=pure (some [x,y]):=by rfl)
  (hs:swapsWithSole [.Tuple [.Name x px,.Name y py] kt pt] (.Tuple [a,b] k2 pt2) pos.line X.env=pure false:=by rfl):JS X (.Assign [.Tuple [.Name x px,.Name y py] kt pt] (.Tuple [a,b] k2 pt2) pos) (Me i j ta):=⟨have ha:=ha.out;(Ii hc hN hi hj hij hx hy ha hw hs).imp (by rintro E σ H ⟨e,M,F,ok,am,t,f⟩;exact⟨e,M,_,ok,am,t,fun ds M1 ⟨x,y,z,h1⟩ vs H1 k1 a1 r1=>by
  subst z
  cases r1 with
  | cons r1 rr =>
   cases rr with
   | cons r2 rr =>
    cases rr
    exact⟨_,_,rfl,f.nx _ M1 h1 _ H1 k1 a1 (((ok.mono k1).set r1 i).set r2 j)⟩⟩)⟩
def BU(c:DTT)(tb:DTS):DTS:=fun F e M=>∃ W:Nat→Ev→Mem→Prop,(∃ m,W m e M)∧∀ m e M,W m e M →
 c e M fun b M1=>if b=true then tb { F with nx:=fun e' M'=>∃ m',m'<m∧W m' e' M',ct:=fun e' M'=>∃ m',m'<m∧W m' e' M',bk:=F.nx } e M1 else F.nx e M1
theorem eV{c:Expr}{body:List Stmt}{tc:DTT}{tb:DTS}(hp:PassesOwn (model X.prog X.w) X.A X.env X.xe)(hc:JT X c tc)(hb:JSs X body tb):JS X (.While c body [] pos) (BU tc tb):=⟨have hc:=hc.out;have hb:=hb.out;(Aw hp hc hb).imp (by
  rintro E σ H ⟨e,M,F,ok,am,⟨W,⟨m0,w0⟩,turn⟩,f⟩
  refine⟨fun m σ' H'=>∃ e' M',KT H H'∧B7 X.K H' σ' e'∧v6 X.K H' M'∧W m e' M',⟨m0,e,M,KT.refl H,ok,am,w0⟩,?_⟩
  rintro m σ1 H1 ⟨e1,M1,k1,ok1,a1,w1⟩
  refine⟨e1,M1,_,ok1,a1,turn m e1 M1 w1,fun b M2 h2 H2 k2 a2=>?_⟩
  cases b with
  | false=>exact f.nx e1 M2 h2 σ1 H2 (k1.trans k2) a2 (ok1.mono k2)
  | true =>
   refine⟨fun σ' H'=>∃ m',m'<m∧∃ e' M',KT H H'∧B7 X.K H' σ' e'∧v6 X.K H' M'∧W m' e' M',fun σ' H' h=>h,e1,M2,_,ok1.mono k2,a2,h2,?_⟩
   have kk:=k1.trans k2
   exact⟨fun e' M' ⟨m',l,w⟩ σ' H' k' a' o'=>⟨m',l,e',M',kk.trans k',o',a',w⟩,f.rt.mono kk,f.nx.mono kk,fun e' M' ⟨m',l,w⟩ σ' H' k' a' o'=>⟨m',l,e',M',kk.trans k',o',a',w⟩⟩)⟩
noncomputable abbrev DTI:=Ev→Mem→(List D→(Mem→Prop)→Mem→Prop)→Prop
def Mm(ti:DTI)(g:DTG)(tb:DTS):DTS:=fun F e M=>ti e M fun ds stay M1=>∃ W:Nat→Ev→Mem→Prop,W 0 e M1∧(∀ i e M,i≤ds.length→W i e M→stay M) ∧
 (∀(i:Nat) (d:D) e M,ds[i]? = some d→W i e M→g d e M fun e2 M2=>tb { F with nx:=W (i+1),ct:=W (i+1),bk:=F.nx } e2 M2)∧∀ e M,W ds.length e M→F.nx e M
noncomputable def M6(lo:Int)(n:Nat):List D:=(Sl n).map fun(i:Nat)=>D.int (lo+(i:Int))
theorem p5(lo:Int)(n:Nat):(M6 lo n).length=n:=by simp[M6]
theorem jg{lo:Int}{n i:Nat}(h:i<n):(M6 lo n)[i]? = some (D.int (lo+(i:Int))):=by simp[M6,h]
theorem eM{lo:Int}{n i:Nat}{d:D}(h:(M6 lo n)[i]? = some d):i<n∧d=D.int (lo+(i:Int)):=by
 have hl:i<n:=by
  have:=(Rc.mp h).1
  rw[p5]at this;exact this
 rw[jg hl]at h
 exact⟨hl,(Option.some.inj h).symm⟩
def GL(ta:DTA):DTI:=fun e M R=>ta e M fun ds M1=>∃ j:Int,ds=[.int j]∧-(2 ^ 62)≤j∧j<2 ^ 62∧R (M6 0 j.toNat) (fun _=>True) M1
def BM(ta:DTA):DTI:=fun e M R=>ta e M fun ds M1=>∃ i j:Int,ds=[.int i,.int j]∧(-(2 ^ 62)≤i∧i<2 ^ 62∧-(2 ^ 62)≤j∧j<2 ^ 62)∧R (M6 i (j - i).toNat) (fun _=>True) M1
theorem BC{K:Ra}{H H1 H2:Hp}{F:bR}{E:sF}{W:Nat→Ev→Mem→Prop}{g:DTG}{tb:DTS}{i:Nat}{x:V}{d:D}{σ2:St}{e2:Ev}{M2:Mem}(f:Fit K H F E)(k1:KT H H1)(k2:KT H1 H2)(ok2:B7 K H2 σ2 e2)(a2:v6 K H2 M2)(r:Has K H2 x d)
  (h:g d e2 M2 fun e3 M3=>tb { F with nx:=W (i+1),ct:=W (i+1),bk:=F.nx } e3 M3) :
  upG K g x σ2 H2 fun σ3 H3=>upS K tb { E with nx:=fun σ' H'=>∃ e' M',KT H1 H'∧B7 K H' σ' e'∧v6 K H' M'∧W (i+1) e' M',ct:=fun σ' H'=>∃ e' M',KT H1 H'∧B7 K H' σ' e'∧v6 K H' M'∧W (i+1) e' M',bk:=E.nx } σ3 H3:=by
 refine⟨d,e2,M2,_,r,ok2,a2,h,fun e3 M3 h3 σ3 H3 k3 a3 ok3=>⟨e3,M3,_,ok3,a3,h3,?_⟩⟩
 have kk:KT H H3:=k1.trans (k2.trans k3)
 exact⟨fun e' M' w σ' H' k' a' o'=>⟨e',M',k2.trans (k3.trans k'),o',a',w⟩,f.rt.mono kk,f.nx.mono kk,fun e' M' w σ' H' k' a' o'=>⟨e',M',k2.trans (k3.trans k'),o',a',w⟩⟩
variable {tg iter:Expr} {body:List Stmt} {ti:DTE} {ta:DTA} {g:DTG} {tb:DTS}
theorem Has.il{K:Ra}{H:Hp}{v:V}{ds:List D}(h:Has K H v (.vl ds)):∃ a xs,v = .ref a∧SqL K H a xs∧HasL K H xs ds:=by
 cases h with
 | vl h l=>exact⟨_,_,rfl,h.elim (fun⟨o,e⟩=>.inl (.inr ⟨o,e⟩)) (fun k=>k H),l⟩
end
section
variable {P:Program} {w:World} {K:Ra} {mg:Str→Option Value} {base:Heap}
end
section
variable {X:Cx} {x:Str} {p pos:Pos} {e:Expr} {es:List Expr} {t:DTA} {id T:String}
noncomputable abbrev DRC:=List D→Mem→DK→Prop
noncomputable def upC(K:Ra)(g:DRC):List V→Hp→VK→Prop:=fun xs H Q=>∃ ds M R,HasL K H xs ds∧v6 K H M∧g ds M R∧jO K H R Q
def fM(X:Cx)(f:Value)(g:DRC):Prop:=E5 X f (upC X.K g)
def dCB(g:DRC)(t:DTA):DTE:=fun e M R=>t e M fun ds M1=>g ds M1 R
theorem Hd{g:DRC}{σ:St}{H:Hp}{Q:VK}(h:up X.K (dCB g t) σ H Q):tCB (upC X.K g) (upA X.K t) σ H Q:=by
 obtain⟨e,M,R,ok,am,t,f⟩:=h
 exact⟨e,M,_,ok,am,t,fun ds M1 h1 vs H1 k1 a1 r1=>⟨ds,M1,R,r1,a1,h1,f.mono k1⟩⟩
theorem E5.imp{f:Value}{r r':List V→Hp→VK→Prop}(h:E5 X f r)(i:∀ xs H Q,r' xs H Q→r xs H Q):E5 X f r':=fun pins s σ H xs us Q I rv q=>h pins s σ H xs us Q I rv (i xs H Q q)
theorem HasL.one{K:Ra}{H:Hp}{vs:List V}{d:D}(h:HasL K H vs [d]):∃ v,vs=[v]∧Has K H v d:=by
 cases h with
 | cons r rr=>cases rr;exact⟨_,rfl,r⟩
theorem HasL.two{K:Ra}{H:Hp}{vs:List V}{d d':D}(h:HasL K H vs [d,d']):∃ v v',vs=[v,v']∧Has K H v d∧Has K H v' d':=by
 cases h with
 | cons r rr=>cases rr with|cons r2 rr=>cases rr;exact⟨_,_,rfl,r,r2⟩
def LV:DRC:=fun ds M R=>∃ i:Int,ds=[.int i]∧R (.int (i.natAbs:Int)) M
theorem aC:fM X (.builtin "abs") LV:=E5.imp Cd (by
 rintro xs H Q ⟨ds,M,R,hl,am,⟨i,z,r⟩,f⟩
 subst z
 obtain⟨v,rfl,h⟩:=hl.one
 cases h
 have e:(if i<0 then -i else i)=(i.natAbs:Int):=by split<;>omega
 exact⟨i,rfl,by rw[e];exact f _ M r _ H (KT.refl H) am (.int _)⟩)
def LP:DRC:=fun ds M R=>∃ i j:Int,ds=[.int i,.int j]∧R (.int (max i j)) M
theorem He(hc:X.calm=true):fM X (.builtin "max") LP:=E5.imp (ye hc) (by
 rintro xs H Q ⟨ds,M,R,hl,am,⟨i,j,z,r⟩,f⟩
 subst z
 obtain⟨v,v',rfl,h,h'⟩:=hl.two
 cases h;cases h'
 have e:(if j > i then j else i)=max i j:=by
  rw[Int.max_def];split<;>split<;>omega
 exact⟨i,j,rfl,by rw[e];exact f _ M r _ H (KT.refl H) am (.int _)⟩)
noncomputable def Bf(M:Mem):D→Option Nat
 | .tup ds=>some ds.length
 | .ref p=>match M p with
  | some (.lst ds)=>some ds.length
  | _=>none
 | .vl ds=>some ds.length
 | _=>none
def xX:DRC:=fun ds M R=>∃ d n,ds=[d]∧Bf M d=some n∧R (.int (n:Int)) M
theorem J8:fM X (.builtin "len") xX:=E5.imp ph (by
 rintro xs H Q ⟨ds,M,R,hl,am,⟨d,n,z,hn,r⟩,f⟩
 subst z
 obtain⟨v,rfl,h⟩:=hl.one
 cases d with
 | tup es =>
  cases h with
  | tup s l =>
   cases hn
   exact⟨_,_,rfl,.inr s,by rw[l.length];exact f _ M r _ H (KT.refl H) am (.int _)⟩
 | ref p =>
  cases h
  unfold Bf at hn
  cases q:M p with
  | none=>simp[q]at hn
  | some o =>
   cases o with
   | lst es =>
    simp only[q]at hn
    cases hn
    obtain⟨ys,hy,l⟩:=am.lst q
    exact⟨p,ys,rfl,.inl (SqL.of hy),by rw[l.length];exact f _ M r _ H (KT.refl H) am (.int _)⟩
 | vl es =>
  cases hn
  obtain⟨a,xs,rfl,sq,l⟩:=h.il
  exact⟨a,_,rfl,.inl sq,by rw[l.length];exact f _ M r _ H (KT.refl H) am (.int _)⟩
 | _=>cases hn)
end
theorem R1:bootBuiltins "abs" = some (.builtin "abs"):=by decide +kernel
theorem Cj:bootBuiltins "max" = some (.builtin "max"):=by decide +kernel
theorem Ci:bootBuiltins "min" = some (.builtin "min"):=by decide +kernel
theorem D4:bootBuiltins "len" = some (.builtin "len"):=by decide +kernel
theorem A6:bootBuiltins "isinstance" = some (.builtin "isinstance"):=by decide +kernel
theorem Jv:bootBuiltins "int" = some (.type "int"):=by decide +kernel
theorem pj:bootBuiltins "bool" = some (.type "bool"):=by decide +kernel
theorem aD:bootBuiltins "tuple" = some (.type "tuple"):=by decide +kernel
theorem R7:bootBuiltins "list" = some (.type "list"):=by decide +kernel
theorem aE:bootBuiltins "reversed" = some (.type "reversed"):=by decide +kernel
section
variable {X:Cx} {a b c:Expr} {ta tb tc:DTE} {pos:Pos}
theorem Ey:OpR X (binaryOp .Mult) (rI IntMulOk fun i j=>.int (i*j)):=opI fun _ _ _ _ _ _ _ hc q=>mul_int q hc
def CFd(i j:Int):Prop:=j≠0∧j.natAbs.log2<9000
theorem AL:OpR X (binaryOp .FloorDiv) (rI CFd fun i j=>.int (i.fdiv j)):=opI fun _ _ _ _ _ _ _ hc q=>floordiv_int hc.1 q (.inl (PyProof.noPylong_of_log2 hc.2))
theorem o8:DOp X (binaryOp .Mult) (gI IntMulOk fun i j=>.int (i*j)):=wC Ey fun _ _ _=>.int _
theorem F4:DOp X (binaryOp .FloorDiv) (gI CFd fun i j=>.int (i.fdiv j)):=wC AL fun _ _ _=>.int _
noncomputable def ixD(M:Mem):D→D→Option D
 | .tup ds,.int i=>atI ds i
 | .ref p,.int i=>match M p with
  | some (.lst ds)=>atI ds i
  | _=>none
 | .vl ds,.int i=>atI ds i
 | _,_=>none
def gIx:DR2:=fun x y M R=>∃ z,ixD M x y=some z∧R z M
theorem IxR.or'{r r':R2}(h:IxR X r)(h':IxR X r'){g:R2}(i:∀ x y H Q,g x y H Q→r x y H Q∨r' x y H Q):IxR X g:=IxR.imp (IxR.or h h') i
theorem LJ:DIx X gIx:=IxR.or' Jb ES (by
 rintro x y H Q ⟨dx,dy,M,R,hx,hy,am,⟨z,e,r⟩,f⟩
 cases dy with
 | int i =>
  cases hy
  cases dx with
  | tup ds =>
   cases hx with
   | tup s l =>
    obtain⟨v,h1,h2⟩:=l.at (show atI ds i=some z from e)
    exact .inl ⟨_,_,i,v,rfl,rfl,s,h1,f z M r v H (KT.refl H) am h2⟩
  | ref p =>
   cases hx
   unfold ixD at e
   cases q:M p with
   | none=>simp[q]at e
   | some o =>
    cases o with
    | lst ds =>
     simp only[q]at e
     obtain⟨xs,h1,h2⟩:=am.lst q
     obtain⟨v,h3,h4⟩:=h2.at e
     exact .inr ⟨_,_,i,v,rfl,rfl,SqL.of h1,h3,f z M r v H (KT.refl H) am h4⟩
  | vl ds =>
   obtain⟨a,xs,rfl,sq,l⟩:=hx.il
   obtain⟨v,h1,h2⟩:=l.at (show atI ds i=some z from e)
   exact .inr ⟨_,_,i,v,rfl,rfl,sq,h1,f z M r v H (KT.refl H) am h2⟩
  | _=>simp[ixD]at e
 | _=>cases dx<;>simp[ixD]at e)
theorem bo{M:Mem}{p:Addr}{ds:List D}{i:Int}{z:D}(m:M p=some (.lst ds))(h:atI ds i=some z):ixD M (.ref p) (.int i)=some z:=by
 unfold ixD;simp only[m];exact h
noncomputable def isD:D→D→Option Bool
 | .bl a,.bl b=>some (a == b)
 | .non,.non=>some true
 | .bl _,.non=>some false
 | .int _,.non=>some false
 | .str _,.non=>some false
 | .ref _,.non=>some false
 | .tup _,.non=>some false
 | .vl _,.non=>some false
 | _,_=>none
theorem mI{x y:D}{b:Bool}(h:isD x y=some b):(∃ p q,x = .bl p∧y = .bl q∧b=(p == q))∨(y = .non∧((x = .non∧b=true)∨(x ≠ .non∧b=false))):=by
 cases x<;>cases y<;>simp[isD]at h<;>simp[h]
theorem wm{K:Ra}{H:Hp}{v:V}{x:D}(h:Has K H v x)(n:x ≠ .non):v ≠ .non:=by
 intro e;subst e;cases h;exact n rfl
def gIs(neg:Bool):DR2:=fun x y M R=>∃ b,isD x y=some b∧R (.bl (neg.xor b)) M
theorem LA:DOp X (compareOp .Is) (gIs false):=by
 intro pins s σ H x y v u Q I rx ry h
 obtain⟨dx,dy,M,R,hx,hy,am,⟨b,e,r⟩,f⟩:=h
 have fin:EP X pins σ Q (.bool b) s:=⟨.bl b,H,I,rfl,by have:=f _ M r (.bl b) H (KT.refl H) am (by simpa using Has.bl (K:=X.K) (H:=H) b);exact this⟩
 rcases mI e with⟨p,q,rfl,rfl,rfl⟩|⟨rfl,hx'⟩
 ·cases hx;cases hy;cases rx;cases ry
  exact is_bool fin
 ·cases hy;cases ry
  refine is_none_gen ?_
  rw[u6.none_iff rx]
  rcases hx' with⟨rfl,rfl⟩|⟨n,rfl⟩
  ·cases hx;exact fin
  ·rw[decide_eq_false (wm hx n)];exact fin
theorem dJ:DOp X (compareOp .IsNot) (gIs true):=by
 intro pins s σ H x y v u Q I rx ry h
 obtain⟨dx,dy,M,R,hx,hy,am,⟨b,e,r⟩,f⟩:=h
 have fin:EP X pins σ Q (.bool (!b)) s:=⟨.bl (!b),H,I,rfl,by have:=f _ M r (.bl (!b)) H (KT.refl H) am (by simpa using Has.bl (K:=X.K) (H:=H) (!b));exact this⟩
 rcases mI e with⟨p,q,rfl,rfl,rfl⟩|⟨rfl,hx'⟩
 ·cases hx;cases hy;cases rx;cases ry
  exact isnot_bool fin
 ·cases hy;cases ry
  refine isnot_none_gen ?_
  rw[u6.none_iff rx]
  rcases hx' with⟨rfl,rfl⟩|⟨n,rfl⟩
  ·cases hx;exact fin
  ·rw[decide_eq_false (wm hx n)];exact fin
mutual
inductive PyR (M:Mem):D→PyData→Prop
 | non:PyR M .non .none
 | bl (b:Bool):PyR M (.bl b) (.bool b)
 | int (i:Int):PyR M (.int i) (.int i)
 | str (x:Str):PyR M (.str x) (.str x)
 | tup {ds:List D} {ps:List PyData}:PyRL M ds ps→PyR M (.tup ds) (.tuple ps)
 | lst {p:Addr} {ds:List D} {ps:List PyData}:M p=some (.lst ds)→PyRL M ds ps→PyR M (.ref p) (.list ps)
 | vl {ds:List D} {ps:List PyData}:PyRL M ds ps→PyR M (.vl ds) (.list ps)
inductive PyRL (M:Mem):List D→List PyData→Prop
 | nil:PyRL M [] []
 | cons {d:D} {p:PyData} {ds:List D} {ps:List PyData}:PyR M d p→PyRL M ds ps→PyRL M (d :: ds) (p :: ps)
end
mutual
theorem J4{pins:List (Addr × Obj)}{s:Shared}{σ:St}{H:Hp}{M:Mem}(I:Inv X pins σ H s)(am:v6 X.K H M):∀{d:D} {p:PyData},PyR M d p→∀{v:V} {u:Value},Has X.K H v d→u6 v u→∃ as,Reads s.heap u p as
 | _,_,.non,_,_,h,r=>by cases h;cases r;exact⟨_,.none⟩
 | _,_,.bl b,_,_,h,r=>by cases h;cases r;exact⟨_,.bool b⟩
 | _,_,.int i,_,_,h,r=>by cases h;obtain⟨t,rfl⟩:=r;exact⟨_,.int i t⟩
 | _,_,.str x,_,_,h,r=>by cases h;obtain⟨t,rfl⟩:=r;exact⟨_,.str x t⟩
 | _,_,.tup l,_,_,h,r=>by
  cases h with
  | tup s' hl =>
   cases r
   obtain⟨its,rv,⟨o,e,hc,n,hd⟩,_⟩:=I.tuple s'
   obtain⟨as,ra⟩:=readsL_of I am l hl rv
   exact⟨as,.tuple e hc hd (by simpa using ra)⟩
 | _,_,.lst m l,_,_,h,r=>by
  cases h
  cases r
  obtain⟨xs,hx,hl⟩:=am.lst m
  obtain⟨its,rv,⟨o,n,e,hc,_,hd⟩,_⟩:=I.list (SqL.of hx)
  obtain⟨as,ra⟩:=readsL_of I am l hl rv
  exact⟨_,.list e hc hd (by simpa using ra)⟩
 | _,_,.vl l,_,_,h,r=>by
  obtain⟨a,xs,rfl,sq,hl⟩:=h.il
  cases r
  obtain⟨its,rv,⟨o,n,e,hc,_,hd⟩,_⟩:=I.list sq
  obtain⟨as,ra⟩:=readsL_of I am l hl rv
  exact⟨_,.list e hc hd (by simpa using ra)⟩
theorem readsL_of{pins:List (Addr × Obj)}{s:Shared}{σ:St}{H:Hp}{M:Mem}(I:Inv X pins σ H s)(am:v6 X.K H M):∀{ds:List D} {ps:List PyData},PyRL M ds ps→∀{vs:List V} {us:List Value},HasL X.K H vs ds→p0 vs us→∃ as,ReadsAll s.heap us ps as
 | _,_,.nil,_,_,h,r=>by cases h;cases r;exact⟨_,.nil⟩
 | _,_,.cons a l,_,_,h,r=>by
  cases h with
  | cons h hl =>
   cases r with
   | cons r rl =>
    obtain⟨as,q⟩:=J4 I am a h r
    obtain⟨bs,q2⟩:=readsL_of I am l hl rl
    exact⟨_,.cons q q2⟩
end
def gEq(neg:Bool):DR2:=fun x y M R=>∃ px py,PyR M x px∧PyR M y py∧SeqAt.shaped px=true∧SeqAt.shaped py=true∧R (.bl (neg.xor (PyData.eqv px py))) M
theorem Nd(hu:X.A.units+64<cLine):DOp X (compareOp .Eq) (gEq false):=by
 intro pins s σ H x y v u Q I rx ry h
 obtain⟨dx,dy,M,R,hx,hy,am,⟨px,py,p1,p2,s1,s2,r⟩,f⟩:=h
 obtain⟨as,r1⟩:=J4 I am p1 hx rx
 obtain⟨bs,r2⟩:=J4 I am p2 hy ry
 exact eq_dataH r1 r2 s1 s2 hu ⟨.bl _,H,I,rfl,by have:=f _ M r _ H (KT.refl H) am (.bl _);simpa using this⟩
theorem Nb(hu:X.A.units+64<cLine):DOp X (compareOp .NotEq) (gEq true):=by
 intro pins s σ H x y v u Q I rx ry h
 obtain⟨dx,dy,M,R,hx,hy,am,⟨px,py,p1,p2,s1,s2,r⟩,f⟩:=h
 obtain⟨as,r1⟩:=J4 I am p1 hx rx
 obtain⟨bs,r2⟩:=J4 I am p2 hy ry
 exact ne_dataH r1 r2 s1 s2 hu ⟨.bl _,H,I,rfl,by have:=f _ M r _ H (KT.refl H) am (.bl _);simpa using this⟩
mutual
noncomputable def pyD:D→PyData
 | .int i=>.int i
 | .str x=>.str x
 | .bl b=>.bool b
 | .tup ds=>.tuple (pyDL ds)
 | .vl ds=>.list (pyDL ds)
 | _=>.none
noncomputable def pyDL:List D→List PyData
 | []=>[]
 | d :: r=>pyD d :: pyDL r
end
mutual
noncomputable def cl:Nat→D→Bool
 | _,.int _=>true
 | _,.non=>true
 | _,.str x=>PyData.canLay0 (.str x)
 | k+1,.tup ds=>clL k ds
 | k+1,.vl ds=>clL k ds
 | _,_=>false
noncomputable def clL:Nat→List D→Bool
 | _,[]=>true
 | k,d :: r=>cl k d && clL k r
end
mutual
theorem fH{M:Mem}:∀{k:Nat} {d:D},cl k d=true→PyR M d (pyD d)∧(pyD d).canLay0=true∧(pyD d).depth≤k
 | _,.int i,_=>⟨.int i,rfl,Sb _⟩
 | _,.non,_=>⟨.non,rfl,Sb _⟩
 | 0,.tup ds,h=>by simp[cl]at h
 | k+1,.tup ds,h=>by
  obtain⟨a,b,c⟩:=clL_py (M:=M) (k:=k) (ds:=ds) (by simpa[cl]using h)
  exact⟨.tup a,by simpa[pyD,PyData.canLay0]using b,by simp only[pyD,PyData.depth];omega⟩
 | _,.str x,h=>⟨.str x,by simpa[cl,pyD]using h,Sb _⟩
 | _,.bl _,h=>by simp[cl]at h
 | _,.ref _,h=>by simp[cl]at h
 | 0,.vl ds,h=>by simp[cl]at h
 | k+1,.vl ds,h=>by
  obtain⟨a,b,c⟩:=clL_py (M:=M) (k:=k) (ds:=ds) (by simpa[cl]using h)
  exact⟨.vl a,by simpa[pyD,PyData.canLay0]using b,by simp only[pyD,PyData.depth];omega⟩
 | _,.ty _,h=>by simp[cl]at h
theorem clL_py{M:Mem}:∀{k:Nat} {ds:List D},clL k ds=true→PyRL M ds (pyDL ds)∧PyData.canLayAll0 (pyDL ds)=true∧PyData.depthAll (pyDL ds)≤k
 | _,[],_=>⟨.nil,rfl,Sb _⟩
 | k,d :: r,h=>by
  have h':cl k d=true∧clL k r=true:=by simpa[clL]using h
  obtain⟨a,b,c⟩:=fH (M:=M) h'.1
  obtain⟨a2,b2,c2⟩:=clL_py (M:=M) h'.2
  exact⟨.cons a a2,by simp[pyDL,PyData.canLayAll0,b,b2],by simp only[pyDL,PyData.depthAll];omega⟩
end
mutual
theorem pe:∀{k j:Nat} {x y:D},cl k x=true→cl j y=true→(PyData.eqv (pyD x) (pyD y)=true↔x=y)
 | _,_,.int i,.int j,_,_=>by simp[pyD,PyData.eqv]
 | _,_,.int i,.non,_,_=>by simp[pyD,PyData.eqv]
 | _,_,.non,.int i,_,_=>by simp[pyD,PyData.eqv]
 | _,_,.non,.non,_,_=>by simp[pyD,PyData.eqv]
 | _,_,.int i,.tup ds,_,_=>by simp[pyD,PyData.eqv]
 | _,_,.non,.tup ds,_,_=>by simp[pyD,PyData.eqv]
 | _,_,.tup ds,.int i,_,_=>by simp[pyD,PyData.eqv]
 | _,_,.tup ds,.non,_,_=>by simp[pyD,PyData.eqv]
 | k+1,j+1,.tup ds,.tup es,h,h'=>by
  have:=clL_eqv (k:=k) (j:=j) (xs:=ds) (ys:=es) (by simpa[cl]using h) (by simpa[cl]using h')
  simp only[pyD,PyData.eqv,D.tup.injEq]
  exact this
 | 0,_,.tup ds,.tup es,h,_=>by simp[cl]at h
 | _,0,.tup ds,.tup es,_,h=>by simp[cl]at h
 | _,_,.str x,.str y,_,_=>by simp[pyD,PyData.eqv]
 | _,_,.str x,.int i,_,_=>by simp[pyD,PyData.eqv]
 | _,_,.str x,.non,_,_=>by simp[pyD,PyData.eqv]
 | _,_,.str x,.tup ds,_,_=>by simp[pyD,PyData.eqv]
 | _,_,.int i,.str x,_,_=>by simp[pyD,PyData.eqv]
 | _,_,.non,.str x,_,_=>by simp[pyD,PyData.eqv]
 | _,_,.tup ds,.str x,_,_=>by simp[pyD,PyData.eqv]
 | k+1,j+1,.vl ds,.vl es,h,h'=>by
  have:=clL_eqv (k:=k) (j:=j) (xs:=ds) (ys:=es) (by simpa[cl]using h) (by simpa[cl]using h')
  simp only[pyD,PyData.eqv,D.vl.injEq]
  exact this
 | 0,_,.vl ds,.vl es,h,_=>by simp[cl]at h
 | _,0,.vl ds,.vl es,_,h=>by simp[cl]at h
 | _,_,.vl ds,.int i,_,_=>by simp[pyD,PyData.eqv]
 | _,_,.vl ds,.non,_,_=>by simp[pyD,PyData.eqv]
 | _,_,.vl ds,.str x,_,_=>by simp[pyD,PyData.eqv]
 | _,_,.vl ds,.tup es,_,_=>by simp[pyD,PyData.eqv]
 | _,_,.int i,.vl ds,_,_=>by simp[pyD,PyData.eqv]
 | _,_,.non,.vl ds,_,_=>by simp[pyD,PyData.eqv]
 | _,_,.str x,.vl ds,_,_=>by simp[pyD,PyData.eqv]
 | _,_,.tup es,.vl ds,_,_=>by simp[pyD,PyData.eqv]
 | _,_,.bl _,_,h,_=>by simp[cl]at h
 | _,_,.ref _,_,h,_=>by simp[cl]at h
 | _,_,.ty _,_,h,_=>by simp[cl]at h
 | _,_,_,.bl _,_,h=>by simp[cl]at h
 | _,_,_,.ref _,_,h=>by simp[cl]at h
 | _,_,_,.ty _,_,h=>by simp[cl]at h
theorem clL_eqv:∀{k j:Nat} {xs ys:List D},clL k xs=true→clL j ys=true→(PyData.eqvAll (pyDL xs) (pyDL ys)=true↔xs=ys)
 | _,_,[],[],_,_=>by simp[pyDL,PyData.eqvAll]
 | _,_,[],_ :: _,_,_=>by simp[pyDL,PyData.eqvAll]
 | _,_,_ :: _,[],_,_=>by simp[pyDL,PyData.eqvAll]
 | k,j,x :: xs,y :: ys,h,h'=>by
  have h1:cl k x=true∧clL k xs=true:=by simpa[clL]using h
  have h2:cl j y=true∧clL j ys=true:=by simpa[clL]using h'
  have e1:=pe h1.1 h2.1
  have e2:=clL_eqv h1.2 h2.2
  simp only[pyDL,PyData.eqvAll,TQ,e1,e2,List.cons.injEq]
end
open Classical in
theorem BB{neg:Bool}{x y:D}{M:Mem}{R:DK}(h:R (.bl (neg.xor (decide (x=y)))) M)(hx:cl 60 x=true:=by rfl)(hy:cl 60 y=true:=by rfl):gEq neg x y M R:=by
 obtain⟨a,b,c⟩:=fH (M:=M) hx
 obtain⟨a2,b2,c2⟩:=fH (M:=M) hy
 refine⟨_,_,a,a2,?_,?_,?_⟩
 ·simp only[SeqAt.shaped,b,Uw];exact decide_eq_true (by omega)
 ·simp only[SeqAt.shaped,b2,Uw];exact decide_eq_true (by omega)
 ·have e:PyData.eqv (pyD x) (pyD y)=decide (x=y):=by
   have:=pe hx hy
   by_cases q:x=y
   ·rw[decide_eq_true q];exact this.mpr q
   ·rw[decide_eq_false q]
    cases z:PyData.eqv (pyD x) (pyD y)with
    | false=>rfl
    | true=>exact absurd (this.mp z) q
  rw[e];exact h
noncomputable def tyD(M:Mem):D→Option String
 | .non=>some "NoneType"
 | .bl _=>some "bool"
 | .int _=>some "int"
 | .str _=>some "str"
 | .tup _=>some "tuple"
 | .ref p=>match M p with
  | some (.lst _)=>some "list"
  | _=>none
 | .vl _=>some "list"
 | .ty _=>none
 | .dic=>some "dict"
noncomputable def DJ(t T:String):Option Bool:=if t=T then some true else
 match t,T with
 | "bool","int" => some true
 | _,_=>if (t∈["NoneType","bool","int","str","tuple","list","dict"])∧(T∈["bool","int","str","tuple","list"])then some false else none
def Cr(K:Ra):Prop:=∀ t T b,DJ t T=some b→PySem.W.kitOne K (.type t) (.type T)=some b
theorem fE{x:Str}{n:String}(hg:Gl X x)(hm:X.mg x=none)(hv:bootBuiltins x=some (.type n))(hn:x ≠ "__name__" := by decide)(hd:(x == ("__debug__" : Str))=false:=by decide):JE X (.Name x pos) (dC (.ty n)):=⟨br (v:=.ty n) (Eu hg hm hv rfl hn hd) fun _=>.ty n⟩
def C8:DRC:=fun ds M R=>∃ d t T b,ds=[d,.ty T]∧tyD M d=some t∧DJ t T=some b∧R (.bl b) M
theorem fJ(hk:Cr X.K):fM X (.builtin "isinstance") C8:=by
 intro pins s σ H xs us Q I rv h
 obtain⟨ds,M,R,hl,am,⟨d,t,T,b,rfl,ht,hb,r⟩,f⟩:=h
 obtain⟨v,v',rfl,h1,h2⟩:=hl.two
 cases h2
 obtain⟨u,w',rfl,r1,r2⟩:=zK rv
 cases(show w'=Value.type T from r2)
 have e:=hk t T b hb
 have fin:∀ tk,EP X pins σ Q (.bool b) { s with toks:=tk }:=fun tk=>⟨.bl b,H,I.tok tk,rfl,f _ M r _ H (KT.refl H) am (.bl b)⟩
 cases h1 with
 | non=>cases ht;exact T9 I r1 .non e fin
 | bl q=>cases ht;exact T9 I r1 (.bl q) e fin
 | int q=>cases ht;exact T9 I r1 (.int q) e fin
 | str q=>cases ht;exact T9 I r1 (.str q) e fin
 | ty q=>cases ht
 | ref p =>
  unfold tyD at ht
  cases q:M p with
  | none=>simp[q]at ht
  | some o =>
   cases o with
   | lst es =>
    simp only[q]at ht
    cases ht
    obtain⟨ys,hy,_⟩:=am.lst q
    exact T9 I r1 (.lst hy) e fin
 | tup s' l =>
  cases ht
  cases(show u=Value.ref _ from r1)
  obtain⟨its,_,⟨o,h1,h2,_⟩,_⟩:=I.tuple s'
  exact PySem.W.kia_one PySem.W.kitx_tuple I.kIn ⟨o,h1,h2⟩ e (fun z=>nomatch z) fin
 | vl hq hl' =>
  cases ht
  cases(show u=Value.ref _ from r1)
  obtain⟨_,_,ea,sq,_⟩:=Has.il (.vl hq hl')
  cases ea
  obtain⟨its,_,⟨o,n,h1,h2,_⟩,_⟩:=I.list sq
  exact PySem.W.kia_one PySem.W.kitx_list I.kIn ⟨o,h1,h2⟩ e (fun z=>nomatch z) fin
 | dic hq =>
  cases ht
  cases(show u=Value.ref _ from r1)
  obtain⟨o,g1,g2⟩:=hq
  exact PySem.W.kia_one PySem.W.kitx_dict I.kIn ⟨o,(I.hok _ _ g1).1,g2⟩ e (fun z=>nomatch z) fin
theorem EJ:MtR X "int.bit_length" (fun x xs H Q=>∃ i,x = .int i∧xs=[]∧Q (.int (Builtin.Int.intBits i:Nat)) H):=by
 intro pins s σ H x xs v us Q I rx rv h
 obtain⟨i,rfl,rfl,q⟩:=h
 cases rv
 obtain⟨t,rfl⟩:=rx
 exact call_int_bit_length ⟨.int _,H,I.tok _,⟨_,rfl⟩,q⟩
end
section
variable {X:Cx} {a b c:Expr} {ta tb tc:DTE} {pos:Pos}
def Y0:DXK:=fun _ _=>False
theorem Nr{K:Ra}{H:Hp}{E:XK}:JK K H Y0 E:=fun _ _ h=>h.elim
structure Fw(K:Ra)(x:Str)(st:Stmt)(f:Addr)(fd:FuncData):Prop where
 ex:∃(oc:Value) (od:Option Addr) (dV kV doc pm:Value) (an:Option Addr) (cdv ct:Value) (osl:Array (Option Value)),
  fd=PySem.W.fnOf x x (X4 st) (N6 st) (e9 st) dV kV doc pm an cdv ct∧K.lookup f=some ⟨oc,od,.func fd,osl⟩∧PySem.W.codeIn K cdv x=true
 kp:PySem.W.keepIn K (.ref f)=true
structure Df(K:Ra)(mg:Str→Option Value)(x:Str)(st:Stmt)(ps:List Str):Prop where
 ex:∃(f:Addr) (fd:FuncData),Fw K x st f fd∧mg x=some (.ref f)∧jP K fd ps []
structure DfL(K:Ra)(mg:Str→Option Value)(x:Str)(st:Stmt)(ps:List Str):Prop where
 ex:∃(f:Addr) (fd:FuncData),Fw K x st f fd∧mg x=some (.ref f)∧∀ us:List Value,us.length=ps.length→bindArgs fd ⟨us,[]⟩=pure (ps.zip us)
structure Fn(P:Program)(w:World)(K:Ra)(mg:Str→Option Value)(base:Heap)(x:Str)(k:Nat)(ps:List Str)(sp:DSp):Prop where
 ex:∃(f:Addr) (fd:FuncData),Y6 P w K mg base CX0 k f fd ps (qt K sp)∧mg x=some (.ref f)∧PySem.W.keepIn K (.ref f)=true∧jP K fd ps []
theorem Br{x:Str}{j:Nat}{ps:List Str}{sp:DSp}{p:Pos}{e:Expr}{es:List Expr}{t:DTA}(G:Fn X.prog X.w X.K X.mg X.base x j ps sp)(hr:M8 j X.A)(hg:Gl X x)(ha:JA X (e :: es) t)
  (hdb:(x == ("__debug__" : Str))=false:=by decide) (he:starEach (e :: es) X.env=(false,eval e X.env) :: starEach es X.env:=by rfl) (hpl:(backTo pos (starEach es X.env)).any (·.1)=false:=by rfl):JE X (.Call (.Name x p) (e :: es) [] pos) (wI sp [] Y0 t):=⟨have ha:=ha.out;by
 obtain⟨f,fd,F,hm,hk,hb⟩:=G.ex
 exact Js F hr hg hm hk hb .nil (fun _=>.nil) Lu (fun _=>Nr) ha hdb he hpl⟩
end
section
variable {P:Program} {w:World} {K:Ra} {mg:Str→Option Value} {base:Heap}
theorem GI{x:Str}{st:Stmt}{f:Addr}{fd:FuncData}{N ps:List Str}{k:Nat}{sp:DSp}(F:Fw K x st f fd)(S:f8 N ps (e9 st))(len:∀ ds M R Y,sp ds M R Y→ds.length=ps.length)
  (hbody:∀(cdv:Value) (A:Around) (outer:List Env) (s:Shared) (H:Hp) (E:XK) (ds:List D) (M:Mem) (R:DK) (Y:DXK),M8 k (A.deeper (envOfC x (e9 st) s.heap.objs.size f cdv))→sp ds M R Y →
   ∃ t,JSs (uw CX0 P w K mg base N x (e9 st) f cdv A outer s H E).nox (N6 st) t∧t { nx:=fun _ M'=>R .non M',rt:=R } (cP N ds) M):Y6 P w K mg base CX0 (k+1) f fd ps (qt K sp):=by
 obtain⟨oc,od,dV,kV,doc,pm,an,cdv,ct,osl,rfl,lk,hcd⟩:=F.ex
 refine LW lk hcd S (fun vs H Q E ⟨ds,M,R,Y,hl,_,hs,_,_⟩=>by rw[hl.length];exact len ds M R Y hs) fun A outer s H vs Q E hr zz=>?_
 obtain⟨ds,M,R,Y,hl,am,hs,fv,fx⟩:=zz
 obtain⟨t,h1,h2⟩:=hbody cdv A outer s H E ds M R Y hr hs
 refine⟨_,h1.out.nox,cP N ds,M,_,B7.start0 hl,am,h2,⟨?_,fv,fun _ _ h=>h.elim,fun _ _ h=>h.elim⟩⟩
 exact fun e M' h σ' H' kt a o=>fv .non M' h .non H' kt a .non
theorem i8{x:Str}{st:Stmt}{N ps:List Str}{k:Nat}{sp:DSp}(d:Df K mg x st ps)(S:f8 N ps (e9 st))(len:∀ ds M R Y,sp ds M R Y→ds.length=ps.length)
  (hbody:∀(f:Addr) (cdv:Value) (A:Around) (outer:List Env) (s:Shared) (H:Hp) (E:XK) (ds:List D) (M:Mem) (R:DK) (Y:DXK),M8 k (A.deeper (envOfC x (e9 st) s.heap.objs.size f cdv))→sp ds M R Y →
   ∃ t,JSs (uw CX0 P w K mg base N x (e9 st) f cdv A outer s H E).nox (N6 st) t∧t { nx:=fun _ M'=>R .non M',rt:=R } (cP N ds) M):Fn P w K mg base x (k+1) ps sp:=by
 obtain⟨f,fd,F,hm,hb⟩:=d.ex
 exact⟨f,fd,GI F S len (hbody f),hm,F.kp,hb⟩
theorem j6{x:Str}{st:Stmt}{ps:List Str}{h:Heap}{f:Addr}{oc:Value}{od an:Option Addr}{osl:Array (Option Value)}{dV kV doc pm cdv ct:Value}(X:K.In h)(G:h.Ns mainGlobals mg)
  (n:PySem.W.nsIn K mainGlobals x=some (some (.ref f)))
  (l:K.lookup f=some ⟨oc,od,.func (PySem.W.fnOf x x (X4 st) (N6 st) (e9 st) dV kV doc pm an cdv ct),osl⟩)
  (c:PySem.W.codeIn K cdv x=true) (k:PySem.W.keepIn K (.ref f)=true)
  (hb:∀ us:List Value,us.length=ps.length→bindArgs (PySem.W.fnOf x x (X4 st) (N6 st) (e9 st) dV kV doc pm an cdv ct) ⟨us,[]⟩=pure (ps.zip us)):Df K mg x st ps :=
 ⟨f,_,⟨⟨oc,od,dV,kV,doc,pm,an,cdv,ct,osl,rfl,l,c⟩,k⟩,PySem.W.mg_of X G n,.all hb⟩
theorem Jo{x:Str}{st:Stmt}{ps:List Str}{h:Heap}{f:Addr}{oc:Value}{od an:Option Addr}{osl:Array (Option Value)}{dV kV doc pm cdv ct:Value}(X:K.In h)(G:h.Ns mainGlobals mg)
  (n:PySem.W.nsIn K mainGlobals x=some (some (.ref f)))
  (l:K.lookup f=some ⟨oc,od,.func (PySem.W.fnOf x x (X4 st) (N6 st) (e9 st) dV kV doc pm an cdv ct),osl⟩)
  (c:PySem.W.codeIn K cdv x=true) (k:PySem.W.keepIn K (.ref f)=true)
  (hb:∀ us:List Value,us.length=ps.length→bindArgs (PySem.W.fnOf x x (X4 st) (N6 st) (e9 st) dV kV doc pm an cdv ct) ⟨us,[]⟩=pure (ps.zip us)):DfL K mg x st ps :=
 ⟨f,_,⟨⟨oc,od,dV,kV,doc,pm,an,cdv,ct,osl,rfl,l,c⟩,k⟩,PySem.W.mg_of X G n,hb⟩
theorem Jp{x:Str}{st:Stmt}{ps:List Str}{h:Heap}{f:Addr}{oc:Value}{od an:Option Addr}{osl:Array (Option Value)}{dV kV doc pm cdv ct:Value}(X:K.In h)(G:h.Ns mainGlobals mg)
  (n:PySem.W.nsIn K mainGlobals x=some (some (.ref f)))
  (l:K.lookup f=some ⟨oc,od,.func (PySem.W.fnOf x x (X4 st) (N6 st) (e9 st) dV kV doc pm an cdv ct),osl⟩)
  (c:PySem.W.codeIn K cdv x=true) (k:PySem.W.keepIn K (.ref f)=true)
  (hb:∀ us:List Value,us.length=ps.length→∀ S,PySem.W.peek K S (bindArgs (PySem.W.fnOf x x (X4 st) (N6 st) (e9 st) dV kV doc pm an cdv ct) ⟨us,[]⟩)=some (ps.zip us)):Df K mg x st ps :=
 ⟨f,_,⟨⟨oc,od,dV,kV,doc,pm,an,cdv,ct,osl,rfl,l,c⟩,k⟩,PySem.W.mg_of X G n,fun s us X' hl=>by rw[SE]at hl ⊢;exact PySem.W.kp_binds X' (hb us hl)⟩
end
section
variable {X:Cx} {x:Str} {p pos:Pos} {e:Expr} {es:List Expr} {t:DTA} {id T:String} {o:Expr} {to:DTE} {a b c:Expr} {ta tb tc:DTE}
theorem p7{g:DRC}(hc:fM X (.builtin id) g)(hg:Gl X x)(hm:X.mg x=none)(hv:bootBuiltins x=some (.builtin id))(ha:JA X (e :: es) t)
  (hn:x ≠ "__name__" := by decide) (hdb:(x == ("__debug__" : Str))=false:=by decide) (he:starEach (e :: es) X.env=(false,eval e X.env) :: starEach es X.env:=by rfl) (hpl:(backTo pos (starEach es X.env)).any (·.1)=false:=by rfl):JE X (.Call (.Name x p) (e :: es) [] pos) (dCB g t):=⟨have ha:=ha.out;(AJ hc hg hm hv ha hn hdb he hpl).imp fun _ _ _ h=>Hd h⟩
theorem oU{g:DRC}(hc:fM X (.type T) g)(hg:Gl X x)(hm:X.mg x=none)(hv:bootBuiltins x=some (.type T))(ha:JA X (e :: es) t)
  (hn:x ≠ "__name__" := by decide) (hdb:(x == ("__debug__" : Str))=false:=by decide) (he:starEach (e :: es) X.env=(false,eval e X.env) :: starEach es X.env:=by rfl) (hpl:(backTo pos (starEach es X.env)).any (·.1)=false:=by rfl):JE X (.Call (.Name x p) (e :: es) [] pos) (dCB g t):=⟨have ha:=ha.out;(T6 hc hg hm hv ha hn hdb he hpl).imp fun _ _ _ h=>Hd h⟩
noncomputable def LU:D→Mem→DK→Prop:=fun x M R=>∃ i,x = .int i∧R (.int (Builtin.Int.intBits i:Nat)) M
theorem ER{apos cpos:Pos}(ho:JE X o to)(hbase:attributeBase o "bit_length" X.env (eval o X.env)=eval o X.env:=by rfl)(hline:(apos.endLine == cpos.line)=true:=by rfl):JE X (.Call (.Attribute o "bit_length" apos) [] [] cpos) (dUn LU to):=⟨have ho:=ho.out;(IA PySem.F.plainAttrs_int PySem.F.slot_int_bit_length PySem.F.type_int_bit_length EJ ho hbase hline).imp (by rintro σ H Q ⟨e,M,R,ok,am,t,f⟩;exact⟨e,M,_,ok,am,t,fun x M1 ⟨i,z,r⟩ v H1 k1 a1 r1=>by
  subst z;cases r1;exact⟨rfl,i,rfl,rfl,f _ M1 r _ H1 k1 a1 (.int _)⟩⟩)⟩
theorem EA:OpR X (binaryOp .Add) (fun x y H Q=>∃ l b xs zs,x = .ref l∧y = .ref b∧SqL X.K H l xs∧SqL X.K H b zs∧xs.length+zs.length≤sizeLine∧∀ p,H p=none→Q (.ref p) (upd H p (.lst (xs++zs)))):=by
 intro pins s σ H x y v u Q I rx ry h
 obtain⟨l,b,xs,zs,rfl,rfl,hH,hB,hz,q⟩:=h
 cases rx
 cases ry
 obtain⟨its,r,pl,z1⟩:=I.list hH
 obtain⟨its2,r2,pl2,z2⟩:=I.list hB
 have hl:=r.length
 have hl2:=r2.length
 obtain⟨⟨cls,dd,data,sl⟩,ho,hc,n,hd⟩:=pl.isList
 obtain⟨⟨cls2,dd2,data2,sl2⟩,ho2,hc2,n2,hd2⟩:=pl2.isList
 simp only at hc hd hc2 hd2
 subst hc hd hc2 hd2
 have ea:its.toArray++its2.toArray=(its++its2).toArray:=by simp
 refine concat_meets ⟨_,ho,rfl⟩ ⟨_,ho2,rfl⟩ noFill_list_add seq_list_add PySem.F.slot_list_add PySem.F.entry_list_add (PySem.F.args_list_add_2 _ _) (list_addW l b its.toArray its2.toArray n n2 dd dd2 sl sl2 (by simp only[Rw];omega)) ⟨ho,ho2,?_⟩
 rw[ea]
 exact⟨.ref _,_,I.lnew (t':=s.toks) (r.append r2) (by rw[RD];omega),rfl,q _ I.fresh⟩
noncomputable def az(M:Mem):D→Option (List D)
 | .ref p=>match M p with
  | some (.lst ds)=>some ds
  | _=>none
 | .vl ds=>some ds
 | _=>none
theorem K5{K:Ra}{H:Hp}{M:Mem}{v:V}{d:D}{ds:List D}(am:v6 K H M)(h:Has K H v d)(e:az M d=some ds):∃ a xs,v = .ref a∧SqL K H a xs∧HasL K H xs ds:=by
 cases h with
 | ref p =>
  unfold az at e
  cases q:M p with
  | none=>simp[q]at e
  | some o =>
   cases o with
   | lst es =>
    simp only[q]at e
    cases e
    obtain⟨xs,hx,l⟩:=am.lst q
    exact⟨p,xs,rfl,SqL.of hx,l⟩
 | vl hq hl =>
  cases e
  exact Has.il (.vl hq hl)
 | _=>cases e
end
theorem sl(n:Nat)(h:n≤1000:=by decide):n≤sizeLine:=Ro h (by decide)
section
variable {X:Cx}
open Classical in
def Jl(neg:Bool):DR2:=fun x y M R=>cl 60 x=true∧cl 60 y=true∧R (.bl (neg.xor (decide (x=y)))) M
theorem C0(hu:X.A.units+64<cLine):DOp X (compareOp .Eq) (Jl false):=OpR.imp (Nd hu) (by rintro _ _ _ _ ⟨dx,dy,M,R,hx,hy,am,⟨h1,h2,h3⟩,f⟩;exact⟨dx,dy,M,R,hx,hy,am,BB h3 h1 h2,f⟩)
theorem jt(hu:X.A.units+64<cLine):DOp X (compareOp .NotEq) (Jl true):=OpR.imp (Nb hu) (by rintro _ _ _ _ ⟨dx,dy,M,R,hx,hy,am,⟨h1,h2,h3⟩,f⟩;exact⟨dx,dy,M,R,hx,hy,am,BB h3 h1 h2,f⟩)
theorem Y1:DOp X (compareOp .Eq) (gF (fI fun i j=>.bl (decide (i=j)))):=OpR.imp GC (by
 rintro x y H Q ⟨dx,dy,M,R,hx,hy,am,⟨z,e,r⟩,f⟩
 obtain⟨i,j,e1,e2,e3⟩:=oZ e
 subst e1;subst e2;subst e3
 cases hx;cases hy
 refine⟨rfl,?_⟩
 have e:decide (V.int i=V.int j)=decide (i=j):=by simp
 rw[e]
 exact f _ M r _ H (KT.refl H) am (.bl _))
theorem bM:DOp X (compareOp .NotEq) (gF (fI fun i j=>.bl (!decide (i=j)))):=OpR.imp GB (by
 rintro x y H Q ⟨dx,dy,M,R,hx,hy,am,⟨z,e,r⟩,f⟩
 obtain⟨i,j,e1,e2,e3⟩:=oZ e
 subst e1;subst e2;subst e3
 cases hx;cases hy
 refine⟨rfl,?_⟩
 have e:decide (V.int i=V.int j)=decide (i=j):=by simp
 rw[e]
 exact f _ M r _ H (KT.refl H) am (.bl _))
end
theorem xT{c:Prop}[Decidable c]{A B:Prop}(h1:c→A)(h2:¬ c→B):if decide c=true then A else B:=by
 by_cases h:c
 ·rw[if_pos (decide_eq_true h)];exact h1 h
 ·rw[if_neg (by rw[decide_eq_false h];exact RF)];exact h2 h
theorem Bs{c:Prop}[Decidable c]{A B:Prop}(h1:¬ c→A)(h2:c→B):if (!decide c)=true then A else B:=by
 by_cases h:c
 ·rw[decide_eq_true h];rw[if_neg (by decide)];exact h2 h
 ·rw[decide_eq_false h];rw[if_pos (by decide)];exact h1 h
theorem F5{n k:Nat}(h:n<2 ^ k)(hk:0<k):n.log2<k:=by
 rcases Th n with h0|h0
 ·subst h0;rw[Nat.log2_zero];exact hk
 ·exact(Uu (Vd.mp h0)).mpr h
theorem u4{a b:Int}(m n:Nat)(ha:a.natAbs<2 ^ m)(hb:b.natAbs<2 ^ n)(h:m+n≤100000):IntMulOk a b:=by
 have hx:∀(x:Int) (k:Nat),x.natAbs<2 ^ k→Builtin.Int.intBits x≤k:=fun x k hx=>by
  unfold Builtin.Int.intBits
  split
  ·exact Sb _
  ·rename_i h0
   have:x.natAbs≠0:=by
    intro z;apply h0
    first|exact(by simpa using Int.natAbs_eq_zero.mp z)|(simp;omega)
   have:=(Uu this).mpr hx
   omega
 exact PySem.IntMulOk.of_le (hx a m ha) (hx b n hb) (by omega)
noncomputable def Ng(t T:String):Option Bool:=if PySem.W.kitMeta T=true then(fastBuiltinMro t).map (·.contains (.type T))else none
theorem Lf(K:Ra):Cr K:=by
 intro t T b h
 unfold DJ at h
 by_cases e:t=T
 ·subst e
  rw[if_pos rfl]at h
  cases h
  unfold PySem.W.kitOne
  rw[if_pos (beq_self_eq_true _)]
 ·rw[if_neg e]at h
  have hne:¬ (Value.type t == Value.type T)=true:=fun z=>e (by have:=eq_of_beq z;injection this)
  unfold PySem.W.kitOne
  rw[if_neg hne]
  show Ng t T=some b
  split at h
  ·cases h;decide +kernel
  ·split at h
   ·rename_i hh
    obtain⟨ht,hT⟩:=hh
    simp only[RC,RS,or_false]at ht hT
    cases h
    rcases ht with rfl|rfl|rfl|rfl|rfl|rfl|rfl<;>rcases hT with rfl|rfl|rfl|rfl|rfl<;>first|exact absurd rfl e|decide +kernel|(exfalso;simp_all)
   ·cases h
theorem uq{K:Ra}{H:Hp}{a:Addr}{ns:List Int}(hO:yj H)(hS:SqL K H a (ns.map V.int)):Has K H (.ref a) (.vl (ns.map D.int)):=by
 rcases hS with(h|⟨o,h⟩)|h
 ·rcases hO a with z|⟨o,xs,z⟩
  ·rw[z]at h;cases h
  ·rw[z]at h;cases h
 ·exact .vl (.inl ⟨o,h⟩) (HasL.ints ns)
 ·exact .vl (.inr fun _=>.inr h) (HasL.ints ns)
theorem IT{K:Ra}{H:Hp}{a:Addr}{ns:List Int}{sp:DSp}(hO:yj H)(hS:SqL K H a (ns.map V.int))(h:sp [.vl (ns.map D.int)] (fun _=>none) (fun d _=>d = .bl true) Y0) :
  qt K sp [.ref a] H (fun v _=>v = .bl true) (fun _ _ _=>False) :=
 ⟨[.vl (ns.map D.int)],fun _=>none,fun d _=>d = .bl true,Y0,.cons (uq hO hS) .nil,fun _ _ z=>(by cases z),h,fun d M' e v H' _ _ hv=>by subst e;cases hv;rfl,fun _ _ z=>z.elim⟩
section
variable {X:Cx} {o e:Expr} {es:List Expr} {to:DTE} {t:DTA} {name:Str} {apos cpos:Pos} {id:String}
noncomputable abbrev DRM:=D→List D→Mem→DK→Prop
noncomputable def upM(K:Ra)(g:DRM):V→List V→Hp→VK→Prop:=fun x xs H Q=>∃ dx ds M R,Has K H x dx∧HasL K H xs ds∧v6 K H M∧g dx ds M R∧jO K H R Q
def DMt(X:Cx)(id:String)(g:DRM):Prop:=MtR X id (upM X.K g)
theorem MtR.imp{r r':V→List V→Hp→VK→Prop}(h:MtR X id r)(i:∀ x xs H Q,r' x xs H Q→r x xs H Q):MtR X id r':=fun pins s σ H x xs v us Q I rx rv q=>h pins s σ H x xs v us Q I rx rv (i x xs H Q q)
def dLM(g:DRM)(to:DTE)(t:DTA):DTE:=fun e M R=>to e M fun x M1=>(∃ l ds,x = .ref l∧M1 l=some (.lst ds))∧t e M1 fun xs M2=>g x xs M2 R
theorem T7{g:DRM}(slot:Slot "list" name id)(hty:typeOf (.builtin id)=pure (.type "method_descriptor"))(hm:DMt X id g)(ho:JE X o to)(ha:JA X (e :: es) t)
  (hbase:attributeBase o name X.env (eval o X.env)=eval o X.env:=by rfl)
  (hfew:((backTo cpos (starEach (e :: es) X.env)).all (fun x=>!x.1) && (backToKw cpos (keywordEach [] X.env)).all (fun x=>x.1.isSome)
   && decide ((e :: es).length+([]:List Keyword).length+(if ([]:List Keyword).isEmpty then 0 else 1)<30))=true:=by rfl)
  (hline:(apos.endLine == cpos.line)=true:=by rfl) (hs:starEach (e :: es) X.env=(false,eval e X.env) :: starEach es X.env:=by rfl) (hplain:(backTo cpos (starEach es X.env)).any (·.1)=false:=by rfl):JE X (.Call (.Attribute o name apos) (e :: es) [] cpos) (dLM g to t):=⟨have ho:=ho.out;have ha:=ha.out;(GA PySem.F.plainAttrs_list slot hty hm ho ha hbase hfew hline hs hplain).imp (by rintro σ H Q ⟨e,M,R,ok,am,t,f⟩;exact⟨e,M,_,ok,am,t,fun x M1 ⟨⟨l,ds,z,hM⟩,h1⟩ v H1 k1 a1 r1=>by
  subst z
  have r1':=r1
  cases r1
  obtain⟨xs,hx,_⟩:=a1.lst hM
  refine⟨.inl ⟨rfl,xs,SqL.of hx⟩,e,M1,_,ok.mono k1,a1,h1,fun zs M2 h2 vs H2 k2 a2 r2=>?_⟩
  exact⟨_,zs,M2,R,r1'.mono k2,r2,a2,h2,f.mono (k1.trans k2)⟩⟩)⟩
noncomputable def fB(f:Bool→Bool→D):D→D→Option D
 | .bl i,.bl j=>some (f i j)
 | _,_=>none
end
section
variable {X:Cx}
def GF:DRC:=fun ds M R=>∃ x ys,ds=[x]∧az M x=some ys∧R (.tup ys) M
theorem Cf:fM X (.type "tuple") GF:=E5.imp kR (by
 rintro xs H Q ⟨ds,M,R,hl,am,⟨x,ys,z,e,r⟩,f⟩
 subst z
 obtain⟨v,rfl,hv⟩:=hl.one
 obtain⟨a,vs,rfl,s,l⟩:=K5 am hv e
 exact⟨a,vs,rfl,.inl ⟨s,fun p hp=>f _ M r _ _ (KT.alloc hp) (am.alloc hp) (.tup (SqT.of j7) (l.mono (KT.alloc hp)))⟩⟩)
def LS:DR2:=fun x y M R=>∃ xs ys,x = .tup xs∧y = .tup ys∧xs≠[]∧ys≠[]∧xs.length+ys.length≤sizeLine∧R (.tup (xs++ys)) M
end
section
variable {X:Cx} {st:Stmt} {E8:List Stmt} {t u:DTS}
def GP(t u:DTS):DTS:=fun F e M=>∃ P:Ev→Mem→Prop,t { F with nx:=P } e M∧∀ e' M',P e' M'→u F e' M'
theorem O0(h1:JS X st t)(h2:JSs X E8 u):JSs X (st :: E8) (GP t u):=⟨have h1:=h1.out;have h2:=h2.out;(qW h1 h2).imp (by rintro E σ H ⟨e,M,F,ok,am,⟨P,t,hP⟩,f⟩;exact⟨e,M,{ F with nx:=P },ok,am,t,⟨fun e' M' h σ' H' k a o=>⟨e',M',F,o,a,hP e' M' h,f.mono k⟩,f.rt,f.bk,f.ct⟩⟩)⟩
end
section
variable {X:Cx}
theorem IK:DOp X (binaryOp .Add) LS:=OpR.imp Ez (by
 rintro x y H Q ⟨dx,dy,M,R,hx,hy,am,⟨xs,ys,e1,e2,n1,n2,hz,r⟩,f⟩
 subst e1;subst e2
 cases hx with
 | tup s1 l1 =>
  cases hy with
  | tup s2 l2 =>
   have k1:=l1.length
   have k2:=l2.length
   refine⟨_,_,_,_,rfl,rfl,s1,s2,?_,by rw[k1,k2];exact hz,fun z=>?_,fun _ p hp=>?_⟩
   ·intro z;subst z
    cases l1;exact n1 rfl
   ·subst z
    cases l2;exact absurd rfl n2
   ·exact f _ M r _ _ (KT.alloc hp) (am.alloc hp) (.tup (SqT.of j7) ((l1.append l2).mono (KT.alloc hp))))
end
structure GlD(K:Ra)(mg:Str→Option Value)(x:Str)(d:D):Prop where
 ex:∃(v:V) (u:Value),mg x=some u∧u6 v u∧Mz K v d
theorem v7{X:Cx}{x:Str}{d:D}{pos:Pos}(hg:Gl X x)(g:GlD X.K X.mg x d)(hd:(x == ("__debug__" : Str))=false:=by decide):JE X (.Name x pos) (dC d):=⟨by
 obtain⟨v,u,h1,h2,h3⟩:=g.ex
 exact Jr hg h1 h2 h3 hd⟩
theorem gL{K:Ra}{mg:Str→Option Value}{h:Heap}{x:Str}{a:Addr}{od:Option Addr}{osl:Array (Option Value)}{i j:Int}{t u:Tok}{cap:Nat}(X:K.In h)(G:h.Ns mainGlobals mg)
  (n:PySem.W.nsIn K mainGlobals x=some (some (.ref a))) (l:K.lookup a=some ⟨.type "tuple",od,.seq #[.int i t,.int j u] cap,osl⟩):GlD K mg x (.tup [.int i,.int j]) :=
 ⟨.ref a,.ref a,PySem.W.mg_of X G n,rfl,fun H=>.tup (xs:=[.int i,.int j]) (.inr ⟨_,_,_,l,rfl,rfl,(show 2≤sizeLine by decide),.cons (show u6 (.int i) (.int i t)from⟨t,rfl⟩) (.cons (show u6 (.int j) (.int j u)from⟨u,rfl⟩) .nil)⟩) (.cons (.int i) (.cons (.int j) .nil))⟩
noncomputable def fS(f:Str→Str→D):D→D→Option D
 | .str i,.str j=>some (f i j)
 | _,_=>none
theorem wB{f:Str→Str→D}{x y z:D}(h:fS f x y=some z):∃ i j,x = .str i∧y = .str j∧z=f i j:=by
 cases x with
 | str i =>
  cases y with
  | str j=>exact⟨i,j,rfl,rfl,(Option.some.inj h).symm⟩
  | _=>cases h
 | _=>cases h
section
variable {X:Cx}
theorem D6:DOp X (compareOp .Eq) (gF (fS fun i j=>.bl (decide (i=j)))):=OpR.imp GC (by
 rintro x y H Q ⟨dx,dy,M,R,hx,hy,am,⟨z,e,r⟩,f⟩
 obtain⟨i,j,e1,e2,e3⟩:=wB e
 subst e1;subst e2;subst e3
 cases hx;cases hy
 refine⟨rfl,?_⟩
 have e:decide (V.str i=V.str j)=decide (i=j):=by simp
 rw[e]
 exact f _ M r _ H (KT.refl H) am (.bl _))
theorem AV:DOp X (compareOp .NotEq) (gF (fS fun i j=>.bl (!decide (i=j)))):=OpR.imp GB (by
 rintro x y H Q ⟨dx,dy,M,R,hx,hy,am,⟨z,e,r⟩,f⟩
 obtain⟨i,j,e1,e2,e3⟩:=wB e
 subst e1;subst e2;subst e3
 cases hx;cases hy
 refine⟨rfl,?_⟩
 have e:decide (V.str i=V.str j)=decide (i=j):=by simp
 rw[e]
 exact f _ M r _ H (KT.refl H) am (.bl _))
end
structure kW(K:Ra)(H1:Hp)(J:It)(ds:List D)(stay:Mem→Prop):Prop where
 go:∀ i H' M',i<ds.length→KT H1 H'→v6 K H' M'→stay M'→J.go i H'
 yld:∀ i H' M' x H'',i<ds.length→KT H1 H'→v6 K H' M'→stay M'→J.yld i H' x H''→∃ d,ds[i]? = some d∧KT H' H''∧v6 K H'' M'∧Has K H'' x d
 stop:∀ i H' M',ds.length≤i→KT H1 H'→v6 K H' M'→stay M'→J.stop i H'
 up:∀ M' p o,stay M'→M' p=none→stay (B2 M' p o)
def upI(K:Ra)(ti:DTI):TI:=fun σ H R=>∃ e M R',B7 K H σ e∧v6 K H M∧ti e M R'∧∀ ds stay M1,R' ds stay M1→∀ H1,KT H H1→v6 K H1 M1→∀ J,kW K H1 J ds stay→R J H1
def DPI(X:Cx)(tg iter:Expr)(ti:DTI):Prop:=PI X tg iter (upI X.K ti)
structure JI(X:Cx)(tg iter:Expr)(ti:DTI):Prop where
 out:DPI X tg iter ti
theorem PI.imp{X:Cx}{tg iter:Expr}{wi wi':TI}(h:PI X tg iter wi)(i:∀ σ H R,wi' σ H R→wi σ H R):PI X tg iter wi':=fun pins s σ H R I q=>h pins s σ H R I (i σ H R q)
section
variable {X:Cx} {tg iter:Expr} {ti:DTE} {ta:DTA}
theorem zH{K:Ra}{H1:Hp}{a:Addr}{xs:List V}{ds:List D}(s:SqT K H1 a xs)(l:HasL K H1 xs ds):kW K H1 (Itt K a) ds (fun _=>True) where
 go:=fun i H' M' hi k _ _=>⟨xs,_,k.sq s,Rr (by rw[l.length];exact hi)⟩
 yld:=fun i H' M' x H'' hi k am _ zz=>by
  obtain⟨e,y⟩:=zz
  subst e
  obtain⟨d,hd,r⟩:=l.getV (y xs (k.sq s))
  exact⟨d,hd,KT.refl _,am,r.mono k⟩
 stop:=fun i H' M' hi k _ _=>⟨xs,k.sq s,by rw[l.length];exact hi⟩
 up:=fun _ _ _ _ _=>trivial
theorem zJ{K:Ra}{H1:Hp}{p:Addr}{ds:List D}:kW K H1 (Itl K p) ds (fun M'=>M' p=some (.lst ds)) where
 go:=fun i H' M' hi k am st=>by
  obtain⟨ys,hy,ly⟩:=am.lst st
  exact⟨ys,_,SqL.of hy,Rr (by rw[ly.length];exact hi)⟩
 yld:=fun i H' M' x H'' hi k am st zz=>by
  obtain⟨e,y⟩:=zz
  subst e
  obtain⟨ys,hy,ly⟩:=am.lst st
  obtain⟨d,hd,r⟩:=ly.getV (y ys (SqL.of hy))
  exact⟨d,hd,KT.refl _,am,r⟩
 stop:=fun i H' M' hi k am st=>by
  obtain⟨ys,hy,ly⟩:=am.lst st
  exact⟨ys,SqL.of hy,by rw[ly.length];exact hi⟩
 up:=fun M' q o st hq=>by rw[A2 (by intro e;subst e;rw[hq]at st;cases st)];exact st
theorem qq{K:Ra}{H1:Hp}{lo:Int}{n:Nat}:kW K H1 (Itr lo n) (M6 lo n) (fun _=>True) where
 go:=fun i H' M' hi k am st=>by rw[p5]at hi;exact hi
 yld:=fun i H' M' x H'' hi k am st zz=>by
  obtain⟨e,y⟩:=zz
  subst e;subst y
  rw[p5]at hi
  exact⟨_,jg hi,KT.refl _,am,.int _⟩
 stop:=fun i H' M' hi k am st=>by rw[p5]at hi;exact hi
 up:=fun _ _ _ _ _=>trivial
theorem bj{a:Expr}{p p2:Pos}(hr:Gl X "range")(hm:X.mg "range" = none)(ha:JA X [a] ta)(hs0:starEach [a] X.env=[(false,eval a X.env)]:=by rfl):JI X tg (.Call (.Name "range" p) [a] [] p2) (GL ta):=⟨have ha:=ha.out;PI.imp (xD hr hm ha hs0) (by rintro σ H R ⟨e,M,R',ok,am,t,f⟩;exact⟨e,M,_,ok,am,t,fun ds M1 ⟨j,z,b1,b2,r⟩ vs H1 k1 a1 r1=>by
  subst z
  obtain⟨v,rfl,hv⟩:=r1.one
  cases hv
  exact⟨j,rfl,b1,b2,f _ _ M1 r H1 k1 a1 _ qq⟩⟩)⟩
theorem Bm{a b:Expr}{p p2:Pos}(hr:Gl X "range")(hm:X.mg "range" = none)(ha:JA X [a,b] ta)(hs0:starEach [a,b] X.env=[(false,eval a X.env),(false,eval b X.env)]:=by rfl)(hs1:starEach [b] X.env=[(false,eval b X.env)]:=by rfl):JI X tg (.Call (.Name "range" p) [a,b] [] p2) (BM ta):=⟨have ha:=ha.out;PI.imp (xC hr hm ha hs0 hs1) (by rintro σ H R ⟨e,M,R',ok,am,t,f⟩;exact⟨e,M,_,ok,am,t,fun ds M1 ⟨i,j,z,b1,r⟩ vs H1 k1 a1 r1=>by
  subst z
  cases r1 with
  | cons h1 r1 =>
   obtain⟨v,rfl,hv⟩:=r1.one
   cases h1
   cases hv
   exact⟨i,j,rfl,b1,f _ _ M1 r H1 k1 a1 _ qq⟩⟩)⟩
def B8(M:Mem)(x:D)(ds:List D):Prop:=x = .tup ds∨(∃ p,x = .ref p∧M p=some (.lst ds))∨x = .vl ds
noncomputable def fD:D→Bool
 | .tup _=>false
 | _=>true
theorem A0{K:Ra}{H:Hp}{M:Mem}{v:V}{x:D}{ds:List D}(h:B8 M x ds)(am:v6 K H M)(r:Has K H v x):∃ a xs,v = .ref a∧SqK K (fD x) H a xs∧HasL K H xs ds:=by
 rcases h with rfl|⟨p,rfl,m⟩|rfl
 rotate_left 2
 ·obtain⟨a,xs,e,sq,l⟩:=r.il
  exact⟨a,xs,e,sq,l⟩
 ·cases r with
  | tup s l=>exact⟨_,_,rfl,s,l⟩
 ·cases r
  obtain⟨xs,hx,l⟩:=am.lst m
  exact⟨p,xs,rfl,SqL.of hx,l⟩
theorem aH{M:Mem}{x:D}{ds:List D}{q:Addr}{o:MO}(h:B8 M x ds)(hq:M q=none):B8 (B2 M q o) x ds:=by
 rcases h with h|⟨p,e,h⟩|h
 ·exact .inl h
 ·exact .inr (.inl ⟨p,e,by rw[A2 (by intro e;subst e;rw[hq]at h;cases h)];exact h⟩)
 ·exact .inr (.inr h)
noncomputable def bx(ds es:List D):List D:=List.zipWith (fun a b=>.tup [a,b]) ds es
theorem Y7(ds es:List D):(bx ds es).length=min ds.length es.length:=by simp[bx]
theorem yn{ds es:List D}{i:Nat}{a b:D}(h1:ds[i]? = some a)(h2:es[i]? = some b):(bx ds es)[i]? = some (.tup [a,b]):=by
 unfold bx
 rw[Su,h1,h2]
theorem zG{K:Ra}{H1:Hp}{x y:D}{l1 l2:Addr}{ds es:List D}(h1:Has K H1 (.ref l1) x)(h2:Has K H1 (.ref l2) y) :
  kW K H1 (Itz K (fD x) (fD y) l1 l2) (bx ds es) (fun M'=>B8 M' x ds∧B8 M' y es) where
 go:=fun i H' M' hi k am zz=>by
  obtain⟨s1,s2⟩:=zz
  rw[Y7]at hi
  obtain⟨a,xs,e1,q1,m1⟩:=A0 s1 am (h1.mono k)
  obtain⟨b,ys,e2,q2,m2⟩:=A0 s2 am (h2.mono k)
  cases e1;cases e2
  exact⟨xs,ys,_,_,q1,q2,Rr (by rw[m1.length];omega),Rr (by rw[m2.length];omega)⟩
 yld:=fun i H' M' v H'' hi k am ⟨s1,s2⟩ ⟨T,a,b,hT,ev,eH,u1,u2⟩=>by
  subst ev;subst eH
  obtain⟨a',xs,e1,q1,m1⟩:=A0 s1 am (h1.mono k)
  obtain⟨b',ys,e2,q2,m2⟩:=A0 s2 am (h2.mono k)
  cases e1;cases e2
  obtain⟨d1,g1,r1⟩:=m1.getV (u1 xs q1)
  obtain⟨d2,g2,r2⟩:=m2.getV (u2 ys q2)
  have kt:KT H' (upd H' T (.tup [a,b])):=KT.alloc hT
  exact⟨_,yn g1 g2,kt,am.alloc hT,.tup (SqT.of j7) (.cons (r1.mono kt) (.cons (r2.mono kt) .nil))⟩
 stop:=fun i H' M' hi k am zz=>by
  obtain⟨s1,s2⟩:=zz
  rw[Y7]at hi
  obtain⟨a,xs,e1,q1,m1⟩:=A0 s1 am (h1.mono k)
  obtain⟨b,ys,e2,q2,m2⟩:=A0 s2 am (h2.mono k)
  cases e1;cases e2
  refine⟨xs,ys,q1,q2,?_⟩
  rw[m1.length,m2.length]
  omega
 up:=fun _ _ _ st hq=>⟨aH st.1 hq,aH st.2 hq⟩
def GJ(ta:DTA):DTI:=fun e M R=>ta e M fun xs M1=>∃ x y ds es,xs=[x,y]∧B8 M1 x ds∧B8 M1 y es∧R (bx ds es) (fun M'=>B8 M' x ds∧B8 M' y es) M1
theorem oP{elts:List Expr}{kx:Nat}{tp:Pos}{a b:Expr}{p pos:Pos}(hg:Gl X "zip")(hm:X.mg "zip" = none)(ha:JA X [a,b] ta)
  (hs:starEach [a,b] X.env=[(false,eval a X.env),(false,eval b X.env)]:=by rfl) (hs2:starEach [b] X.env=[(false,eval b X.env)]:=by rfl):JI X (.Tuple elts kx tp) (.Call (.Name "zip" p) [a,b] [] pos) (GJ ta):=⟨have ha:=ha.out;PI.imp (Il hg hm ha hs hs2) (by rintro σ H R ⟨e,M,R',ok,am,t,f⟩;exact⟨e,M,_,ok,am,t,fun xs M1 ⟨x,y,ds,es,z,s1,s2,r⟩ vs H1 k1 a1 r1=>by
  subst z
  obtain⟨v,v',rfl,hv,hv'⟩:=r1.two
  obtain⟨a,zs,rfl,q1,m1⟩:=A0 s1 a1 hv
  obtain⟨b,ws,rfl,q2,m2⟩:=A0 s2 a1 hv'
  exact⟨_,_,a,b,rfl,⟨zs,q1⟩,⟨ws,q2⟩,f _ _ M1 r H1 k1 a1 _ (zG hv hv')⟩⟩)⟩
end
section
variable {X:Cx} {tg iter:Expr} {body:List Stmt} {ti:DTI} {g:DTG} {tb:DTS} {pos:Pos}
theorem u8(hp:PassesOwn (model X.prog X.w) X.A X.env X.xe)(hc:X.calm=true)(hi:JI X tg iter ti)(hg:JG X tg g)(hb:JSs X body tb)
  (hs:∀ x,foldedSetIterable iter X.env x=pure x:=by intro _;rfl):JS X (.For tg iter body [] pos) (Mm ti g tb):=⟨have hi:=hi.out;have hg:=hg.out;have hb:=hb.out;(Ij hp hc hi hg hb hs).imp (by rintro E σ H ⟨e,M,F,ok,am,t,f⟩;exact⟨e,M,_,ok,am,t,fun ds stay M1 ⟨W,w0,hst,step,done⟩ H1 k1 a1 J wk=>by
  refine⟨fun i m σ' H'=>m=ds.length - i∧i≤ds.length∧∃ e' M',KT H1 H'∧B7 X.K H' σ' e'∧v6 X.K H' M'∧W i e' M',⟨ds.length,by simp,Sb _,e,M1,KT.refl H1,ok.mono k1,a1,w0⟩,?_⟩
  rintro i m σ2 H2 ⟨rfl,hi,e2,M2,k2,ok2,a2,w2⟩
  have st:=hst i e2 M2 hi w2
  by_cases hlt:i<ds.length
  ·refine .inr ⟨wk.go i H2 M2 hlt k2 a2 st,fun σ' H'=>∃ e' M',KT H1 H'∧B7 X.K H' σ' e'∧v6 X.K H' M'∧W (i+1) e' M',fun σ' H' h=>⟨ds.length - (i+1),by omega,rfl,hlt,h⟩,fun y H' yl=>?_⟩
   obtain⟨d,hd,k3,a3,r⟩:=wk.yld i H2 M2 y H' hlt k2 a2 st yl
   exact BC f k1 (k2.trans k3) (ok2.mono k3) a3 r (step i d e2 M2 hd w2)
  ·have e':i=ds.length:=by omega
   subst e'
   exact .inl ⟨wk.stop _ H2 M2 (Rx _) k2 a2 st,f.nx e2 M2 (done e2 M2 w2) σ2 H2 (k1.trans k2) a2 ok2⟩⟩)⟩
end
noncomputable def kQ(n:Nat)(caps:List Nat)(e:Ev):Ev:=Tf n none++caps.map fun i=>(e[i]?).getD none
theorem Fh{K:Ra}{H:Hp}{σ:St}{e:Ev}(n:Nat)(caps:List Nat)(ok:B7 K H σ e):B7 K H (pf n caps σ) (kQ n caps e):=by
 refine⟨by simp[pf,kQ],fun i d h=>?_⟩
 unfold kQ at h
 unfold pf
 rw[SH]at h ⊢
 rw[TL]at h ⊢
 by_cases hi:i<n
 ·rw[if_pos hi]at h
  rw[SK]at h
  split at h<;>cases h
 ·rw[if_neg hi]at h ⊢
  rw[Rj]at h ⊢
  cases hj:caps[i - n]? with
  | none=>rw[hj]at h;cases h
  | some j =>
   rw[hj]at h
   have h':(e[j]?).getD none=some d:=by simpa using h
   have he:e[j]? = some (some d):=by
    cases q:e[j]? with
    | none=>rw[q]at h';cases h'
    | some z=>rw[q]at h';rw[show z=some d by simpa using h']
   obtain⟨v,h1,h2⟩:=ok.has j d he
   exact⟨v,by simp[h1],h2⟩
theorem fW{p:Str→Prop}{a:Str}(h:p a):∀ x∈[a],p x:=fun x hx=>by
 simp only[RC,RS,or_false]at hx
 subst hx;exact h
theorem yg{p:Str→Prop}{a b:Str}(h:p a)(h2:p b):∀ x∈[a,b],p x:=fun x hx=>by
 simp only[RC,RS,or_false]at hx
 rcases hx with rfl|rfl
 ·exact h
 ·exact h2
section
variable {X:Cx}
def Nl(K:Ra)(tl:TE):TI:=fun σ H R=>tl σ H fun x H1=>∃(a:Addr) (k:Bool),x = .ref a∧(∃ xs,SqK K k H1 a xs)∧R (if k=true then Itl K a else Itt K a) H1
theorem Im{tg l:Expr}{tl:TE}(hl:PE X l tl):PI X tg l (Nl X.K tl):=by
 intro pins s σ H R I h
 refine thn (hl pins s σ H _ I h) fun v s1 zz=>?_
 obtain⟨x,H1,I1,r1,q1⟩:=zz
 obtain⟨a,k,e,⟨xs,hq⟩,q⟩:=q1
 subst e
 cases r1
 obtain⟨its,rv,p⟩:=I1.sqk hq
 have nf:∀ b∈[s1.heap.objs.size],cS X pins H1 b:=fun b hb=>by
  have e:b=s1.heap.objs.size:=by simpa using hb
  subst e
  exact I1.fpOk (Rx _) (I1.hok.fresh (Rx _))
 cases k with
 | true=>exact wpAny_pyIter_list p ⟨s1.heap.objs.size,[s1.heap.objs.size],_,_,H1,rfl,I1.kept (t':=s1.toks) fun b o e=>Rf _ e,xa a _,⟨_,Rp _ rfl,rfl,rfl⟩,nf,q⟩
 | false=>exact wpAny_pyIter_tuple p ⟨s1.heap.objs.size,[s1.heap.objs.size],_,_,H1,rfl,I1.kept (t':=s1.toks) fun b o e=>Rf _ e,sM a _,⟨_,Rp _ rfl,rfl,rfl⟩,nf,q⟩
def GK(ti:DTE):DTI:=fun e M R=>ti e M fun x M1=>∃ ds,B8 M1 x ds∧R ds (fun M'=>B8 M' x ds) M1
theorem A5{tg iter:Expr}{ti:DTE}(hi:JE X iter ti):JI X tg iter (GK ti):=⟨have hi:=hi.out;PI.imp (Im hi) (by rintro σ H R ⟨e,M,R',ok,am,t,f⟩;exact⟨e,M,_,ok,am,t,fun x M1 ⟨ds,sq,r⟩ v H1 k1 a1 r1=>by
 have sq':=sq
 rcases sq with rfl|⟨p,rfl,hm⟩|rfl
 rotate_left 2
 ·obtain⟨a,xs,rfl,sq,l⟩:=r1.il
  have wk:kW X.K H1 (Itl X.K a) ds (fun M'=>B8 M' (.vl ds) ds):=⟨fun i H' M' hi k am _=>by
    obtain⟨a',ys,e,sq',l'⟩:=(r1.mono k).il
    cases e
    exact⟨ys,_,sq',Rr (by rw[l'.length];exact hi)⟩,
   fun i H' M' x H'' hi k am _ zz=>by
    obtain⟨e,y⟩:=zz
    subst e
    obtain⟨a',ys,e,sq',l'⟩:=(r1.mono k).il
    cases e
    obtain⟨d,hd,r⟩:=l'.getV (y ys sq')
    exact⟨d,hd,KT.refl _,am,r⟩,
   fun i H' M' hi k am _=>by
    obtain⟨a',ys,e,sq',l'⟩:=(r1.mono k).il
    cases e
    exact⟨ys,sq',by rw[l'.length];exact hi⟩,fun _ _ _ st hq=>aH st hq⟩
  exact⟨a,true,rfl,⟨xs,sq⟩,f ds _ M1 r H1 k1 a1 _ wk⟩
 ·cases r1 with
  | tup s l =>
   refine⟨_,false,rfl,⟨_,s⟩,f ds _ M1 r H1 k1 a1 _ ?_⟩
   have w:=zH (K:=X.K) s l
   exact⟨fun i H' M' a b c _=>w.go i H' M' a b c trivial,fun i H' M' y H2 a b c _ g=>w.yld i H' M' y H2 a b c trivial g,fun i H' M' a b c _=>w.stop i H' M' a b c trivial,fun _ _ _ st hq=>aH st hq⟩
 ·cases r1
  obtain⟨xs,hx,l⟩:=a1.lst hm
  refine⟨p,true,rfl,⟨xs,SqL.of hx⟩,f ds _ M1 r H1 k1 a1 _ ?_⟩
  have w:=zJ (K:=X.K) (H1:=H1) (p:=p) (ds:=ds)
  have cv:∀{M':Mem},B8 M' (.ref p) ds→M' p=some (.lst ds):=fun z=>by
   rcases z with z|⟨p',z,h⟩|z
   ·cases z
   ·cases z;exact h
   ·cases z
  exact⟨fun i H' M' a b c z=>w.go i H' M' a b c (cv z),fun i H' M' y H2 a b c z g=>w.yld i H' M' y H2 a b c (cv z) g,fun i H' M' a b c z=>w.stop i H' M' a b c (cv z),fun _ _ _ st hq=>aH st hq⟩⟩)⟩
end
theorem Bw{K:Ra}{mg:Str→Option Value}{h:Heap}{x:Str}{a b c:Addr}{od od1 od2:Option Addr}{osl osl1 osl2:Array (Option Value)}{i j k l:Int}{t1 t2 t3 t4:Tok}{cap cap1 cap2:Nat}(X:K.In h)(G:h.Ns mainGlobals mg)
  (n:PySem.W.nsIn K mainGlobals x=some (some (.ref a))) (l0:K.lookup a=some ⟨.type "tuple",od,.seq #[.ref b,.ref c] cap,osl⟩)
  (l1:K.lookup b=some ⟨.type "tuple",od1,.seq #[.int i t1,.int j t2] cap1,osl1⟩) (l2:K.lookup c=some ⟨.type "tuple",od2,.seq #[.int k t3,.int l t4] cap2,osl2⟩):GlD K mg x (.tup [.tup [.int i,.int j],.tup [.int k,.int l]]):=by
 have two:(2:Nat)≤sizeLine:=by decide
 have p1:∀ H:Hp,Has K H (.ref b) (.tup [.int i,.int j]):=fun H=>.tup (xs:=[.int i,.int j]) (.inr ⟨_,_,_,l1,rfl,rfl,two,.cons (show u6 (.int i) (.int i t1)from⟨t1,rfl⟩) (.cons (show u6 (.int j) (.int j t2)from⟨t2,rfl⟩) .nil)⟩) (.cons (.int i) (.cons (.int j) .nil))
 have p2:∀ H:Hp,Has K H (.ref c) (.tup [.int k,.int l]):=fun H=>.tup (xs:=[.int k,.int l]) (.inr ⟨_,_,_,l2,rfl,rfl,two,.cons (show u6 (.int k) (.int k t3)from⟨t3,rfl⟩) (.cons (show u6 (.int l) (.int l t4)from⟨t4,rfl⟩) .nil)⟩) (.cons (.int k) (.cons (.int l) .nil))
 exact⟨.ref a,.ref a,PySem.W.mg_of X G n,rfl,fun H=>.tup (xs:=[.ref b,.ref c]) (.inr ⟨_,_,_,l0,rfl,rfl,two,.cons (show u6 (.ref b) (.ref b)from rfl) (.cons (show u6 (.ref c) (.ref c)from rfl) .nil)⟩) (.cons (p1 H) (.cons (p2 H) .nil))⟩
theorem Jg{K:Ra}{mg:Str→Option Value}{h:Heap}{x:Str}{a b c e g:Addr}{od od1 od2 od3 od4:Option Addr}{osl osl1 osl2 osl3 osl4:Array (Option Value)}{i j k l m n p q:Int}{t1 t2 t3 t4 t5 t6 t7 t8:Tok}{cap cap1 cap2 cap3 cap4:Nat}(X:K.In h)(G:h.Ns mainGlobals mg)
  (nn:PySem.W.nsIn K mainGlobals x=some (some (.ref a))) (l0:K.lookup a=some ⟨.type "tuple",od,.seq #[.ref b,.ref c,.ref e,.ref g] cap,osl⟩)
  (l1:K.lookup b=some ⟨.type "tuple",od1,.seq #[.int i t1,.int j t2] cap1,osl1⟩) (l2:K.lookup c=some ⟨.type "tuple",od2,.seq #[.int k t3,.int l t4] cap2,osl2⟩)
  (l3:K.lookup e=some ⟨.type "tuple",od3,.seq #[.int m t5,.int n t6] cap3,osl3⟩) (l4:K.lookup g=some ⟨.type "tuple",od4,.seq #[.int p t7,.int q t8] cap4,osl4⟩):GlD K mg x (.tup [.tup [.int i,.int j],.tup [.int k,.int l],.tup [.int m,.int n],.tup [.int p,.int q]]):=by
 have two:(2:Nat)≤sizeLine:=by decide
 have four:(4:Nat)≤sizeLine:=by decide
 have one:∀{a:Addr} {i j:Int} {t1 t2:Tok} {od:Option Addr} {osl:Array (Option Value)} {cap:Nat},K.lookup a=some ⟨.type "tuple",od,.seq #[.int i t1,.int j t2] cap,osl⟩→∀ H:Hp,Has K H (.ref a) (.tup [.int i,.int j]):=fun{a i j t1 t2 od osl cap} l1 H=>.tup (xs:=[.int i,.int j]) (.inr ⟨_,_,_,l1,rfl,rfl,two,.cons (show u6 (.int i) (.int i t1)from⟨t1,rfl⟩) (.cons (show u6 (.int j) (.int j t2)from⟨t2,rfl⟩) .nil)⟩) (.cons (.int i) (.cons (.int j) .nil))
 exact⟨.ref a,.ref a,PySem.W.mg_of X G nn,rfl,fun H=>.tup (xs:=[.ref b,.ref c,.ref e,.ref g]) (.inr ⟨_,_,_,l0,rfl,rfl,four,.cons (show u6 (.ref b) (.ref b)from rfl) (.cons (show u6 (.ref c) (.ref c)from rfl) (.cons (show u6 (.ref e) (.ref e)from rfl) (.cons (show u6 (.ref g) (.ref g)from rfl) .nil)))⟩) (.cons (one l1 H) (.cons (one l2 H) (.cons (one l3 H) (.cons (one l4 H) .nil))))⟩
theorem Jh{K:Ra}{mg:Str→Option Value}{h:Heap}{x:Str}{i:Int}{t:Tok}(X:K.In h)(G:h.Ns mainGlobals mg)(n:PySem.W.nsIn K mainGlobals x=some (some (.int i t))):GlD K mg x (.int i) :=
 ⟨.int i,.int i t,PySem.W.mg_of X G n,⟨t,rfl⟩,fun _=>.int i⟩
theorem rJ{M:Mem}{p:Addr}{ds:List D}(h:M p=some (.lst ds)):Bf M (.ref p)=some ds.length:=by
 unfold Bf;simp only[h]
theorem Fs{ds:List D}{r:Int}(h0:0≤r)(h1:r<ds.length):∃ d,atI ds r=some d∧d∈ds:=by
 unfold atI ixN
 rw[if_pos h0,if_pos h1]
 have hl:r.toNat<ds.length:=by omega
 exact⟨ds[r.toNat],by simp[hl],VO hl⟩
section
variable {X:Cx}
def Fd:DRC:=fun ds M R=>∃ x ys,ds=[x]∧B8 M x ys∧∀ p,M p=none→R (.ref p) (B2 M p (.lst ys))
theorem Cg:fM X (.type "list") Fd:=E5.imp dY (by
 rintro xs H Q ⟨ds,M,R,hl,am,⟨x,ys,z,e,r⟩,f⟩
 subst z
 obtain⟨v,rfl,hv⟩:=hl.one
 rcases e with rfl|⟨p,rfl,hm⟩|rfl
 rotate_left 2
 ·obtain⟨a,xs,rfl,sq,l⟩:=hv.il
  exact⟨a,xs,rfl,.inl sq,fun p hp=>f _ _ (r p (am.fresh hp)) _ _ (KT.alloc hp) (am.new hp l) (.ref p)⟩
 ·cases hv with
  | tup s l=>exact⟨_,_,rfl,.inr s,fun p hp=>f _ _ (r p (am.fresh hp)) _ _ (KT.alloc hp) (am.new hp l) (.ref p)⟩
 ·cases hv
  obtain⟨zs,hx,l⟩:=am.lst hm
  exact⟨p,zs,rfl,.inl (SqL.of hx),fun q hq=>f _ _ (r q (am.fresh hq)) _ _ (KT.alloc hq) (am.new hq l) (.ref q)⟩)
end
section
variable {X:Cx}
def wz:DRM:=fun x xs M R=>∃ l ds v,x = .ref l∧xs=[v]∧M l=some (.lst ds)∧ds.length<sizeLine∧R .non (B2 M l (.lst (ds++[v])))
theorem C4:DMt X "list.append" wz:=MtR.imp (r:=vT) mE (by
 rintro x xs H Q ⟨dx,ds,M,R,hx,hl,am,⟨l,es,v,e1,e2,hM,hz,r⟩,f⟩
 subst e1;subst e2
 cases hx
 obtain⟨w,rfl,hw⟩:=hl.one
 obtain⟨ys,hy,ly⟩:=am.lst hM
 exact⟨l,ys,w,rfl,rfl,hy,by rw[ly.length];exact hz,f _ _ r _ _ (KT.write hy) (am.write hy (ly.append (.cons hw .nil))) .non⟩)
def wx:DRM:=fun x xs M R=>∃ l b ds es,x = .ref l∧xs=[.ref b]∧M l=some (.lst ds)∧M b=some (.lst es)∧ds.length+es.length≤sizeLine∧R .non (B2 M l (.lst (ds++es)))
theorem yb:DMt X "list.extend" wx:=MtR.imp (r:=vS) xI (by
 rintro x xs H Q ⟨dx,ds,M,R,hx,hl,am,⟨l,b,es,vs,e1,e2,hM,hB,hz,r⟩,f⟩
 subst e1;subst e2
 cases hx
 obtain⟨w,rfl,hw⟩:=hl.one
 cases hw
 obtain⟨ys,hy,ly⟩:=am.lst hM
 obtain⟨zs,hz',lz⟩:=am.lst hB
 exact⟨l,b,ys,zs,rfl,rfl,hy,hz',by rw[ly.length,lz.length];exact hz,f _ _ r _ _ (KT.write hy) (am.write hy (ly.append lz)) .non⟩)
end
theorem DF{M:Mem}{p:Addr}{ds:List D}(h:M p=some (.lst ds)):tyD M (.ref p)=some "list" := by
 unfold tyD;simp only[h]
section
variable {X:Cx}
end
noncomputable abbrev DTO:=Ev→Mem→(Option Int→Mem→Prop)→Prop
def upO(K:Ra)(t:DTO):TO:=fun σ H Q=>∃ e M R,B7 K H σ e∧v6 K H M∧t e M R∧∀ o M',R o M'→∀ H',KT H H'→v6 K H' M'→Q o H'
def DPO(X:Cx)(e:Option Expr)(t:DTO):Prop:=PO X e (upO X.K t)
structure JO(X:Cx)(e:Option Expr)(t:DTO):Prop where
 out:DPO X e t
def wH:DTO:=fun _ M R=>R none M
def GR(t:DTE):DTO:=fun e M R=>t e M fun x M1=>∃ i,x = .int i∧R (some i) M1
theorem PO.imp{X:Cx}{e:Option Expr}{t t':TO}(h:PO X e t)(i:∀ σ H Q,t' σ H Q→t σ H Q):PO X e t':=fun pins s σ H Q I q=>h pins s σ H Q I (i σ H Q q)
section
variable {X:Cx} {e:Expr} {te:DTE} {lo hi:Option Expr} {tl th:DTO} {pos p2:Pos}
theorem O2:JO X none wH:=⟨PO.imp Eg (by rintro σ H Q ⟨e,M,R,ok,am,t,f⟩;exact f none M t H (KT.refl H) am)⟩
theorem O1(h:JE X e te):JO X (some e) (GR te):=⟨have h:=h.out;PO.imp (Ef h) (by rintro σ H Q ⟨e,M,R,ok,am,t,f⟩;exact⟨e,M,_,ok,am,t,fun x M1 ⟨i,z,r⟩ v H1 k1 a1 r1=>by
 subst z;cases r1
 exact⟨i,rfl,f (some i) M1 r H1 k1 a1⟩⟩)⟩
noncomputable def Y5(ds:List D)(lo hi:Option Int):List D:=(ds.drop (HT.sIx ds.length 0 lo)).take (HT.sIx ds.length ds.length hi - HT.sIx ds.length 0 lo)
theorem HasL.cut{K:Ra}{H:Hp}{xs:List V}{ds:List D}(h:HasL K H xs ds)(lo hi:Option Int):HasL K H (rX xs lo hi) (Y5 ds lo hi):=by
 unfold rX Y5
 rw[h.length]
 exact(h.drop _).take _
end
noncomputable def U1(ds:List D):List D:=ds.mapIdx fun i d=>.tup [.int i,d]
theorem dX(ds:List D):(U1 ds).length=ds.length:=by simp[U1]
theorem xY{ds:List D}{i:Nat}{d:D}(h:ds[i]? = some d):(U1 ds)[i]? = some (.tup [.int i,d]):=by
 unfold U1
 rw[List.getElem?_mapIdx,h];rfl
theorem wW{K:Ra}{H1:Hp}{x:D}{l:Addr}{ds:List D}(h1:Has K H1 (.ref l) x):kW K H1 (Ite K (fD x) l) (U1 ds) (fun M'=>B8 M' x ds) where
 go:=fun i H' M' hi k am s1=>by
  rw[dX]at hi
  obtain⟨a,xs,e1,q1,m1⟩:=A0 s1 am (h1.mono k)
  cases e1
  exact⟨xs,_,q1,Rr (by rw[m1.length];omega)⟩
 yld:=fun i H' M' v H'' hi k am s1 zz=>by
  obtain⟨T,a,hT,ev,eH,u1⟩:=zz
  subst ev;subst eH
  obtain⟨a',xs,e1,q1,m1⟩:=A0 s1 am (h1.mono k)
  cases e1
  obtain⟨d1,g1,r1⟩:=m1.getV (u1 xs q1)
  have kt:KT H' (upd H' T (.tup [.int i,a])):=KT.alloc hT
  exact⟨_,xY g1,kt,am.alloc hT,.tup (SqT.of j7) (.cons (.int _) (.cons (r1.mono kt) .nil))⟩
 stop:=fun i H' M' hi k am s1=>by
  rw[dX]at hi
  obtain⟨a,xs,e1,q1,m1⟩:=A0 s1 am (h1.mono k)
  cases e1
  exact⟨xs,q1,by rw[m1.length];exact hi⟩
 up:=fun _ _ _ st hq=>aH st hq
section
variable {X:Cx} {ta:DTA}
def BO(ta:DTA):DTI:=fun e M R=>ta e M fun xs M1=>∃ x ds,xs=[x]∧B8 M1 x ds∧R (U1 ds) (fun M'=>B8 M' x ds) M1
theorem Q8{elts:List Expr}{kx:Nat}{tp:Pos}{a:Expr}{p pos:Pos}(hg:Gl X "enumerate")(hm:X.mg "enumerate" = none)(ha:JA X [a] ta)(hs:starEach [a] X.env=[(false,eval a X.env)]:=by rfl):JI X (.Tuple elts kx tp) (.Call (.Name "enumerate" p) [a] [] pos) (BO ta):=⟨have ha:=ha.out;PI.imp (Eh hg hm ha hs) (by rintro σ H R ⟨e,M,R',ok,am,t,f⟩;exact⟨e,M,_,ok,am,t,fun xs M1 ⟨x,ds,z,s1,r⟩ vs H1 k1 a1 r1=>by
  subst z
  obtain⟨v,rfl,hv⟩:=r1.one
  obtain⟨a,zs,rfl,q1,m1⟩:=A0 s1 a1 hv
  exact⟨_,a,rfl,⟨zs,q1⟩,f _ _ M1 r H1 k1 a1 _ (wW hv)⟩⟩)⟩
end
noncomputable def bG(M:Mem)(a:Addr):Mem:=fun b=>if b=a then none else M b
theorem gN{M:Mem}{a b:Addr}(h:b≠a):bG M a b=M b:=by unfold bG;rw[if_neg h]
theorem L5{M:Mem}{a:Addr}{o:MO}(h:M a=none):bG (B2 M a o) a=M:=by
 funext b;unfold bG B2;by_cases e:b=a
 ·rw[if_pos e,e,h]
 ·rw[if_neg e,if_neg e]
section
variable {K:Ra} {H:Hp} {M:Mem} {p:Addr}
theorem v6.at{o:HO}(h:v6 K H M)(k:KT0 H (upd H p o))(hp:M p=none):v6 K (upd H p o) M:=fun a u m=>by
 cases u with
 | lst ds =>
  obtain⟨xs,z,l⟩:=h a _ m
  have hn:a≠p:=by intro e;subst e;rw[hp]at m;cases m
  exact⟨xs,by rw[o7 hn];exact z,l.mono0 k⟩
theorem v6.del(h:v6 K H M):v6 K H (bG M p):=fun a u m=>by
 by_cases e:a=p
 ·subst e;unfold bG at m;rw[if_pos rfl]at m;cases m
 ·rw[gN e]at m;exact h a u m
theorem mN:bG M p p=none:=by unfold bG;rw[if_pos rfl]
theorem v6.none_ext{φ:Heap→Prop}(h:v6 K H M)(e:H p=some (.ext φ)):M p=none:=by
 cases q:M p with
 | none=>rfl
 | some o =>
  cases o with
  | lst ds=>obtain⟨xs,z,_⟩:=h p _ q;rw[e]at z;cases z
end
section
variable {X:Cx} {x:Expr} {t:DTE} {es:List Expr} {tr:DTA} {pos:Pos}
def Ml(t:DTE):DTE:=fun e M R=>t e M fun x M1=>∃ p ds,x = .ref p∧M1 p=some (.lst ds)∧R (.vl ds) (bG M1 p)
theorem Q9(h:JE X x t):JE X x (Ml t):=⟨have h:=h.out;(cG h).imp (by rintro σ H Q ⟨e,M,R,ok,am,t,f⟩;exact⟨e,M,_,ok,am,t,fun d M1 ⟨p,ds,z,hm,r⟩ v H1 k1 a1 r1=>by
 subst z
 cases r1
 obtain⟨xs,hx,lx⟩:=a1.lst hm
 exact⟨p,xs,rfl,hx,fun o=>f _ _ r _ _ (k1.trans (KT.any hx)) (a1.del.at (KT.any hx).toKT0 mN) (.vl (.inl ⟨o,j7⟩) (lx.mono (KT.any hx)))⟩⟩)⟩
def Mn(t:DTE):DTE:=fun e M R=>t e M fun x M1=>∃ M2:Mem,(∀ b o,M2 b=some o→M1 b=some o)∧R x M2
theorem R0(h:JE X x t):JE X x (Mn t):=⟨have h:=h.out;PE.imp h (by rintro σ H Q ⟨e,M,R,ok,am,t,f⟩;exact⟨e,M,_,ok,am,t,fun d M1 ⟨M2,hs,r⟩ v H1 k1 a1 r1=>f d M2 r v H1 k1 (fun a o q=>a1 a o (hs a o q)) r1⟩)⟩
def GV(t:DTA):DTE:=fun e M R=>t e M fun ds M1=>ds.length≤sizeLine∧R (.vl ds) M1
theorem bq{K:Ra}{H0 H:Hp}{M:Mem}{R:DK}{Q:VK}{vs:List V}{ds:List D}(f:jO K H0 R Q)(k:KT H0 H)(am:v6 K H M)(l:HasL K H vs ds)(r:R (.vl ds) M)(p:Addr)(hp:H p=none) :
  ∃ q xs,V.ref p = .ref q∧upd H p (.lst vs) q=some (.lst xs)∧∀ o,Q (.ref p) (upd (upd H p (.lst vs)) q (.frz o (.lst xs))) :=
 ⟨p,vs,rfl,j7,fun o=>by
  rw[cY]
  exact f _ M r _ _ (k.trans (KT.alloc hp)) (am.alloc hp) (.vl (.inl ⟨o,j7⟩) (l.mono (KT.alloc hp)))⟩
theorem p6(h:JA X es tr):JE X (.List es pos) (GV tr):=⟨have h:=h.out;(cG (AH h)).imp (by rintro σ H Q ⟨e,M,R,ok,am,t,f⟩;exact⟨e,M,_,ok,am,t,fun ds M1 ⟨hz,h1⟩ vs H1 k1 a1 r1=>⟨by rw[r1.length];exact hz,fun p hp=>bq f k1 a1 r1 h1 p hp⟩⟩)⟩
def wy(x y:D)(M:Mem)(R:DK):Prop:=∃ xs ys,az M x=some xs∧az M y=some ys∧xs.length+ys.length≤sizeLine∧R (.vl (xs++ys)) M
def GZ(ta tb:DTE):DTE:=fun e M R=>ta e M fun x M1=>tb e M1 fun y M2=>wy x y M2 R
theorem R6{a b:Expr}{ta tb:DTE}(ha:JE X a ta)(hb:JE X b tb):JE X (.BinOp a .Add b pos) (GZ ta tb):=⟨have ha:=ha.out;have hb:=hb.out;(cG (Gz EA ha hb)).imp (by rintro σ H Q ⟨e,M,R,ok,am,t,f⟩;exact⟨e,M,_,ok,am,t,fun x M1 h1 v H1 k1 a1 r1=>⟨e,M1,_,ok.mono k1,a1,h1,fun y M2 ⟨xs,ys,e1,e2,hz,r⟩ u H2 k2 a2 r2=>by
  obtain⟨a,vs,rfl,s1,l1⟩:=K5 a2 (r1.mono k2) e1
  obtain⟨b,ws,rfl,s2,l2⟩:=K5 a2 r2 e2
  exact⟨a,b,vs,ws,rfl,rfl,s1,s2,by rw[l1.length,l2.length];exact hz,fun p hp=>bq f (k1.trans k2) a2 (l1.append l2) r p hp⟩⟩⟩)⟩
def Fc(x:D)(lo hi:Option Int)(M:Mem)(R:DK):Prop:=(∃ ds,az M x=some ds∧R (.vl (Y5 ds lo hi)) M) ∨ ∃ ds,x = .tup ds∧¬ (HT.sIx ds.length 0 lo=0∧HT.sIx ds.length ds.length hi=ds.length)∧R (.tup (Y5 ds lo hi)) M
def Mb(te:DTE)(tl th:DTO):DTE:=fun e M R=>te e M fun x M1=>tl e M1 fun l M2=>th e M2 fun u M3=>Fc x l u M3 R
theorem O3{e:Expr}{te:DTE}{lo hi:Option Expr}{tl th:DTO}{p2:Pos}(he:JE X e te)(hl:JO X lo tl)(hu:JO X hi th):JE X (.Subscript e (.Slice lo hi none p2) pos) (Mb te tl th):=⟨have he:=he.out;have hl:=hl.out;have hu:=hu.out;(Ep (AG (SlR.or DM HH) he hl hu)).imp (by rintro σ H Q ⟨e,M,R,ok,am,t,f⟩;exact⟨e,M,_,ok,am,t,fun x M1 h1 v H1 k1 a1 r1=>⟨e,M1,_,ok.mono k1,a1,h1,fun l M2 h2 H2 k2 a2=>⟨e,M2,_,(ok.mono k1).mono k2,a2,h2,fun u M3 h3 H3 k3 a3=>by
  rcases h3 with⟨ds,hi,r⟩|⟨ds,rfl,hw,r⟩
  ·obtain⟨a,xs,rfl,sq,lx⟩:=K5 a3 ((r1.mono k2).mono k3) hi
   exact .inl ⟨a,xs,rfl,sq,fun p hp=>.inl (bq f (k1.trans (k2.trans k3)) a3 (lx.cut l u) r p hp)⟩
  ·cases(r1.mono k2).mono k3 with
   | tup sq lx =>
    exact .inr ⟨_,_,rfl,sq,by rw[lx.length];exact hw,fun p hp=>.inr (f _ M3 r _ _ ((k1.trans (k2.trans k3)).trans (KT.alloc hp)) (a3.alloc hp) (.tup (SqT.of j7) ((lx.cut l u).mono (KT.alloc hp))))⟩⟩⟩⟩)⟩
theorem HasL.rev{K:Ra}{H:Hp}:∀{xs:List V} {ds:List D},HasL K H xs ds→HasL K H xs.reverse ds.reverse
 | _,_,.nil=>.nil
 | _,_,.cons h t=>by rw[TJ,TJ];exact(HasL.rev t).append (.cons h .nil)
def oY(ds:List D)(M:Mem)(R:DK):Prop:=∃ x ys,ds=[x]∧B8 M x ys∧R (.vl ys) M
def BW(t:DTA):DTE:=fun e M R=>t e M fun ds M1=>oY ds M1 R
end
section
variable {X:Cx} {e:Expr} {es:List Expr} {t:DTA} {x:Str} {p pos:Pos}
theorem dN(hg:Gl X x)(hm:X.mg x=none)(hv:bootBuiltins x=some (.type "list"))(ha:JA X (e :: es) t)
  (hn:x ≠ "__name__" := by decide) (hdb:(x == ("__debug__" : Str))=false:=by decide) (he:starEach (e :: es) X.env=(false,eval e X.env) :: starEach es X.env:=by rfl) (hpl:(backTo pos (starEach es X.env)).any (·.1)=false:=by rfl):JE X (.Call (.Name x p) (e :: es) [] pos) (BW t):=⟨have ha:=ha.out;(cG (T6 dY hg hm hv ha hn hdb he hpl)).imp (by rintro σ H Q ⟨e,M,R,ok,am,t,f⟩;exact⟨e,M,_,ok,am,t,fun ds M1 ⟨d,ys,z,sq,r⟩ vs H1 k1 a1 r1=>by
  subst z
  obtain⟨v,rfl,hv⟩:=r1.one
  obtain⟨a,xs,rfl,q1,m1⟩:=A0 sq a1 hv
  refine⟨a,xs,rfl,?_,fun p hp=>bq f k1 a1 m1 r p hp⟩
  cases hk:fD d with
  | true=>rw[hk]at q1;exact .inl q1
  | false=>rw[hk]at q1;exact .inr q1⟩)⟩
variable {te:DTE} {pos':Pos}
end
section
variable {X:Cx}
def LQ(neg:Bool):DR2:=fun x y M R=>∃ ds,cl 60 x=true∧B8 M y ds∧clL 59 ds=true∧R (.bl (neg.xor (@decide (x∈ds) (RJ _)))) M
noncomputable def K0(h:Heap)(p:PyData)(y:Value):Bool:=@decide (∃ d as,Reads h y d as∧PyData.eqv d p=true) (RJ _)
theorem mw{h:Heap}{p d:PyData}{y:Value}{as:List Addr}(c:d.canLay0=true)(r:Reads h y d as):K0 h p y=PyData.eqv d p:=by
 unfold K0
 cases e:PyData.eqv d p with
 | true=>exact @decide_eq_true _ (RJ _) ⟨d,as,r,e⟩
 | false =>
  refine @decide_eq_false _ (RJ _) ?_
  rintro⟨d',as',r',e'⟩
  rw[← SeqAt.Reads.unique d d' y as as' c r r',e]at e'
  cases e'
theorem U6{X:Cx}{pins:List (Addr × Obj)}{s:Shared}{σ:St}{H:Hp}{M:Mem}{B:Around}{x:D}{u:Value}{bs:List Addr}(I:Inv X pins σ H s)(am:v6 X.K H M)(hB:B.units+62<cLine)(cx:cl 60 x=true)(rx:Reads s.heap u (pyD x) bs) :
  ∀{ds:List D} {vs:List V} {us:List Value},clL 59 ds=true→HasL X.K H vs ds→p0 vs us→(∀ w∈us,SeqAt.EqAt B s w u (K0 s.heap (pyD x) w))∧us.any (K0 s.heap (pyD x)) = @decide (x∈ds) (RJ _)
 | [],_,_,_,h,r=>by
  cases h;cases r
  refine⟨fun w hw=>(nomatch hw),?_⟩
  rw[List.any_nil]
  exact(@decide_eq_false _ (RJ _) (fun z=>nomatch z)).symm
 | d :: ds,_,_,c,h,r=>by
  cases h with
  | cons h hl =>
   cases r with
   | cons r rl =>
    have c':cl 59 d=true∧clL 59 ds=true:=by simpa[clL]using c
    obtain⟨ih1,ih2⟩:=U6 I am hB cx rx c'.2 hl rl
    obtain⟨p1,p2,p3⟩:=fH (M:=M) c'.1
    obtain⟨q1,q2,q3⟩:=fH (M:=M) cx
    obtain⟨as,rd⟩:=J4 I am p1 h r
    have es:=mw (p:=pyD x) p2 rd
    refine⟨fun w hw=>?_,?_⟩
    ·rcases RC.mp hw with rfl|hw
     ·rw[es]
      exact SeqAt.eqAt_reads _ _ B s _ _ _ _ rd rx p2 q2 (by have:=Nat.min_le_left (pyD d).depth (pyD x).depth;omega)
     ·exact ih1 w hw
    ·rw[List.any_cons,es,ih2]
     have ev:=pe c'.1 cx
     by_cases e:d=x
     ·rw[ev.mpr e]
      exact(@decide_eq_true _ (RJ _) (by rw[e];exact RX)).symm
     ·have:PyData.eqv (pyD d) (pyD x)=false:=by
       cases z:PyData.eqv (pyD d) (pyD x)with
       | false=>rfl
       | true=>exact absurd (ev.mp z) e
      rw[this,Bool.false_or]
      congr 1
      refine propext ⟨fun z=>RH _ z,fun z=>?_⟩
      rcases RC.mp z with z|z
      ·exact absurd z.symm e
      ·exact z
theorem js(hu:X.A.units+64<cLine):DOp X (compareOp .NotIn) (LQ true):=by
 intro pins s σ H x y v u Q I rx ry h
 obtain⟨dx,dy,M,R,hx,hy,am,⟨ds,c1,sq,c2,r⟩,f⟩:=h
 obtain⟨a,xs,rfl,q1,m1⟩:=A0 sq am hy
 cases ry
 obtain⟨bs,rd⟩:=J4 I am (fH (M:=M) c1).1 hx rx
 have fin:=f _ M r _ H (KT.refl H) am (.bl _)
 cases hk:fD dy with
 | true =>
  rw[hk]at q1
  obtain⟨its,rv,pl,hz⟩:=I.list q1
  obtain⟨i1,i2⟩:=U6 (B:=X.A.in1) I am (by show X.A.units+1+62<cLine;omega) c1 rd c2 m1 rv
  refine SeqAt.notIn_listAt (K0 s.heap (pyD dx)) pl.isList (fun w hw=>i1 w (by simpa using hw)) ⟨.bl _,H,I,rfl,?_⟩
  rw[show its.toArray.any (K0 s.heap (pyD dx))=its.any (K0 s.heap (pyD dx))by simp,i2]
  simpa using fin
 | false =>
  rw[hk]at q1
  obtain⟨its,rv,pl,hz⟩:=I.tuple q1
  obtain⟨i1,i2⟩:=U6 (B:=X.A.in1) I am (by show X.A.units+1+62<cLine;omega) c1 rd c2 m1 rv
  refine SeqAt.notIn_tupleAt (K0 s.heap (pyD dx)) pl (fun w hw=>i1 w (by simpa using hw)) ⟨.bl _,H,I,rfl,?_⟩
  rw[show its.toArray.any (K0 s.heap (pyD dx))=its.any (K0 s.heap (pyD dx))by simp,i2]
  simpa using fin
def wu:DRM:=fun x xs M R=>∃ l ds v,∃ k:Nat,x = .ref l∧xs=[.int (k:Int),v]∧M l=some (.lst ds)∧k≤ds.length∧ds.length<sizeLine∧R .non (B2 M l (.lst (ds.take k++v :: ds.drop k)))
theorem HasL.take'{K:Ra}{H:Hp}:∀{vs:List V} {ds:List D} (k:Nat),HasL K H vs ds→HasL K H (vs.take k) (ds.take k)
 | _,_,0,_=>.nil
 | _,_,_+1,.nil=>.nil
 | _,_,k+1,.cons h t=>.cons h (HasL.take' k t)
theorem HasL.drop'{K:Ra}{H:Hp}:∀{vs:List V} {ds:List D} (k:Nat),HasL K H vs ds→HasL K H (vs.drop k) (ds.drop k)
 | _,_,0,h=>h
 | _,_,_+1,.nil=>.nil
 | _,_,k+1,.cons _ t=>HasL.drop' k t
theorem ya:DMt X "list.insert" wu:=MtR.imp (r:=vR) xH (by
 rintro x xs H Q ⟨dx,ds,M,R,hx,hl,am,⟨l,es,v,k,e1,e2,hM,hk,hz,r⟩,f⟩
 subst e1;subst e2
 cases hx
 cases hl with
 | cons h1 hl =>
  obtain⟨w,rfl,hw⟩:=hl.one
  cases h1
  obtain⟨ys,hy,ly⟩:=am.lst hM
  exact⟨l,ys,w,k,rfl,rfl,hy,by rw[ly.length];exact hk,by rw[ly.length];exact hz,f _ _ r _ _ (KT.write hy) (am.write hy ((ly.take' k).append (.cons hw (ly.drop' k)))) .non⟩)
noncomputable def bQ(hi:Int)(n:Nat):List D:=(Sl n).map fun(i:Nat)=>D.int (hi - (i:Int))
theorem X2(hi:Int)(n:Nat):(bQ hi n).length=n:=by simp[bQ]
theorem xZ{hi:Int}{n i:Nat}(h:i<n):(bQ hi n)[i]? = some (D.int (hi - (i:Int))):=by simp[bQ,h]
theorem wX{K:Ra}{H1:Hp}{hi:Int}{n:Nat}:kW K H1 (Itd hi n) (bQ hi n) (fun _=>True) where
 go:=fun i H' M' h k am st=>by rw[X2]at h;exact h
 yld:=fun i H' M' x H'' h k am st z=>by
  obtain⟨e,y⟩:=z
  subst e;subst y
  rw[X2]at h
  exact⟨_,xZ h,KT.refl _,am,.int _⟩
 stop:=fun i H' M' h k am st=>by rw[X2]at h;exact h
 up:=fun _ _ _ _ _=>trivial
def BN(ta:DTA):DTI:=fun e M R=>ta e M fun ds M1=>∃ j:Int,ds=[.int j]∧0≤j∧j<2 ^ 62∧R (bQ (j - 1) j.toNat) (fun _=>True) M1
theorem Bn{tg a:Expr}{ta:DTA}{p p2 pos2 pos:Pos}(g1:Gl X "reversed")(m1:X.mg "reversed" = none)(v1:bootBuiltins "reversed" = some (.type "reversed"))(g2:Gl X "range")(m2:X.mg "range" = none)(v2:bootBuiltins "range" = some (.type "range"))(ha:JA X [a] ta)
  (h1:starEach [a] X.env=(false,eval a X.env) :: starEach [] X.env:=by rfl) (h2:starEach [.Call (.Name "range" p2) [a] [] pos2] X.env=(false,eval (.Call (.Name "range" p2) [a] [] pos2) X.env) :: starEach [] X.env:=by rfl):JI X tg (.Call (.Name "reversed" p) [.Call (.Name "range" p2) [a] [] pos2] [] pos) (BN ta):=⟨have ha:=ha.out;PI.imp (Io g1 m1 v1 (gH (T6 BZ g2 m2 v2 ha (by decide) (by decide) h1) ou h2) h2) (by
  rintro σ H R ⟨e,M,R',ok,am,t,f⟩
  exact⟨e,M,_,ok,am,t,fun ds M1 z vs H1 k1 a1 r1=>by
   obtain⟨j,z,b1,b2,r⟩:=z
   subst z
   obtain⟨v,rfl,hv⟩:=r1.one
   cases hv
   exact⟨j,rfl,fun q hq hge=>⟨j,q,rfl,j7,b1,b2,f _ _ M1 r _ (k1.trans (KT.alloc hq)) (a1.alloc hq) _ wX⟩⟩⟩)⟩
end
noncomputable abbrev Y3:=Ev→Mem→(Bool→Mem→Prop)→Prop
abbrev MC(X:Cx)(ifs:List Expr)(t:Y3):Prop:=eZ X ifs (upT X.K t)
structure yk(X:Cx)(ifs:List Expr)(t:Y3):Prop where
 out:MC X ifs t
def Fm:Y3:=fun _ M R=>R true M
theorem eZ.imp{X:Cx}{ifs:List Expr}{t t':TT}(h:eZ X ifs t)(i:∀ σ H Q,t' σ H Q→t σ H Q):eZ X ifs t':=fun pins s σ H Q I q=>h pins s σ H Q I (i σ H Q q)
theorem A3{X:Cx}:yk X [] Fm:=⟨eZ.imp AB (by rintro σ H Q ⟨e,M,R,ok,am,t,f⟩;exact f true M t H (KT.refl H) am)⟩
theorem eW{X:Cx}{c:Expr}{t:DTT}(h:JT X c t):yk X [c] t:=⟨have h:=h.out;AA h⟩
structure mU(e0:Ev)(g:DTG)(tc:Y3)(te:DTE)(ds:List D)(stay:Mem→Prop)(M1:Mem)(E:List D→Mem→Prop)(W:Nat→List D→Mem→Prop):Prop where
 start:W 0 [] M1
 stays:∀ i ys M,i≤ds.length→W i ys M→stay M
 turn:∀(i:Nat) (d:D) ys M,ds[i]? = some d→W i ys M→g d e0 M fun e2 M2=>tc e2 M2 fun b M3=>if b=true then te e2 M3 fun v M4=>ys.length<sizeLine∧W (i+1) (ys++[v]) M4 else W (i+1) ys M3
 done:∀ ys M,W ds.length ys M→E ys M
def Hk(e0:Ev)(g:DTG)(tc:Y3)(te:DTE)(ds:List D)(stay:Mem→Prop)(M1:Mem)(R:DK):Prop:=∃ W,mU e0 g tc te ds stay M1 (fun ys M=>R (.vl ys) M) W
def Hl(e0:Ev)(g:DTG)(tc:Y3)(te:DTE)(ds:List D)(stay:Mem→Prop)(M1:Mem)(R:DK):Prop:=∃ W,mU e0 g tc te ds stay M1 (fun ys M=>∀ p,M p=none→R (.ref p) (B2 M p (.lst ys))) W
def uu(n:Nat)(caps:List Nat)(ti:DTI)(g:DTG)(tc:Y3)(te:DTE):DTE:=fun e M R=>ti e M fun ds stay M1=>Hk (kQ n caps e) g tc te ds stay M1 R
def uv(n:Nat)(caps:List Nat)(ti:DTI)(g:DTG)(tc:Y3)(te:DTE):DTE:=fun e M R=>ti e M fun ds stay M1=>Hl (kQ n caps e) g tc te ds stay M1 R
section
variable {X:Cx} {elt tg iter:Expr} {scope:Scope} {tgs cps:List Str} {caps:List Nat} {ti:DTI} {g:DTG} {tc:Y3} {te:DTE} {pos:Pos} {ifs:List Expr}
def CWH(K:Ra)(H1:Hp)(D0:Addr)(len:Nat)(W:Nat→List D→Mem→Prop)(i m:Nat)(H':Hp):Prop:=m=len - i∧i≤len∧∃ M' ys xs,KT H1 H'∧v6 K H' M'∧H' D0=some (.lst xs)∧M' D0=none∧HasL K H' xs ys∧W i ys M'
theorem bu{K:Ra}{H1:Hp}{J:It}{ds:List D}{stay:Mem→Prop}{M1:Mem}{n:Nat}{caps:List Nat}{σ:St}{e:Ev}{E:List D→Mem→Prop}{W:Nat→List D→Mem→Prop}{D0:Addr}{Qd:Hp→Prop}(ok:B7 K H1 σ e)(a1:v6 K H1 M1)(wk:kW K H1 J ds stay)(hD:H1 D0=none)
  (C:mU (kQ n caps e) g tc te ds stay M1 E W) (fin:∀ ys M xs H',KT H1 H'→v6 K H' M→H' D0=some (.lst xs)→M D0=none→HasL K H' xs ys→E ys M→Qd H') (i m:Nat) (H2:Hp) (w:CWH K H1 D0 ds.length W i m H2) :
  (J.stop i H2∧Qd H2)∨(J.go i H2∧∀ x H',J.yld i H2 x H'→(∃ p,zQ p (upG K g) x (pf n caps σ) H' fun σ2 H3=>∃ p,zP p (upT K tc) σ2 H3 fun b H3'=>if b=true then ∃ p,zR p (up K te) σ2 H3' fun v H4 =>
   ∃ ys,H4 D0=some (.lst ys)∧ys.length<sizeLine∧∃ m',m'<m∧CWH K H1 D0 ds.length W (i+1) m' (upd H4 D0 (.lst (ys++[v])))else ∃ m',m'<m∧CWH K H1 D0 ds.length W (i+1) m' H3')):=by
 obtain⟨rfl,hi,M2,ys,xs,k2,a2,hx,hM,lx,w2⟩:=w
 have a2':v6 K H2 (B2 M2 D0 (.lst ys)):=fun a o q=>by
  by_cases e:a=D0
  ·subst e;rw[g9]at q;cases q;exact⟨xs,hx,lx⟩
  ·rw[A2 e]at q;exact a2 a o q
 have st:=wk.up _ D0 (.lst ys) (C.stays i ys M2 hi w2) hM
 by_cases hlt:i<ds.length
 ·refine .inr ⟨wk.go i H2 _ hlt k2 a2' st,fun y H' yl=>?_⟩
  obtain⟨d,hd,k3,a3',r⟩:=wk.yld i H2 _ y H' hlt k2 a2' st yl
  obtain⟨xs',hx',lx'⟩:=a3'.lst g9
  have a3:v6 K H' M2:=fun a o q=>by
   have e:a≠D0:=by intro e;subst e;rw[hM]at q;cases q
   exact a3' a o (by rw[A2 e];exact q)
  have kh:KT H' (upd H' D0 (dQ D0 xs')):=KT.any hx'
  have k1h:=(k2.trans k3).trans kh
  have same:∀{H3:Hp},H3 D0=some (dQ D0 xs')→upd (upd H3 D0 (.lst xs')) D0 (dQ D0 xs')=H3:=fun{H3} q=>by
   rw[cY];funext b;by_cases e:b=D0
   ·subst e;rw[j7,q]
   ·rw[o7 e]
  refine⟨D0,xs',hx',d,kQ n caps e,M2,_,r.mono kh,Fh n caps (ok.mono k1h),a3.at kh.toKT0 hM,C.turn i d ys M2 hd w2,fun e3 M3 h3 σ3 H3 k4 a4 ok3=>?_⟩
  have q3:H3 D0=some (dQ D0 xs'):=k4.ex D0 _ j7
  refine⟨q3,D0,xs',j7,?_⟩
  rw[same q3]
  refine⟨e3,M3,_,ok3,a4,h3,fun b M4 h4 H4 k5 a5=>?_⟩
  have q4:H4 D0=some (dQ D0 xs'):=k5.ex D0 _ q3
  refine⟨q4,?_⟩
  have kk:=k1h.trans (k4.trans k5)
  cases b with
  | false =>
   have h4':W (i+1) ys M4:=h4
   show ∃ m',m'<ds.length - i∧CWH K H1 D0 ds.length W (i+1) m' (upd H4 D0 (.lst xs'))
   exact⟨ds.length - (i+1),by omega,rfl,hlt,M4,ys,xs',kk.new hD,a5.at (KT0.ext q4) (a5.none_ext q4),j7,a5.none_ext q4,(lx'.mono (kh.trans (k4.trans k5))).mono0 (KT0.ext q4),h4'⟩
  | true =>
   show ∃ p,zR p (up K te) σ3 (upd H4 D0 (.lst xs')) _
   refine⟨D0,xs',j7,?_⟩
   rw[same q4]
   refine⟨e3,M4,_,ok3.mono k5,a5,h4,fun dv M5 ⟨hz,w5⟩ vv H5 k6 a6 r6=>?_⟩
   have q5:H5 D0=some (dQ D0 xs'):=k6.ex D0 _ q4
   refine⟨q5,xs',j7,by rw[lx'.length];exact hz,ds.length - (i+1),by omega,rfl,hlt,M5,ys++[dv],xs'++[vv],?_,?_,j7,a6.none_ext q5,?_,w5⟩
   ·rw[cY];exact(kk.trans k6).new hD
   ·rw[cY];exact a6.at (KT0.ext q5) (a6.none_ext q5)
   ·rw[cY];exact((lx'.mono (kh.trans (k4.trans (k5.trans k6)))).mono0 (KT0.ext q5)).append (.cons (r6.mono0 (KT0.ext q5)) .nil)
 ·have e':i=ds.length:=by omega
  subst e'
  exact .inl ⟨wk.stop _ H2 _ (Rx _) k2 a2' st,fin ys M2 xs H2 k2 a2 hx hM lx (C.done ys M2 w2)⟩
theorem T8(caps:List Nat)(tgs cps:List Str)(hc:X.calm=true)(hcell:∀ x∈scope.names,x.2 ≠ .cell)(hkind:scope.kind = .function)(hnames:∀ x∈scope.names,x.2 = .local→scope.names.lookup x.1=some .local)
  (hfr:∀ x∈scope.names,x.2 = .free→x.1∈cps) (hN:caps.map (fun i=>X.N[i]?)=cps.map some) (hX:∀ x∈cps,X.env.scope.names.lookup x=some .cell∧scope.names.lookup x=some .free)
  (hsc:∀ x∈cps,(relabel scope X.env).names.lookup x=some .cell∨(relabel scope X.env).names.lookup x=some .free)
  (hi:JI X tg iter ti) (hg:∀ cl s3 H3 C fp pins,JG (cxF X scope cl (tgs++cps) s3 H3 C fp pins) tg g) (hq:∀ cl s3 H3 C fp pins,yk (cxF X scope cl (tgs++cps) s3 H3 C fp pins) ifs tc) (he:∀ cl s3 H3 C fp pins,JE (cxF X scope cl (tgs++cps) s3 H3 C fp pins) elt te)
  (hs:∀ x,foldedSetIterable iter X.env x=pure x:=by intro _;rfl):JE X (.ListComp elt [⟨tg,iter,ifs,0⟩] scope pos) (uu tgs.length caps ti g tc te):=⟨have hi:=hi.out;have hg:=fun v0 v1 v2 v3 v4 v5=>(hg v0 v1 v2 v3 v4 v5).out;have hq:=fun v0 v1 v2 v3 v4 v5=>(hq v0 v1 v2 v3 v4 v5).out;have he:=fun v0 v1 v2 v3 v4 v5=>(he v0 v1 v2 v3 v4 v5).out;(cG (qY (tgs:=tgs) (cps:=cps) (caps:=caps) hc hcell hkind hnames hfr hN hX hsc hi (fun cl s3 H3 C fp pins=>gE (hg cl s3 H3 C fp pins)) (fun cl s3 H3 C fp pins=>bg (hq cl s3 H3 C fp pins)) (fun cl s3 H3 C fp pins=>gG (he cl s3 H3 C fp pins)) hs)).imp (by rintro σ H Q ⟨e,M,R,ok,am,t,f⟩;exact⟨e,M,_,ok,am,t,fun ds stay M1 hW H1 k1 a1 J wk=>by
  intro D0 hD
  obtain⟨W,C⟩:=hW
  refine⟨fun i m H'=>CWH X.K H1 D0 ds.length W i m H',⟨ds.length,by simp,Sb _,M1,[],[],KT.alloc hD,a1.alloc hD,j7,a1.fresh hD,.nil,C.start⟩,fun i m H2 w=>bu (Qd:=fun H'=>∃ p xs,V.ref D0 = .ref p∧H' p=some (.lst xs)∧∀ o,Q (.ref D0) (upd H' p (.frz o (.lst xs)))) (ok.mono k1) a1 wk hD C (fun ys M2 xs H' k2 a2 hx hM lx r=>?_) i m H2 w⟩
  exact⟨D0,xs,rfl,hx,fun o=>f _ M2 r _ _ (k1.trans (k2.trans (KT.any hx))) (a2.at (KT.any hx).toKT0 hM) (.vl (.inl ⟨o,j7⟩) (lx.mono (KT.any hx)))⟩⟩)⟩
theorem jF(caps:List Nat)(tgs cps:List Str)(hc:X.calm=true)(hcell:∀ x∈scope.names,x.2 ≠ .cell)(hkind:scope.kind = .function)(hnames:∀ x∈scope.names,x.2 = .local→scope.names.lookup x.1=some .local)
  (hfr:∀ x∈scope.names,x.2 = .free→x.1∈cps) (hN:caps.map (fun i=>X.N[i]?)=cps.map some) (hX:∀ x∈cps,X.env.scope.names.lookup x=some .cell∧scope.names.lookup x=some .free)
  (hsc:∀ x∈cps,(relabel scope X.env).names.lookup x=some .cell∨(relabel scope X.env).names.lookup x=some .free)
  (hi:JI X tg iter ti) (hg:∀ cl s3 H3 C fp pins,JG (cxF X scope cl (tgs++cps) s3 H3 C fp pins) tg g) (hq:∀ cl s3 H3 C fp pins,yk (cxF X scope cl (tgs++cps) s3 H3 C fp pins) ifs tc) (he:∀ cl s3 H3 C fp pins,JE (cxF X scope cl (tgs++cps) s3 H3 C fp pins) elt te)
  (hs:∀ x,foldedSetIterable iter X.env x=pure x:=by intro _;rfl):JE X (.ListComp elt [⟨tg,iter,ifs,0⟩] scope pos) (uv tgs.length caps ti g tc te):=⟨have hi:=hi.out;have hg:=fun v0 v1 v2 v3 v4 v5=>(hg v0 v1 v2 v3 v4 v5).out;have hq:=fun v0 v1 v2 v3 v4 v5=>(hq v0 v1 v2 v3 v4 v5).out;have he:=fun v0 v1 v2 v3 v4 v5=>(he v0 v1 v2 v3 v4 v5).out;(qY (tgs:=tgs) (cps:=cps) (caps:=caps) hc hcell hkind hnames hfr hN hX hsc hi (fun cl s3 H3 C fp pins=>gE (hg cl s3 H3 C fp pins)) (fun cl s3 H3 C fp pins=>bg (hq cl s3 H3 C fp pins)) (fun cl s3 H3 C fp pins=>gG (he cl s3 H3 C fp pins)) hs).imp (by rintro σ H Q ⟨e,M,R,ok,am,t,f⟩;exact⟨e,M,_,ok,am,t,fun ds stay M1 hW H1 k1 a1 J wk=>by
  intro D0 hD
  obtain⟨W,C⟩:=hW
  refine⟨fun i m H'=>CWH X.K H1 D0 ds.length W i m H',⟨ds.length,by simp,Sb _,M1,[],[],KT.alloc hD,a1.alloc hD,j7,a1.fresh hD,.nil,C.start⟩,fun i m H2 w=>bu (ok.mono k1) a1 wk hD C (fun ys M2 xs H' k2 a2 hx hM lx r=>?_) i m H2 w⟩
  refine f _ _ (r D0 hM) _ _ (k1.trans k2) (fun a o q=>?_) (.ref D0)
  by_cases e:a=D0
  ·subst e;rw[g9]at q;cases q;exact⟨xs,hx,lx⟩
  ·rw[A2 e]at q;exact a2 a o q⟩)⟩
theorem C7{i:Nat}{x:Str}{pos' pos2:Pos}(caps:List Nat)(tgs cps:List Str)(hNd:X.N.Nodup)(hxi:X.N[i]? = some x)(hx:Loc X.env.scope x)(hc:X.calm=true)(hcell:∀ x∈scope.names,x.2 ≠ .cell)(hkind:scope.kind = .function)(hnames:∀ x∈scope.names,x.2 = .local→scope.names.lookup x.1=some .local)
  (hfr:∀ x∈scope.names,x.2 = .free→x.1∈cps) (hN:caps.map (fun i=>X.N[i]?)=cps.map some) (hX:∀ x∈cps,X.env.scope.names.lookup x=some .cell∧scope.names.lookup x=some .free)
  (hsc:∀ x∈cps,(relabel scope X.env).names.lookup x=some .cell∨(relabel scope X.env).names.lookup x=some .free)
  (hi:JI X tg iter ti) (hg:∀ cl s3 H3 C fp pins,JG (cxF X scope cl (tgs++cps) s3 H3 C fp pins) tg g) (hq:∀ cl s3 H3 C fp pins,yk (cxF X scope cl (tgs++cps) s3 H3 C fp pins) ifs tc) (he:∀ cl s3 H3 C fp pins,JE (cxF X scope cl (tgs++cps) s3 H3 C fp pins) elt te)
  (hsw:swapsWith (.ListComp elt [⟨tg,iter,ifs,0⟩] scope pos) (some (.Name x pos')) pos2.line X.env=pure true:=by rfl) (hs:∀ x,foldedSetIterable iter X.env x=pure x:=by intro _;rfl) (hf:X.fn x=true∨X.env.scope.names.lookup x=some .local:=by first|exact .inl rfl|exact .inr rfl|assumption):JS X (.Assign [.Name x pos'] (.ListComp elt [⟨tg,iter,ifs,0⟩] scope pos) pos2) (yc (uu tgs.length caps ti g tc te) (cQ i)):=⟨have hi:=hi.out;have hg:=fun v0 v1 v2 v3 v4 v5=>(hg v0 v1 v2 v3 v4 v5).out;have hq:=fun v0 v1 v2 v3 v4 v5=>(hq v0 v1 v2 v3 v4 v5).out;have he:=fun v0 v1 v2 v3 v4 v5=>(he v0 v1 v2 v3 v4 v5).out;(vW (Ia (qV (tgs:=tgs) (cps:=cps) (caps:=caps) hc hcell hkind hnames hfr hN hX hsc hi (fun cl s3 H3 C fp pins=>gE (hg cl s3 H3 C fp pins)) (fun cl s3 H3 C fp pins=>bg (hq cl s3 H3 C fp pins)) (fun cl s3 H3 C fp pins=>gG (he cl s3 H3 C fp pins)) hNd hxi hx hf hs)) hsw).imp (by rintro E σ H ⟨e,M,F,ok,am,t,f⟩;exact⟨e,M,_,ok,am,t,fun ds stay M1 hW H1 k1 a1 J wk=>by
  intro D0 hD
  obtain⟨W,C⟩:=hW
  refine⟨fun i m H'=>CWH X.K H1 D0 ds.length W i m H',⟨ds.length,by simp,Sb _,M1,[],[],KT.alloc hD,a1.alloc hD,j7,a1.fresh hD,.nil,C.start⟩,fun j m H2 w=>bu (Qd:=fun H'=>∃ p xs,V.ref D0 = .ref p∧H' p=some (.lst xs)∧∀ o,E.nx (σ.set i (some (.ref D0))) (upd H' p (.frz o (.lst xs)))) (ok.mono k1) a1 wk hD C (fun ys M2 xs H' k2 a2 hx hM lx r=>?_) j m H2 w⟩
  exact⟨D0,xs,rfl,hx,fun o=>f.nx _ M2 r _ _ (k1.trans (k2.trans (KT.any hx))) (a2.at (KT.any hx).toKT0 hM) ((ok.mono (k1.trans (k2.trans (KT.any hx)))).set (.vl (.inl ⟨o,j7⟩) (lx.mono (KT.any hx))) i)⟩⟩)⟩
theorem oQ{i:Nat}{x:Str}{pos' pos2:Pos}(caps:List Nat)(tgs cps:List Str)(hNd:X.N.Nodup)(hxi:X.N[i]? = some x)(hx:Loc X.env.scope x)(hc:X.calm=true)(hcell:∀ x∈scope.names,x.2 ≠ .cell)(hkind:scope.kind = .function)(hnames:∀ x∈scope.names,x.2 = .local→scope.names.lookup x.1=some .local)
  (hfr:∀ x∈scope.names,x.2 = .free→x.1∈cps) (hN:caps.map (fun i=>X.N[i]?)=cps.map some) (hX:∀ x∈cps,X.env.scope.names.lookup x=some .cell∧scope.names.lookup x=some .free)
  (hsc:∀ x∈cps,(relabel scope X.env).names.lookup x=some .cell∨(relabel scope X.env).names.lookup x=some .free)
  (hi:JI X tg iter ti) (hg:∀ cl s3 H3 C fp pins,JG (cxF X scope cl (tgs++cps) s3 H3 C fp pins) tg g) (hq:∀ cl s3 H3 C fp pins,yk (cxF X scope cl (tgs++cps) s3 H3 C fp pins) ifs tc) (he:∀ cl s3 H3 C fp pins,JE (cxF X scope cl (tgs++cps) s3 H3 C fp pins) elt te)
  (hsw:swapsWith (.ListComp elt [⟨tg,iter,ifs,0⟩] scope pos) (some (.Name x pos')) pos2.line X.env=pure true:=by rfl) (hs:∀ x,foldedSetIterable iter X.env x=pure x:=by intro _;rfl) (hf:X.fn x=true∨X.env.scope.names.lookup x=some .local:=by first|exact .inl rfl|exact .inr rfl|assumption):JS X (.Assign [.Name x pos'] (.ListComp elt [⟨tg,iter,ifs,0⟩] scope pos) pos2) (yc (uv tgs.length caps ti g tc te) (cQ i)):=⟨have hi:=hi.out;have hg:=fun v0 v1 v2 v3 v4 v5=>(hg v0 v1 v2 v3 v4 v5).out;have hq:=fun v0 v1 v2 v3 v4 v5=>(hq v0 v1 v2 v3 v4 v5).out;have he:=fun v0 v1 v2 v3 v4 v5=>(he v0 v1 v2 v3 v4 v5).out;(vW (qV (tgs:=tgs) (cps:=cps) (caps:=caps) hc hcell hkind hnames hfr hN hX hsc hi (fun cl s3 H3 C fp pins=>gE (hg cl s3 H3 C fp pins)) (fun cl s3 H3 C fp pins=>bg (hq cl s3 H3 C fp pins)) (fun cl s3 H3 C fp pins=>gG (he cl s3 H3 C fp pins)) hNd hxi hx hf hs) hsw).imp (by rintro E σ H ⟨e,M,F,ok,am,t,f⟩;exact⟨e,M,_,ok,am,t,fun ds stay M1 hW H1 k1 a1 J wk=>by
  intro D0 hD
  obtain⟨W,C⟩:=hW
  refine⟨fun i m H'=>CWH X.K H1 D0 ds.length W i m H',⟨ds.length,by simp,Sb _,M1,[],[],KT.alloc hD,a1.alloc hD,j7,a1.fresh hD,.nil,C.start⟩,fun j m H2 w=>bu (Qd:=fun H'=>E.nx (σ.set i (some (.ref D0))) H') (ok.mono k1) a1 wk hD C (fun ys M2 xs H' k2 a2 hx hM lx r=>?_) j m H2 w⟩
  refine f.nx _ _ (r D0 hM) _ _ (k1.trans k2) (fun a o q=>?_) ((ok.mono (k1.trans k2)).set (.ref D0) i)
  by_cases e:a=D0
  ·subst e;rw[g9]at q;cases q;exact⟨xs,hx,lx⟩
  ·rw[A2 e]at q;exact a2 a o q⟩)⟩
end
section
variable {X:Cx} {e:Expr} {te:DTE} {p1 p2 pos pos2:Pos}
theorem SqL.upd{K:Ra}{H:Hp}{a it:Addr}{xs:List V}{o:HO}(h:SqL K H a xs)(ne:a≠it):SqL K (upd H it o) a xs:=h.elim (fun z=>.inl (by unfold Rd at z ⊢;rw[o7 ne];exact z)) .inr
theorem SqK.upd{K:Ra}{k:Bool}{H:Hp}{a it:Addr}{xs:List V}{o:HO}(h:SqK K k H a xs)(ne:a≠it):SqK K k (L2.upd H it o) a xs:=by
 cases k with
 | true=>exact SqL.upd (show SqL K H a xs from h) ne
 | false=>exact(show SqT K H a xs from h).elim (fun z=>.inl (by unfold Rd at z ⊢;rw[o7 ne];exact z)) .inr
def wt(x:D)(M:Mem)(R:DK):Prop:=∃ ds,B8 M x ds∧R (.vl ds.reverse) M
def GQ(te:DTE):DTE:=fun e M R=>te e M fun x M1=>wt x M1 R
theorem rN(hc:X.calm=true)(g1:Gl X "list")(m1:X.mg "list" = none)(v1:bootBuiltins "list" = some (.type "list"))(g2:Gl X "reversed")(m2:X.mg "reversed" = none)(v2:bootBuiltins "reversed" = some (.type "reversed"))(he:JE X e te)
  (h1:starEach [e] X.env=(false,eval e X.env) :: starEach [] X.env:=by rfl) (h2:starEach [.Call (.Name "reversed" p2) [e] [] pos2] X.env=(false,eval (.Call (.Name "reversed" p2) [e] [] pos2) X.env) :: starEach [] X.env:=by rfl):JE X (.Call (.Name "list" p1) [.Call (.Name "reversed" p2) [e] [] pos2] [] pos) (GQ te):=⟨have he:=he.out;(cG (T6 (rY hc) g1 m1 v1 (gH (T6 pb g2 m2 v2 (gH he ou h1) (by decide) (by decide) h1) ou h2) (by decide) (by decide) h2)).imp (by rintro σ H Q ⟨e,M,R,ok,am,t,f⟩;exact⟨e,M,_,ok,am,t,fun x M1 ⟨ds,hi,r⟩ v H1 k1 a1 r1=>by
  obtain⟨a,xs,rfl,sq,lx⟩:=A0 hi a1 r1
  refine⟨a,fD x,xs,rfl,sq,fun it hit hne hge=>⟨it,a,fD x,xs,rfl,j7,SqK.upd sq (Ne.symm hne),Ne.symm hne,hge,fun p hp=>?_⟩⟩
  have q1:p≠it:=fun z=>by rw[z,j7]at hp;cases hp
  rw[o7 q1]at hp
  have e1:∀ o u,jL (L2.upd (L2.upd H1 it o) p u) it=L2.upd H1 p u:=fun o u=>by
   funext b
   by_cases z:b=it
   ·subst z;rw[jJ,o7 (Ne.symm q1),hit]
   ·rw[jK z]
    by_cases y:b=p
    ·subst y;rw[j7,j7]
    ·rw[o7 y,o7 y,o7 z]
  rw[e1]
  exact bq f k1 a1 lx.rev r p hp⟩)⟩
def BQ(n:Nat)(t:aG):DTG:=fun d e M R=>∃ ds,az M d=some ds∧ds.length=n∧t ds e M R
theorem jE{xs:List Expr}{k:Nat}{t:aG}{n:Nat}(hc:X.calm=true)(h:JGs X xs t)
  (hn:(assignEach xs X.env).length=n:=by rfl) (hst:(assignEach xs X.env).findIdx? (·.1)=none:=by rfl):JG X (.Tuple xs k pos) (BQ n t):=⟨have h:=h.out;PG.imp (Ek hc h hn hst) (by
  rintro v σ H Q ⟨d,e,M,R,r,ok,am,⟨ds,hi,hl,g⟩,f⟩
  obtain⟨a,xs,e1,sq,lx⟩:=K5 am r hi
  exact⟨a,xs,e1,sq,by rw[lx.length];exact hl,ds,e,M,R,lx,ok,am,g,f⟩)⟩
def CC(ds:List D)(M:Mem)(Q:List D→(Mem→Prop)→Mem→Prop):Prop:=∃ xs,ds=[.vl xs]∧Q xs.reverse (fun _=>True) M
def BP(ta:DTA):DTI:=fun e M Q=>ta e M fun ds M1=>CC ds M1 Q
theorem wY{K:Ra}{H1:Hp}{a:Addr}{xs:List V}{ds:List D}(h:Has K H1 (.ref a) (.vl ds))(lx:HasL K H1 xs ds):kW K H1 (Itb K a xs.length) ds.reverse (fun _=>True) where
 go:=fun i H' M' hi k am _=>by
  rw[RQ,← lx.length]at hi
  obtain⟨a',ys,e,sq',l'⟩:=(h.mono k).il
  cases e
  have hy:ys.length=xs.length:=by rw[l'.length,lx.length]
  exact⟨hi,ys,_,sq',Rr (by omega)⟩
 yld:=fun i H' M' x H'' hi k am _ q=>by
  obtain⟨e,y⟩:=q
  subst e
  rw[RQ,← lx.length]at hi
  obtain⟨a',ys,e,sq',l'⟩:=(h.mono k).il
  cases e
  obtain⟨d,hd,r⟩:=l'.getV (y ys sq')
  refine⟨d,?_,KT.refl _,am,r⟩
  rw[UQ (by rw[← lx.length];exact hi),← lx.length]
  exact hd
 stop:=fun i H' M' hi k am _=>by
  rw[RQ,← lx.length]at hi
  exact hi
 up:=fun _ _ _ _ _=>trivial
theorem Bo{tg a:Expr}{ta:DTA}{p pos:Pos}(g1:Gl X "reversed")(m1:X.mg "reversed" = none)(v1:bootBuiltins "reversed" = some (.type "reversed"))(ha:JA X [a] ta)
  (hs:starEach [a] X.env=[(false,eval a X.env)]:=by rfl):JI X tg (.Call (.Name "reversed" p) [a] [] pos) (BP ta):=⟨have ha:=ha.out;PI.imp (Ei g1 m1 v1 ha hs) (by
  rintro σ H R ⟨e,M,R',ok,am,t,f⟩
  exact⟨e,M,_,ok,am,t,fun ds M1 z vs H1 k1 a1 r1=>by
   obtain⟨xs,rfl,r⟩:=z
   obtain⟨v,rfl,hv⟩:=r1.one
   obtain⟨a,ws,e1,sq,lx⟩:=hv.il
   subst e1
   exact⟨a,ws,rfl,sq,f _ _ M1 r H1 k1 a1 _ (wY hv lx)⟩⟩)⟩
end
end DL
namespace L2
open PySem PySem.Spec PyProof.Rows
section
variable {X:Cx} {pos:Pos}
end
end L2
namespace DL
open PySem PySem.Spec L2
open PyProof.Rows hiding St
section
variable {X:Cx}
end
section
variable {X:Cx}
end
section
variable {X:Cx} {a b c:Expr} {ta tb tc:DTE} {pos:Pos}
end
section
variable {K:Ra}
end
section
variable {X:Cx} {x:Expr} {t:DTE}
end
noncomputable def LB(X:Cx):St:=Tf X.N.length none
def Cov(B s0:Heap)(H':Hp)(fs:List Addr)(h:Heap):Prop:=∀ b o,h.get? b=some o→((∃ u,H' b=some u) ∨ ∃ o0,s0.get? b=some o0)→b∉fs→B.get? b=some o
def CXr(P:Program)(w:World)(base:Heap):CXT:=fun outer H s E e s'=>∃ a cls a0 H' B,e = .ref a∧s'.os=s.os∧AllBare s'.gens∧Un (frs outer) [] H H' s.heap s'.heap∧HOk P w H' s'.heap∧KT H H' ∧
 base.StaysIn B∧Cov B s.heap H' (frs outer) s'.heap∧Heap.FlyingW B outer a cls a0 s'.heap∧E cls none H'
noncomputable def XP(X:Cx)(mk:Bool)(EX:Value→Hp→Prop):Value→Shared→Prop:=fun e s' =>
 (mk=true∧∃ a cls h vs H',e = .ref a∧EX cls H'∧Heap.MadeExcOf h s'.heap a cls vs∧Inv X [] (LB X) H' { s' with heap:=h }) ∨
 (∃ pins σ Hc sc,Inv X pins σ Hc sc∧CXr X.prog X.w X.base X.stack Hc sc (fun cls _ H'=>EX cls H') e s')
section
variable {P:Program} {w:World} {K:Ra} {mg:Str→Option Value} {base:Heap} {N:List Str} {qual:Str} {scope:Scope} {f:Addr} {cd:Value} {A:Around} {outer:List Env} {s:Shared} {H:Hp} {E:XK}
end
noncomputable def xN(x:Str):Value:=.str x 0
noncomputable def Ny(X:Cx)(H₀:Hp)(Y:DXK):Value→Hp→Prop:=fun c H'=>KT H₀ H'∧∃(x:Str) (C:Addr) (M':Mem),c = .ref C∧X.mg x=some (.ref C)∧v6 X.K H' M'∧Y (xN x) M'
noncomputable abbrev Cx.ex'(X:Cx)(mk:Bool)(H₀:Hp)(Y:DXK):Cx:=X.wish (XP X mk (Ny X H₀ Y))
section
variable {X:Cx} {mk:Bool} {H₀:Hp} {Y:DXK} {st:Stmt} {E8:List Stmt} {t u:DTS} {pos:Pos}
end
section
variable {P:Program} {w:World} {K:Ra} {mg:Str→Option Value} {base:Heap}
end
section
variable {X:Cx} {mk:Bool} {H₀:Hp} {Y:DXK} {pos cpos:Pos} {x:Str} {j:Nat} {ps:List Str} {sp:DSp} {p:Pos} {e:Expr} {es:List Expr} {t:DTA}
end
section
variable {X:Cx} {mk:Bool} {H₀:Hp} {Y:DXK} {pos:Pos} {e:Expr} {te:DTE}
end
section
variable {X:Cx} {H₀:Hp} {Y:DXK} {pos cpos np:Pos} {x:Str} {e₀:Expr} {te:DTE}
end
noncomputable abbrev Cx.pinned(X:Cx)(pn:List (Addr × Obj)):Cx:={ X with pn:=pn }
section
variable {X:Cx} {pins pn:List (Addr × Obj)} {σ:St} {H:Hp} {s:Shared}
end
section
variable {X:Cx} {body suite:List Stmt} {b0:Stmt} {c:Str} {np hpos pos:Pos} {tb:DXK→DTS} {ts:DTS}
end
section
variable {X:Cx} {body suite:List Stmt} {b0:Stmt} {c:Str} {np hpos pos:Pos} {tb:DXK→DTS} {ts:DTS}
end
end DL
namespace DL
open PySem PySem.Spec L2
def BlK(x:D)(M:Mem)(Q:Bool→Mem→Prop):Prop:=∃ k,x = .bl k∧Q k M
def IfK(c:Bool)(A B:Prop):Prop:=if c=true then A else B
def SzK(n:Nat)(A:Prop):Prop:=n≤sizeLine∧A
def Mx(i j:Nat)(ds:List D)(F:bR)(e:Ev)(M:Mem):Prop:=∃ x y,ds=[x,y]∧F.nx ((e.set i (some x)).set j (some y)) M
def JD(x:D)(M:Mem)(Q:List D→(Mem→Prop)→Mem→Prop):Prop:=∃ ds,B8 M x ds∧Q ds (fun M'=>B8 M' x ds) M
def Cz(xs:List D)(M:Mem)(Q:List D→(Mem→Prop)→Mem→Prop):Prop:=∃ x ds,xs=[x]∧B8 M x ds∧Q (U1 ds) (fun M'=>B8 M' x ds) M
def Cq(xs:List D)(M:Mem)(Q:List D→(Mem→Prop)→Mem→Prop):Prop:=∃ x y ds es,xs=[x,y]∧B8 M x ds∧B8 M y es∧Q (bx ds es) (fun M'=>B8 M' x ds∧B8 M' y es) M
def Mw(xs:List D)(M:Mem)(Q:List D→(Mem→Prop)→Mem→Prop):Prop:=∃ j:Int,xs=[.int j]∧-(2 ^ 62)≤j∧j<2 ^ 62∧Q (M6 0 j.toNat) (fun _=>True) M
def Hh(xs:List D)(M:Mem)(Q:List D→(Mem→Prop)→Mem→Prop):Prop:=∃ j:Int,xs=[.int j]∧0≤j∧j<2 ^ 62∧Q (bQ (j - 1) j.toNat) (fun _=>True) M
def Hg(xs:List D)(M:Mem)(Q:List D→(Mem→Prop)→Mem→Prop):Prop:=∃ i j:Int,xs=[.int i,.int j]∧(-(2 ^ 62)≤i∧i<2 ^ 62∧-(2 ^ 62)≤j∧j<2 ^ 62)∧Q (M6 i (j - i).toNat) (fun _=>True) M
def R4(g:DTG)(tb:DTS)(F:bR)(ds:List D)(stay:Mem→Prop)(e:Ev)(M1:Mem):Prop:=∃ W:Nat→Ev→Mem→Prop,W 0 e M1∧(∀ i e M,i≤ds.length→W i e M→stay M) ∧
 (∀(i:Nat) (d:D) e M,ds[i]? = some d→W i e M→g d e M fun e2 M2=>tb { F with nx:=W (i+1),ct:=W (i+1),bk:=F.nx } e2 M2)∧∀ e M,W ds.length e M→F.nx e M
def MA(x:D)(M1:Mem)(R:DK):Prop:=∃ p ds,x = .ref p∧M1 p=some (.lst ds)∧R (.vl ds) (bG M1 p)
def Hi(x:D)(M:Mem)(Q:Option Int→Mem→Prop):Prop:=∃ i,x = .int i∧Q (some i) M
def MB(x:D)(M1:Mem)(R:DK):Prop:=∃ M2:Mem,(∀ b o,M2 b=some o→M1 b=some o)∧R x M2
def LMK(x:D)(M:Mem)(A:Prop):Prop:=(∃ l ds,x = .ref l∧M l=some (.lst ds))∧A
end DL
namespace DL
open PySem PySem.Spec L2
open PyProof.Rows hiding St
section
variable {e:Ev} {M:Mem} {R:DK} {F:bR} {ta tb tc:DTE} {tA tB:DTT} {tr:DTA} {t u:DTS}
theorem z_C{d:D}:dC d e M R=R d M:=rfl
theorem KG{g:DR2}:dOp g ta tb e M R=ta e M fun x M1=>tb e M1 fun y M2=>g x y M2 R:=rfl
theorem KC{g:D→Mem→DK→Prop}:dUn g ta e M R=ta e M fun x M1=>g x M1 R:=rfl
theorem Kz{f:Int→Int→D}{i j:Int}:gF (fI f) (.int i) (.int j) M R=R (f i j) M:=propext ⟨fun zz=>by obtain⟨_,h,r⟩:=zz;cases h;exact r,fun r=>⟨_,rfl,r⟩⟩
theorem KA{f:Bool→Bool→D}{i j:Bool}:gF (fB f) (.bl i) (.bl j) M R=R (f i j) M:=propext ⟨fun zz=>by obtain⟨_,h,r⟩:=zz;cases h;exact r,fun r=>⟨_,rfl,r⟩⟩
theorem Ky{f:Str→Str→D}{i j:Str}:gF (fS f) (.str i) (.str j) M R=R (f i j) M:=propext ⟨fun zz=>by obtain⟨_,h,r⟩:=zz;cases h;exact r,fun r=>⟨_,rfl,r⟩⟩
theorem Kx{C:Int→Int→Prop}{f:Int→Int→D}{i j:Int}:gI C f (.int i) (.int j) M R=(C i j∧R (f i j) M):=propext ⟨fun zz=>by obtain⟨_,_,h1,h2,c,r⟩:=zz;cases h1;cases h2;exact⟨c,r⟩,fun⟨c,r⟩=>⟨_,_,rfl,rfl,c,r⟩⟩
theorem Kw{f:Int→D}{i:Int}:gU f (.int i) M R=R (f i) M:=propext ⟨fun zz=>by obtain⟨_,h,r⟩:=zz;cases h;exact r,fun r=>⟨_,rfl,r⟩⟩
theorem yQ{Q:Bool→Mem→Prop}:rW ta e M Q=ta e M fun x M'=>BlK x M' Q:=rfl
theorem cX{b:Bool}{Q:Bool→Mem→Prop}:BlK (.bl b) M Q=Q b M:=propext ⟨fun zz=>by obtain⟨_,h,r⟩:=zz;cases h;exact r,fun r=>⟨_,rfl,r⟩⟩
theorem Gw{Q:Bool→Mem→Prop}:Mo tA tB e M Q=tA e M fun c M1=>IfK c (tB e M1 Q) (Q false M1):=rfl
theorem KD{Q:Bool→Mem→Prop}:dOr tA tB e M Q=tA e M fun c M1=>IfK c (Q true M1) (tB e M1 Q):=rfl
theorem Gg{Q:Bool→Mem→Prop}:Mg tA e M Q=tA e M fun c M1=>Q (!c) M1:=rfl
theorem zu:Ha ta tb e M R=ta e M fun x M1=>BlK x M1 fun c M1=>IfK c (tb e M1 R) (R (.bl false) M1):=rfl
theorem Gf:Mf ta tb e M R=ta e M fun x M1=>BlK x M1 fun c M1=>IfK c (R (.bl true) M1) (tb e M1 R):=rfl
theorem yX:GS ta e M R=ta e M fun x M1=>BlK x M1 fun c M1=>R (.bl (!c)) M1:=rfl
theorem KJ:dIf tA ta tb e M R=tA e M fun c M1=>IfK c (ta e M1 R) (tb e M1 R):=rfl
theorem Gm:Mk tA t u F e M=tA e M fun c M1=>IfK c (t F e M1) (u F e M1):=rfl
theorem Gh{Q:List D→Mem→Prop}:Mh e M Q=Q [] M:=rfl
theorem zk{Q:List D→Mem→Prop}:GY ta tr e M Q=ta e M fun x M1=>tr e M1 fun xs M2=>Q (x :: xs) M2:=rfl
theorem FZ:Ma tr e M R=tr e M fun ds M1=>SzK ds.length (R (.tup ds) M1):=rfl
theorem Gj:Mi tr e M R=tr e M fun ds M1=>SzK ds.length (∀ p,M1 p=none→R (.ref p) (B2 M1 p (.lst ds))):=rfl
theorem bz{x y z:D}(h:ixD M x y=some z):gIx x y M R=R z M:=propext ⟨fun zz=>by obtain⟨_,h',r⟩:=zz;rw[h]at h';cases h';exact r,fun r=>⟨_,h,r⟩⟩
theorem bU{neg:Bool}{x y:D}{b:Bool}(h:isD x y=some b):gIs neg x y M R=R (.bl (neg.xor b)) M:=propext ⟨fun zz=>by obtain⟨_,h',r⟩:=zz;rw[h]at h';cases h';exact r,fun r=>⟨_,h,r⟩⟩
theorem Gu{neg:Bool}{x y:D}:Jl neg x y M R=(cl 60 x=true∧cl 60 y=true∧R (.bl (neg.xor (@decide (x=y) (RJ _)))) M):=rfl
theorem zp{sp:DSp}{dds:List D}{Y:DXK}:wI sp dds Y tr e M R=tr e M fun ds M1=>sp (ds++dds) M1 R Y:=rfl
theorem KN{g:DRC}:dCB g tr e M R=tr e M fun ds M1=>g ds M1 R:=rfl
theorem yY:GU F e M=F.nx e M:=rfl
theorem Gb:Jt t u F e M=t { F with nx:=u F } e M:=rfl
theorem zj:GX ta F e M=ta e M fun _ M1=>F.nx e M1:=rfl
theorem Gd:Md ta F e M=ta e M F.rt:=rfl
theorem vt:BV F e M=False:=rfl
variable {Q:Ev→Mem→Prop}
theorem vc{i:Nat}{d:D}:cQ i d e M Q=Q (e.set i (some d)) M:=rfl
theorem yP:GO [] e M Q=Q e M:=propext ⟨fun h=>h.2,fun h=>⟨rfl,h⟩⟩
theorem vd{g:DTG}{gs:aG}{d:D}{ds:List D}:BR g gs (d :: ds) e M Q=g d e M fun e' M'=>gs ds e' M' Q:=propext ⟨fun zz=>by obtain⟨_,_,h,r⟩:=zz;cases h;exact r,fun r=>⟨_,_,rfl,r⟩⟩
theorem qa{n:Nat}{gs:aG}{ds:List D}(h:ds.length=n):BQ n gs (.vl ds) e M Q=gs ds e M Q:=propext ⟨fun zz=>by obtain⟨_,h',_,r⟩:=zz;cases h';exact r,fun r=>⟨_,rfl,h,r⟩⟩
theorem iD{n:Nat}{gs:aG}{ds:List D}(h:ds.length=n):rV n gs (.tup ds) e M Q=gs ds e M Q:=propext ⟨fun zz=>by obtain⟨_,h',_,r⟩:=zz;cases h';exact r,fun r=>⟨_,rfl,h,r⟩⟩
theorem yO{to ti:DTE}{ts:CA}{d:D}:GN to ti ts d e M Q=to e M fun o M1=>ti e M1 fun i M2=>ts o i d M2 fun M3=>Q e M3:=rfl
theorem Gv{g:DTG}:yc ta g F e M=ta e M fun x M1=>g x e M1 F.nx:=rfl
theorem Ge{i j:Nat}:Me i j tr F e M=tr e M fun ds M1=>Mx i j ds F e M1:=rfl
theorem yW{i j:Nat}{x y:D}:Mx i j [x,y] F e M=F.nx ((e.set i (some x)).set j (some y)) M:=propext ⟨fun zz=>by obtain⟨_,_,h,r⟩:=zz;cases h;exact r,fun r=>⟨_,_,rfl,r⟩⟩
theorem Gx{i:Int}:LV [.int i] M R=R (.int (i.natAbs:Int)) M:=propext ⟨fun zz=>by obtain⟨_,h,r⟩:=zz;cases h;exact r,fun r=>⟨_,rfl,r⟩⟩
theorem Gi{i j:Int}:LP [.int i,.int j] M R=R (.int (max i j)) M:=propext ⟨fun zz=>by obtain⟨_,_,h,r⟩:=zz;cases h;exact r,fun r=>⟨_,_,rfl,r⟩⟩
theorem qm{d:D}{n:Nat}(h:Bf M d=some n):xX [d] M R=R (.int (n:Int)) M:=propext ⟨fun zz=>by obtain⟨_,_,h',h2,r⟩:=zz;cases h';rw[h]at h2;cases h2;exact r,fun r=>⟨_,_,rfl,h,r⟩⟩
theorem y4{d:D}{ty T:String}{b:Bool}(h1:tyD M d=some ty)(h2:DJ ty T=some b):C8 [d,.ty T] M R=R (.bl b) M:=propext ⟨fun zz=>by
 obtain⟨_,_,_,_,h,h1',h2',r⟩:=zz
 injection h with h h';subst h;injection h' with h';injection h' with h';subst h'
 rw[h1]at h1';cases h1';rw[h2]at h2';cases h2';exact r,fun r=>⟨_,_,_,_,rfl,h1,h2,r⟩⟩
theorem Gn{c:Bool}{A B:Prop}:IfK c A B=((c=true→A)∧(c=false→B)):=by cases c<;>simp[IfK]
theorem Gk{A B:Prop}:IfK true A B=A:=by simp[IfK]
theorem Gp{A B:Prop}:IfK false A B=B:=by simp[IfK]
theorem F1{n:Nat}{A:Prop}(h:n≤1000):SzK n A=A:=propext ⟨fun h=>h.2,fun a=>⟨sl n h,a⟩⟩
theorem Kl{d:D}{r:Ev}:bH 0 (some d :: r) M R=R d M:=propext ⟨fun zz=>by obtain⟨_,h,q⟩:=zz;cases h;exact q,fun q=>⟨_,rfl,q⟩⟩
theorem Kv{y z:Option D}{r:Ev}:(y :: r:Ev).set 0 z=z :: r:=rfl
theorem Kk{x0:Option D}{d:D}{r:Ev}:bH 1 (x0 :: some d :: r) M R=R d M:=propext ⟨fun zz=>by obtain⟨_,h,q⟩:=zz;cases h;exact q,fun q=>⟨_,rfl,q⟩⟩
theorem Ku{x0:Option D}{y z:Option D}{r:Ev}:(x0 :: y :: r:Ev).set 1 z=x0 :: z :: r:=rfl
theorem Kj{x0 x1:Option D}{d:D}{r:Ev}:bH 2 (x0 :: x1 :: some d :: r) M R=R d M:=propext ⟨fun zz=>by obtain⟨_,h,q⟩:=zz;cases h;exact q,fun q=>⟨_,rfl,q⟩⟩
theorem Kt{x0 x1:Option D}{y z:Option D}{r:Ev}:(x0 :: x1 :: y :: r:Ev).set 2 z=x0 :: x1 :: z :: r:=rfl
theorem Ki{x0 x1 x2:Option D}{d:D}{r:Ev}:bH 3 (x0 :: x1 :: x2 :: some d :: r) M R=R d M:=propext ⟨fun zz=>by obtain⟨_,h,q⟩:=zz;cases h;exact q,fun q=>⟨_,rfl,q⟩⟩
theorem Ks{x0 x1 x2:Option D}{y z:Option D}{r:Ev}:(x0 :: x1 :: x2 :: y :: r:Ev).set 3 z=x0 :: x1 :: x2 :: z :: r:=rfl
theorem Kh{x0 x1 x2 x3:Option D}{d:D}{r:Ev}:bH 4 (x0 :: x1 :: x2 :: x3 :: some d :: r) M R=R d M:=propext ⟨fun zz=>by obtain⟨_,h,q⟩:=zz;cases h;exact q,fun q=>⟨_,rfl,q⟩⟩
theorem Kr{x0 x1 x2 x3:Option D}{y z:Option D}{r:Ev}:(x0 :: x1 :: x2 :: x3 :: y :: r:Ev).set 4 z=x0 :: x1 :: x2 :: x3 :: z :: r:=rfl
theorem Kg{x0 x1 x2 x3 x4:Option D}{d:D}{r:Ev}:bH 5 (x0 :: x1 :: x2 :: x3 :: x4 :: some d :: r) M R=R d M:=propext ⟨fun zz=>by obtain⟨_,h,q⟩:=zz;cases h;exact q,fun q=>⟨_,rfl,q⟩⟩
theorem Kq{x0 x1 x2 x3 x4:Option D}{y z:Option D}{r:Ev}:(x0 :: x1 :: x2 :: x3 :: x4 :: y :: r:Ev).set 5 z=x0 :: x1 :: x2 :: x3 :: x4 :: z :: r:=rfl
theorem Kf{x0 x1 x2 x3 x4 x5:Option D}{d:D}{r:Ev}:bH 6 (x0 :: x1 :: x2 :: x3 :: x4 :: x5 :: some d :: r) M R=R d M:=propext ⟨fun zz=>by obtain⟨_,h,q⟩:=zz;cases h;exact q,fun q=>⟨_,rfl,q⟩⟩
theorem Kp{x0 x1 x2 x3 x4 x5:Option D}{y z:Option D}{r:Ev}:(x0 :: x1 :: x2 :: x3 :: x4 :: x5 :: y :: r:Ev).set 6 z=x0 :: x1 :: x2 :: x3 :: x4 :: x5 :: z :: r:=rfl
theorem Ke{x0 x1 x2 x3 x4 x5 x6:Option D}{d:D}{r:Ev}:bH 7 (x0 :: x1 :: x2 :: x3 :: x4 :: x5 :: x6 :: some d :: r) M R=R d M:=propext ⟨fun zz=>by obtain⟨_,h,q⟩:=zz;cases h;exact q,fun q=>⟨_,rfl,q⟩⟩
theorem Ko{x0 x1 x2 x3 x4 x5 x6:Option D}{y z:Option D}{r:Ev}:(x0 :: x1 :: x2 :: x3 :: x4 :: x5 :: x6 :: y :: r:Ev).set 7 z=x0 :: x1 :: x2 :: x3 :: x4 :: x5 :: x6 :: z :: r:=rfl
theorem Kd{x0 x1 x2 x3 x4 x5 x6 x7:Option D}{d:D}{r:Ev}:bH 8 (x0 :: x1 :: x2 :: x3 :: x4 :: x5 :: x6 :: x7 :: some d :: r) M R=R d M:=propext ⟨fun zz=>by obtain⟨_,h,q⟩:=zz;cases h;exact q,fun q=>⟨_,rfl,q⟩⟩
theorem Kn{x0 x1 x2 x3 x4 x5 x6 x7:Option D}{y z:Option D}{r:Ev}:(x0 :: x1 :: x2 :: x3 :: x4 :: x5 :: x6 :: x7 :: y :: r:Ev).set 8 z=x0 :: x1 :: x2 :: x3 :: x4 :: x5 :: x6 :: x7 :: z :: r:=rfl
theorem Kc{x0 x1 x2 x3 x4 x5 x6 x7 x8:Option D}{d:D}{r:Ev}:bH 9 (x0 :: x1 :: x2 :: x3 :: x4 :: x5 :: x6 :: x7 :: x8 :: some d :: r) M R=R d M:=propext ⟨fun zz=>by obtain⟨_,h,q⟩:=zz;cases h;exact q,fun q=>⟨_,rfl,q⟩⟩
theorem Km{x0 x1 x2 x3 x4 x5 x6 x7 x8:Option D}{y z:Option D}{r:Ev}:(x0 :: x1 :: x2 :: x3 :: x4 :: x5 :: x6 :: x7 :: x8 :: y :: r:Ev).set 9 z=x0 :: x1 :: x2 :: x3 :: x4 :: x5 :: x6 :: x7 :: x8 :: z :: r:=rfl
theorem FF{x0 x1 x2 x3 x4 x5 x6 x7 x8 x9:Option D}{d:D}{r:Ev}:bH 10 (x0 :: x1 :: x2 :: x3 :: x4 :: x5 :: x6 :: x7 :: x8 :: x9 :: some d :: r) M R=R d M:=propext ⟨fun zz=>by obtain⟨_,h,q⟩:=zz;cases h;exact q,fun q=>⟨_,rfl,q⟩⟩
theorem FX{x0 x1 x2 x3 x4 x5 x6 x7 x8 x9:Option D}{y z:Option D}{r:Ev}:(x0 :: x1 :: x2 :: x3 :: x4 :: x5 :: x6 :: x7 :: x8 :: x9 :: y :: r:Ev).set 10 z=x0 :: x1 :: x2 :: x3 :: x4 :: x5 :: x6 :: x7 :: x8 :: x9 :: z :: r:=rfl
theorem FE{x0 x1 x2 x3 x4 x5 x6 x7 x8 x9 x10:Option D}{d:D}{r:Ev}:bH 11 (x0 :: x1 :: x2 :: x3 :: x4 :: x5 :: x6 :: x7 :: x8 :: x9 :: x10 :: some d :: r) M R=R d M:=propext ⟨fun zz=>by obtain⟨_,h,q⟩:=zz;cases h;exact q,fun q=>⟨_,rfl,q⟩⟩
theorem FW{x0 x1 x2 x3 x4 x5 x6 x7 x8 x9 x10:Option D}{y z:Option D}{r:Ev}:(x0 :: x1 :: x2 :: x3 :: x4 :: x5 :: x6 :: x7 :: x8 :: x9 :: x10 :: y :: r:Ev).set 11 z=x0 :: x1 :: x2 :: x3 :: x4 :: x5 :: x6 :: x7 :: x8 :: x9 :: x10 :: z :: r:=rfl
theorem FD{x0 x1 x2 x3 x4 x5 x6 x7 x8 x9 x10 x11:Option D}{d:D}{r:Ev}:bH 12 (x0 :: x1 :: x2 :: x3 :: x4 :: x5 :: x6 :: x7 :: x8 :: x9 :: x10 :: x11 :: some d :: r) M R=R d M:=propext ⟨fun zz=>by obtain⟨_,h,q⟩:=zz;cases h;exact q,fun q=>⟨_,rfl,q⟩⟩
theorem FV{x0 x1 x2 x3 x4 x5 x6 x7 x8 x9 x10 x11:Option D}{y z:Option D}{r:Ev}:(x0 :: x1 :: x2 :: x3 :: x4 :: x5 :: x6 :: x7 :: x8 :: x9 :: x10 :: x11 :: y :: r:Ev).set 12 z=x0 :: x1 :: x2 :: x3 :: x4 :: x5 :: x6 :: x7 :: x8 :: x9 :: x10 :: x11 :: z :: r:=rfl
theorem FC{x0 x1 x2 x3 x4 x5 x6 x7 x8 x9 x10 x11 x12:Option D}{d:D}{r:Ev}:bH 13 (x0 :: x1 :: x2 :: x3 :: x4 :: x5 :: x6 :: x7 :: x8 :: x9 :: x10 :: x11 :: x12 :: some d :: r) M R=R d M:=propext ⟨fun zz=>by obtain⟨_,h,q⟩:=zz;cases h;exact q,fun q=>⟨_,rfl,q⟩⟩
theorem FU{x0 x1 x2 x3 x4 x5 x6 x7 x8 x9 x10 x11 x12:Option D}{y z:Option D}{r:Ev}:(x0 :: x1 :: x2 :: x3 :: x4 :: x5 :: x6 :: x7 :: x8 :: x9 :: x10 :: x11 :: x12 :: y :: r:Ev).set 13 z=x0 :: x1 :: x2 :: x3 :: x4 :: x5 :: x6 :: x7 :: x8 :: x9 :: x10 :: x11 :: x12 :: z :: r:=rfl
theorem FA{x0 x1 x2 x3 x4 x5 x6 x7 x8 x9 x10 x11 x12 x13:Option D}{d:D}{r:Ev}:bH 14 (x0 :: x1 :: x2 :: x3 :: x4 :: x5 :: x6 :: x7 :: x8 :: x9 :: x10 :: x11 :: x12 :: x13 :: some d :: r) M R=R d M:=propext ⟨fun zz=>by obtain⟨_,h,q⟩:=zz;cases h;exact q,fun q=>⟨_,rfl,q⟩⟩
theorem FT{x0 x1 x2 x3 x4 x5 x6 x7 x8 x9 x10 x11 x12 x13:Option D}{y z:Option D}{r:Ev}:(x0 :: x1 :: x2 :: x3 :: x4 :: x5 :: x6 :: x7 :: x8 :: x9 :: x10 :: x11 :: x12 :: x13 :: y :: r:Ev).set 14 z=x0 :: x1 :: x2 :: x3 :: x4 :: x5 :: x6 :: x7 :: x8 :: x9 :: x10 :: x11 :: x12 :: x13 :: z :: r:=rfl
theorem C9{M:Mem}{ds es:List D}:B8 M (.tup ds) es=(es=ds):=by
 apply propext
 constructor
 ·intro h
  rcases h with h|⟨_,h,_⟩|h
  ·injection h with h;exact h.symm
  ·exact absurd h (by intro z;cases z)
  ·exact absurd h (by intro z;cases z)
 ·intro h;exact .inl (by rw[h])
theorem j9{M:Mem}{ds es:List D}:B8 M (.vl ds) es=(es=ds):=by
 apply propext
 constructor
 ·intro h
  rcases h with h|⟨_,h,_⟩|h
  ·exact absurd h (by intro z;cases z)
  ·exact absurd h (by intro z;cases z)
  ·injection h with h;exact h.symm
 ·intro h;exact .inr (.inr (by rw[h]))
theorem w6{ds:List D}{n:Nat}{d:D}(h:ds[n]? = some d):atI ds (n:Int)=some d:=by
 obtain⟨hl,_⟩:=Rc.mp h
 unfold atI ixN
 rw[if_pos (Ti n),if_pos (by omega)]
 simpa using h
theorem ze:GV tr e M R=tr e M fun ds M1=>SzK ds.length (R (.vl ds) M1):=rfl
theorem zo:GZ ta tb e M R=ta e M fun x M1=>tb e M1 fun y M2=>wy x y M2 R:=rfl
theorem Ga{tl th:DTO}:Mb ta tl th e M R=ta e M fun x M1=>tl e M1 fun l M2=>th e M2 fun u M3=>Fc x l u M3 R:=rfl
theorem qk{Q:Option Int→Mem→Prop}:wH e M Q=Q none M:=rfl
theorem yV{Q:Option Int→Mem→Prop}:GR ta e M Q=ta e M fun x M1=>Hi x M1 Q:=rfl
theorem vq{i:Int}{Q:Option Int→Mem→Prop}:Hi (.int i) M Q=Q (some i) M:=propext ⟨fun zz=>by obtain⟨_,h,r⟩:=zz;cases h;exact r,fun r=>⟨_,rfl,r⟩⟩
theorem vw:BW tr e M R=tr e M fun ds M1=>oY ds M1 R:=rfl
theorem qe{ds:List D}:oY [.tup ds] M R=R (.vl ds) M:=propext ⟨fun zz=>by obtain⟨_,_,h,h2,r⟩:=zz;cases h;rw[C9]at h2;subst h2;exact r,fun r=>⟨_,_,rfl,.inl rfl,r⟩⟩
theorem sI{neg:Bool}{x:D}{ds:List D}:LQ neg x (.vl ds) M R=(cl 60 x=true∧clL 59 ds=true∧R (.bl (neg.xor (@decide (x∈ds) (RJ _)))) M):=propext ⟨fun zz=>by obtain⟨_,a,b,c,r⟩:=zz;rw[j9]at b;subst b;exact⟨a,c,r⟩,fun⟨a,c,r⟩=>⟨ds,a,by rw[j9],c,r⟩⟩
theorem ml{ds:List D}:oY [.vl ds] M R=R (.vl ds) M:=propext ⟨fun zz=>by obtain⟨_,_,h,h2,r⟩:=zz;cases h;rw[j9]at h2;subst h2;exact r,fun r=>⟨_,_,rfl,.inr (.inr rfl),r⟩⟩
theorem pZ{ds:List D}:GF [.vl ds] M R=R (.tup ds) M:=propext ⟨fun zz=>by obtain⟨_,_,h,h2,r⟩:=zz;cases h;cases h2;exact r,fun r=>⟨_,_,rfl,rfl,r⟩⟩
theorem qf{xs ys:List D}:wy (.vl xs) (.vl ys) M R=SzK (xs.length+ys.length) (R (.vl (xs++ys)) M):=propext ⟨fun zz=>by obtain⟨_,_,h,h2,z,r⟩:=zz;cases h;cases h2;exact⟨z,r⟩,fun⟨z,r⟩=>⟨_,_,rfl,rfl,z,r⟩⟩
theorem vb{xs:List D}{lo hi:Option Int}:Fc (.vl xs) lo hi M R=R (.vl (Y5 xs lo hi)) M:=propext ⟨fun h=>by
 rcases h with⟨_,h,r⟩|⟨_,h,_⟩
 ·cases h;exact r
 ·exact(nomatch h),fun r=>.inl ⟨_,rfl,r⟩⟩
theorem uZ{xs:List D}{lo hi:Option Int}:Fc (.tup xs) lo hi M R=(¬ (HT.sIx xs.length 0 lo=0∧HT.sIx xs.length xs.length hi=xs.length)∧R (.tup (Y5 xs lo hi)) M):=propext ⟨fun h=>by
 rcases h with⟨_,h,r⟩|⟨_,h,hw,r⟩
 ·cases h
 ·cases h;exact⟨hw,r⟩,fun⟨hw,r⟩=>.inr ⟨_,rfl,hw,r⟩⟩
theorem yU:GQ ta e M R=ta e M fun x M1=>wt x M1 R:=rfl
theorem qb{ds:List D}:wt (.vl ds) M R=R (.vl ds.reverse) M:=propext ⟨fun zz=>by obtain⟨_,h,r⟩:=zz;rw[j9]at h;subst h;exact r,fun r=>⟨_,.inr (.inr rfl),r⟩⟩
theorem qc{ds:List D}:wt (.tup ds) M R=R (.vl ds.reverse) M:=propext ⟨fun zz=>by obtain⟨_,h,r⟩:=zz;rw[C9]at h;subst h;exact r,fun r=>⟨_,.inl rfl,r⟩⟩
theorem Gq:Ml ta e M R=ta e M fun x M1=>MA x M1 R:=rfl
theorem bV{p:Addr}{ds:List D}(h:M p=some (.lst ds)):MA (.ref p) M R=R (.vl ds) (bG M p):=propext ⟨fun zz=>by obtain⟨_,_,e,h',r⟩:=zz;cases e;rw[h]at h';cases h';exact r,fun r=>⟨_,_,rfl,h,r⟩⟩
theorem vz{n:Nat}{caps:List Nat}{ti:DTI}{g:DTG}{tc:Y3}{te:DTE}:uu n caps ti g tc te e M R=ti e M fun ds stay M1=>Hk (kQ n caps e) g tc te ds stay M1 R:=rfl
theorem vA{n:Nat}{caps:List Nat}{ti:DTI}{g:DTG}{tc:Y3}{te:DTE}:uv n caps ti g tc te e M R=ti e M fun ds stay M1=>Hl (kQ n caps e) g tc te ds stay M1 R:=rfl
theorem FY{Q:Bool→Mem→Prop}:Fm e M Q=Q true M:=rfl
section
variable {Q:List D→(Mem→Prop)→Mem→Prop}
theorem vf:GK ta e M Q=ta e M fun x M1=>JD x M1 Q:=rfl
theorem yS{ds:List D}:JD (.tup ds) M Q=Q ds (fun M'=>B8 M' (.tup ds) ds) M:=propext ⟨fun zz=>by obtain⟨_,h,r⟩:=zz;rw[C9]at h;subst h;exact r,fun r=>⟨_,.inl rfl,r⟩⟩
theorem yR{ds:List D}:JD (.vl ds) M Q=Q ds (fun M'=>B8 M' (.vl ds) ds) M:=propext ⟨fun zz=>by obtain⟨_,h,r⟩:=zz;rw[j9]at h;subst h;exact r,fun r=>⟨_,.inr (.inr rfl),r⟩⟩
theorem qi:BO tr e M Q=tr e M fun xs M1=>Cz xs M1 Q:=rfl
theorem vy{ds:List D}:Cz [.tup ds] M Q=Q (U1 ds) (fun M'=>B8 M' (.tup ds) ds) M:=propext ⟨fun zz=>by obtain⟨_,_,h,h2,r⟩:=zz;cases h;rw[C9]at h2;subst h2;exact r,fun r=>⟨_,_,rfl,.inl rfl,r⟩⟩
theorem vx{ds:List D}:Cz [.vl ds] M Q=Q (U1 ds) (fun M'=>B8 M' (.vl ds) ds) M:=propext ⟨fun zz=>by obtain⟨_,_,h,h2,r⟩:=zz;cases h;rw[j9]at h2;subst h2;exact r,fun r=>⟨_,_,rfl,.inr (.inr rfl),r⟩⟩
theorem ve:GJ tr e M Q=tr e M fun xs M1=>Cq xs M1 Q:=rfl
theorem vm{ds es:List D}:Cq [.tup ds,.tup es] M Q=Q (bx ds es) (fun M'=>B8 M' (.tup ds) ds∧B8 M' (.tup es) es) M:=propext ⟨fun zz=>by obtain⟨_,_,_,_,h,h2,h3,r⟩:=zz;cases h;rw[C9]at h2 h3;subst h2;subst h3;exact r,fun r=>⟨_,_,_,_,rfl,.inl rfl,.inl rfl,r⟩⟩
theorem vh{ds es:List D}:Cq [.vl ds,.vl es] M Q=Q (bx ds es) (fun M'=>B8 M' (.vl ds) ds∧B8 M' (.vl es) es) M:=propext ⟨fun zz=>by obtain⟨_,_,_,_,h,h2,h3,r⟩:=zz;cases h;rw[j9]at h2 h3;subst h2;subst h3;exact r,fun r=>⟨_,_,_,_,rfl,.inr (.inr rfl),.inr (.inr rfl),r⟩⟩
theorem vk{ds es:List D}:Cq [.tup ds,.vl es] M Q=Q (bx ds es) (fun M'=>B8 M' (.tup ds) ds∧B8 M' (.vl es) es) M:=propext ⟨fun zz=>by obtain⟨_,_,_,_,h,h2,h3,r⟩:=zz;cases h;rw[C9]at h2;rw[j9]at h3;subst h2;subst h3;exact r,fun r=>⟨_,_,_,_,rfl,.inl rfl,.inr (.inr rfl),r⟩⟩
theorem vj{ds es:List D}:Cq [.vl ds,.tup es] M Q=Q (bx ds es) (fun M'=>B8 M' (.vl ds) ds∧B8 M' (.tup es) es) M:=propext ⟨fun zz=>by obtain⟨_,_,_,_,h,h2,h3,r⟩:=zz;cases h;rw[j9]at h2;rw[C9]at h3;subst h2;subst h3;exact r,fun r=>⟨_,_,_,_,rfl,.inr (.inr rfl),.inl rfl,r⟩⟩
theorem vg:GL tr e M Q=tr e M fun xs M1=>Mw xs M1 Q:=rfl
theorem yT{j:Int}:Mw [.int j] M Q=((-(2 ^ 62)≤j∧j<2 ^ 62)∧Q (M6 0 j.toNat) (fun _=>True) M):=propext ⟨fun zz=>by obtain⟨_,h,a,b,r⟩:=zz;cases h;exact⟨⟨a,b⟩,r⟩,fun⟨⟨a,b⟩,r⟩=>⟨_,rfl,a,b,r⟩⟩
theorem qj:BP tr e M Q=tr e M fun ds M1=>CC ds M1 Q:=rfl
theorem vB{xs:List D}:CC [.vl xs] M Q=Q xs.reverse (fun _=>True) M:=propext ⟨fun zz=>by obtain⟨_,h,r⟩:=zz;cases h;exact r,fun r=>⟨_,rfl,r⟩⟩
theorem qh:BN tr e M Q=tr e M fun xs M1=>Hh xs M1 Q:=rfl
theorem vp{j:Int}:Hh [.int j] M Q=((0≤j∧j<2 ^ 62)∧Q (bQ (j - 1) j.toNat) (fun _=>True) M):=propext ⟨fun zz=>by obtain⟨_,h,a,b,r⟩:=zz;cases h;exact⟨⟨a,b⟩,r⟩,fun zz=>⟨j,rfl,zz.1.1,zz.1.2,zz.2⟩⟩
theorem qg:BM tr e M Q=tr e M fun xs M1=>Hg xs M1 Q:=rfl
theorem vn{i j:Int}:Hg [.int i,.int j] M Q=((-(2 ^ 62)≤i∧i<2 ^ 62∧-(2 ^ 62)≤j∧j<2 ^ 62)∧Q (M6 i (j - i).toNat) (fun _=>True) M):=propext ⟨fun zz=>by obtain⟨_,_,h,a,r⟩:=zz;cases h;exact⟨a,r⟩,fun⟨a,r⟩=>⟨_,_,rfl,a,r⟩⟩
end
theorem Gr{ti:DTI}{g:DTG}:Mm ti g t F e M=ti e M fun ds stay M1=>R4 g t F ds stay e M1:=rfl
theorem R4.by{g:DTG}{ds:List D}{stay:Mem→Prop}{M1:Mem}(W:Nat→Ev→Mem→Prop)(w0:W 0 e M1)(st:∀ i e M,i≤ds.length→W i e M→stay M)
  (turn:∀(i:Nat) (d:D) e M,ds[i]? = some d→W i e M→g d e M fun e2 M2=>t { F with nx:=W (i+1),ct:=W (i+1),bk:=F.nx } e2 M2) (done:∀ e M,W ds.length e M→F.nx e M):R4 g t F ds stay e M1:=⟨W,w0,st,turn,done⟩
theorem Fv{F:bR}(W:Nat→Ev→Mem→Prop)(m:Nat)(w0:W m e M)(turn:∀ m e M,W m e M→tA e M fun b M1=>IfK b (t { F with nx:=fun e' M'=>∃ m',m'<m∧W m' e' M',ct:=fun e' M'=>∃ m',m'<m∧W m' e' M',bk:=F.nx } e M1) (F.nx e M1)):BU tA t F e M:=⟨W,⟨m,w0⟩,turn⟩
theorem fc{F:bR}(P:Ev→Mem→Prop)(h1:t { F with nx:=P } e M)(h2:∀ e' M',P e' M'→u F e' M'):GP t u F e M:=⟨P,h1,h2⟩
theorem KI{g:DRM}:dLM g ta tr e M R=ta e M fun x M1=>LMK x M1 (tr e M1 fun xs M2=>g x xs M2 R):=rfl
theorem ia{x0:D}{r:List D}:gIx (.tup (x0 :: r)) (.int 0) M R=R x0 M:=bz (w6 (n:=0) rfl)
theorem yI{x0:D}{r:List D}:gIx (.vl (x0 :: r)) (.int 0) M R=R x0 M:=bz (w6 (n:=0) rfl)
theorem hZ{x0 x1:D}{r:List D}:gIx (.tup (x0 :: x1 :: r)) (.int 1) M R=R x1 M:=bz (w6 (n:=1) rfl)
theorem yH{x0 x1:D}{r:List D}:gIx (.vl (x0 :: x1 :: r)) (.int 1) M R=R x1 M:=bz (w6 (n:=1) rfl)
theorem sH{x0 x1 x2:D}{r:List D}:gIx (.tup (x0 :: x1 :: x2 :: r)) (.int 2) M R=R x2 M:=bz (w6 (n:=2) rfl)
theorem yG{x0 x1 x2:D}{r:List D}:gIx (.vl (x0 :: x1 :: x2 :: r)) (.int 2) M R=R x2 M:=bz (w6 (n:=2) rfl)
theorem yN{x0 x1 x2 x3:D}{r:List D}:gIx (.tup (x0 :: x1 :: x2 :: x3 :: r)) (.int 3) M R=R x3 M:=bz (w6 (n:=3) rfl)
theorem yF{x0 x1 x2 x3:D}{r:List D}:gIx (.vl (x0 :: x1 :: x2 :: x3 :: r)) (.int 3) M R=R x3 M:=bz (w6 (n:=3) rfl)
theorem yM{x0 x1 x2 x3 x4:D}{r:List D}:gIx (.tup (x0 :: x1 :: x2 :: x3 :: x4 :: r)) (.int 4) M R=R x4 M:=bz (w6 (n:=4) rfl)
theorem yE{x0 x1 x2 x3 x4:D}{r:List D}:gIx (.vl (x0 :: x1 :: x2 :: x3 :: x4 :: r)) (.int 4) M R=R x4 M:=bz (w6 (n:=4) rfl)
theorem yL{x0 x1 x2 x3 x4 x5:D}{r:List D}:gIx (.tup (x0 :: x1 :: x2 :: x3 :: x4 :: x5 :: r)) (.int 5) M R=R x5 M:=bz (w6 (n:=5) rfl)
theorem yD{x0 x1 x2 x3 x4 x5:D}{r:List D}:gIx (.vl (x0 :: x1 :: x2 :: x3 :: x4 :: x5 :: r)) (.int 5) M R=R x5 M:=bz (w6 (n:=5) rfl)
theorem yK{x0 x1 x2 x3 x4 x5 x6:D}{r:List D}:gIx (.tup (x0 :: x1 :: x2 :: x3 :: x4 :: x5 :: x6 :: r)) (.int 6) M R=R x6 M:=bz (w6 (n:=6) rfl)
theorem yC{x0 x1 x2 x3 x4 x5 x6:D}{r:List D}:gIx (.vl (x0 :: x1 :: x2 :: x3 :: x4 :: x5 :: x6 :: r)) (.int 6) M R=R x6 M:=bz (w6 (n:=6) rfl)
theorem yJ{x0 x1 x2 x3 x4 x5 x6 x7:D}{r:List D}:gIx (.tup (x0 :: x1 :: x2 :: x3 :: x4 :: x5 :: x6 :: x7 :: r)) (.int 7) M R=R x7 M:=bz (w6 (n:=7) rfl)
theorem yB{x0 x1 x2 x3 x4 x5 x6 x7:D}{r:List D}:gIx (.vl (x0 :: x1 :: x2 :: x3 :: x4 :: x5 :: x6 :: x7 :: r)) (.int 7) M R=R x7 M:=bz (w6 (n:=7) rfl)
theorem FQ{A:Prop}:SzK (0) A=A:=F1 (by decide)
theorem FP{A:Prop}:SzK (0+1) A=A:=F1 (by decide)
theorem FO{A:Prop}:SzK (0+1+1) A=A:=F1 (by decide)
theorem FN{A:Prop}:SzK (0+1+1+1) A=A:=F1 (by decide)
theorem FL{A:Prop}:SzK (0+1+1+1+1) A=A:=F1 (by decide)
theorem FK{A:Prop}:SzK (0+1+1+1+1+1) A=A:=F1 (by decide)
theorem FJ{A:Prop}:SzK (0+1+1+1+1+1+1) A=A:=F1 (by decide)
theorem FI{A:Prop}:SzK (0+1+1+1+1+1+1+1) A=A:=F1 (by decide)
theorem FH{A:Prop}:SzK (0+1+1+1+1+1+1+1+1) A=A:=F1 (by decide)
theorem FG{A:Prop}:SzK (0+1+1+1+1+1+1+1+1+1) A=A:=F1 (by decide)
theorem Dx{i:Int}:cl 60 (.int i)=true:=rfl
theorem Dr:cl 60 .non=true:=rfl
theorem Dg{ds:List D}:cl 60 (.tup ds)=clL 59 ds:=rfl
theorem CW{ds:List D}:cl 60 (.vl ds)=clL 59 ds:=rfl
theorem CJ:clL 59 []=true:=rfl
theorem CP{d:D}{r:List D}:clL 59 (d :: r)=(cl 59 d && clL 59 r):=rfl
theorem Dy{i:Int}:cl 59 (.int i)=true:=rfl
theorem Ds:cl 59 .non=true:=rfl
theorem Dh{ds:List D}:cl 59 (.tup ds)=clL 58 ds:=rfl
theorem CY{ds:List D}:cl 59 (.vl ds)=clL 58 ds:=rfl
theorem CK:clL 58 []=true:=rfl
theorem CQ{d:D}{r:List D}:clL 58 (d :: r)=(cl 58 d && clL 58 r):=rfl
theorem Dz{i:Int}:cl 58 (.int i)=true:=rfl
theorem Dt:cl 58 .non=true:=rfl
theorem Di{ds:List D}:cl 58 (.tup ds)=clL 57 ds:=rfl
theorem CZ{ds:List D}:cl 58 (.vl ds)=clL 57 ds:=rfl
theorem CL:clL 57 []=true:=rfl
theorem CS{d:D}{r:List D}:clL 57 (d :: r)=(cl 57 d && clL 57 r):=rfl
theorem DA{i:Int}:cl 57 (.int i)=true:=rfl
theorem Du:cl 57 .non=true:=rfl
theorem Dj{ds:List D}:cl 57 (.tup ds)=clL 56 ds:=rfl
theorem Dc{ds:List D}:cl 57 (.vl ds)=clL 56 ds:=rfl
theorem CM:clL 56 []=true:=rfl
theorem CT{d:D}{r:List D}:clL 56 (d :: r)=(cl 56 d && clL 56 r):=rfl
theorem DB{i:Int}:cl 56 (.int i)=true:=rfl
theorem Dv:cl 56 .non=true:=rfl
theorem Dk{ds:List D}:cl 56 (.tup ds)=clL 55 ds:=rfl
theorem Dd{ds:List D}:cl 56 (.vl ds)=clL 55 ds:=rfl
theorem CN:clL 55 []=true:=rfl
theorem CU{d:D}{r:List D}:clL 55 (d :: r)=(cl 55 d && clL 55 r):=rfl
theorem DC{i:Int}:cl 55 (.int i)=true:=rfl
theorem Dw:cl 55 .non=true:=rfl
theorem Dl{ds:List D}:cl 55 (.tup ds)=clL 54 ds:=rfl
theorem De{ds:List D}:cl 55 (.vl ds)=clL 54 ds:=rfl
theorem CO:clL 54 []=true:=rfl
theorem CV{d:D}{r:List D}:clL 54 (d :: r)=(cl 54 d && clL 54 r):=rfl
theorem zh{xs:List D}:xX [.vl xs] M R=R (.int (xs.length:Int)) M:=qm rfl
theorem zi{xs:List D}:xX [.tup xs] M R=R (.int (xs.length:Int)) M:=qm rfl
theorem Hy{A:Prop}:SzK 1 A=A:=F1 (by decide)
theorem Hx{A:Prop}:SzK 2 A=A:=F1 (by decide)
theorem Hw{A:Prop}:SzK 3 A=A:=F1 (by decide)
theorem Hv{A:Prop}:SzK 4 A=A:=F1 (by decide)
theorem Hu{A:Prop}:SzK 5 A=A:=F1 (by decide)
theorem Ht{A:Prop}:SzK 6 A=A:=F1 (by decide)
theorem Hs{A:Prop}:SzK 7 A=A:=F1 (by decide)
theorem Hr{A:Prop}:SzK 8 A=A:=F1 (by decide)
theorem Hq{A:Prop}:SzK 9 A=A:=F1 (by decide)
theorem CI{A:Prop}:SzK 10 A=A:=F1 (by decide)
theorem CH{A:Prop}:SzK 11 A=A:=F1 (by decide)
theorem CG{A:Prop}:SzK 12 A=A:=F1 (by decide)
theorem fq:C8 [.dic,.ty "tuple"] M R=R (.bl false) M:=y4 rfl rfl
theorem iy:C8 [.dic,.ty "list"] M R=R (.bl false) M:=y4 rfl rfl
theorem mh:C8 [.dic,.ty "int"] M R=R (.bl false) M:=y4 rfl rfl
theorem iA:C8 [.dic,.ty "bool"] M R=R (.bl false) M:=y4 rfl rfl
theorem mf:C8 [.dic,.ty "str"] M R=R (.bl false) M:=y4 rfl rfl
theorem fj{ds:List D}:C8 [.tup ds,.ty "tuple"] M R=R (.bl true) M:=y4 rfl rfl
theorem ig{ds:List D}:C8 [.tup ds,.ty "list"] M R=R (.bl false) M:=y4 rfl rfl
theorem lV{ds:List D}:C8 [.tup ds,.ty "int"] M R=R (.bl false) M:=y4 rfl rfl
theorem ij{ds:List D}:C8 [.tup ds,.ty "bool"] M R=R (.bl false) M:=y4 rfl rfl
theorem lU{ds:List D}:C8 [.tup ds,.ty "str"] M R=R (.bl false) M:=y4 rfl rfl
theorem fi{ds:List D}:C8 [.vl ds,.ty "tuple"] M R=R (.bl false) M:=y4 rfl rfl
theorem ib{ds:List D}:C8 [.vl ds,.ty "list"] M R=R (.bl true) M:=y4 rfl rfl
theorem lT{ds:List D}:C8 [.vl ds,.ty "int"] M R=R (.bl false) M:=y4 rfl rfl
theorem ic{ds:List D}:C8 [.vl ds,.ty "bool"] M R=R (.bl false) M:=y4 rfl rfl
theorem lS{ds:List D}:C8 [.vl ds,.ty "str"] M R=R (.bl false) M:=y4 rfl rfl
theorem fo{i:Int}:C8 [.int i,.ty "tuple"] M R=R (.bl false) M:=y4 rfl rfl
theorem iu{i:Int}:C8 [.int i,.ty "list"] M R=R (.bl false) M:=y4 rfl rfl
theorem me{i:Int}:C8 [.int i,.ty "int"] M R=R (.bl true) M:=y4 rfl rfl
theorem iw{i:Int}:C8 [.int i,.ty "bool"] M R=R (.bl false) M:=y4 rfl rfl
theorem ma{i:Int}:C8 [.int i,.ty "str"] M R=R (.bl false) M:=y4 rfl rfl
theorem fm:C8 [.non,.ty "tuple"] M R=R (.bl false) M:=y4 rfl rfl
theorem iq:C8 [.non,.ty "list"] M R=R (.bl false) M:=y4 rfl rfl
theorem lZ:C8 [.non,.ty "int"] M R=R (.bl false) M:=y4 rfl rfl
theorem ir:C8 [.non,.ty "bool"] M R=R (.bl false) M:=y4 rfl rfl
theorem lY:C8 [.non,.ty "str"] M R=R (.bl false) M:=y4 rfl rfl
theorem fk{x:Str}:C8 [.str x,.ty "tuple"] M R=R (.bl false) M:=y4 rfl rfl
theorem ik{x:Str}:C8 [.str x,.ty "list"] M R=R (.bl false) M:=y4 rfl rfl
theorem lX{x:Str}:C8 [.str x,.ty "int"] M R=R (.bl false) M:=y4 rfl rfl
theorem ip{x:Str}:C8 [.str x,.ty "bool"] M R=R (.bl false) M:=y4 rfl rfl
theorem lW{x:Str}:C8 [.str x,.ty "str"] M R=R (.bl true) M:=y4 rfl rfl
theorem ft{b:Bool}:C8 [.bl b,.ty "tuple"] M R=R (.bl false) M:=y4 rfl rfl
theorem iB{b:Bool}:C8 [.bl b,.ty "list"] M R=R (.bl false) M:=y4 rfl rfl
theorem mj{b:Bool}:C8 [.bl b,.ty "int"] M R=R (.bl true) M:=y4 rfl rfl
theorem iC{b:Bool}:C8 [.bl b,.ty "bool"] M R=R (.bl true) M:=y4 rfl rfl
theorem mi{b:Bool}:C8 [.bl b,.ty "str"] M R=R (.bl false) M:=y4 rfl rfl
theorem Gs:Mn ta e M R=ta e M fun x M1=>MB x M1 R:=rfl
theorem K6{l:Addr}{ds:List D}{A:Prop}(h:M l=some (.lst ds))(a:A):LMK (.ref l) M A:=⟨⟨l,ds,rfl,h⟩,a⟩
theorem R5{l:Addr}{ds:List D}{v:D}(h:M l=some (.lst ds))(hz:ds.length<1000)(r:R .non (B2 M l (.lst (ds++[v])))):wz (.ref l) [v] M R:=⟨l,ds,v,rfl,rfl,h,Rk hz (by decide),r⟩
theorem JJ{l:Addr}{ds:List D}{k:Nat}{v:D}(h:M l=some (.lst ds))(hk:k≤ds.length)(hz:ds.length<1000)(r:R .non (B2 M l (.lst (ds.take k++v :: ds.drop k)))):wu (.ref l) [.int (k:Int),v] M R:=⟨l,ds,v,k,rfl,rfl,h,hk,Rk hz (by decide),r⟩
theorem JL{l b:Addr}{ds es:List D}(h:M l=some (.lst ds))(hb:M b=some (.lst es))(hz:ds.length+es.length≤1000)(r:R .non (B2 M l (.lst (ds++es)))):wx (.ref l) [.ref b] M R:=⟨l,b,ds,es,rfl,rfl,h,hb,Ro hz (by decide),r⟩
theorem M9{x:D}{M1 M2:Mem}(h:∀ b o,M2 b=some o→M1 b=some o)(r:R x M2):MB x M1 R:=⟨M2,h,r⟩
end
theorem bI{p:Str→Prop}:∀ x∈([]:List Str),p x:=fun _ h=>nomatch h
section
variable {e0:Ev} {g:DTG} {te:DTE} {tc:Y3} {ds:List D} {stay:Mem→Prop} {M1:Mem} {E:List D→Mem→Prop}
theorem A7{α:Type}{xs:List α}{enc:α→D}(f:α→D)(hn:xs.length≤1000)(hst:stay M1)(step:∀ x∈xs,∀ Q:DK,Q (f x) M1→g (enc x) e0 M1 fun e2 M2=>te e2 M2 Q)(h:E (xs.map f) M1):∃ W,mU e0 g Fm te (xs.map enc) stay M1 E W:=by
 refine⟨fun i ys M=>M=M1∧ys=(xs.take i).map f,⟨⟨rfl,rfl⟩,fun i ys M _ w=>by rw[w.1];exact hst,fun i d ys M hd w=>?_,fun ys M w=>?_⟩⟩
 ·obtain⟨rfl,rfl⟩:=w
  rw[Rj]at hd
  cases hx:xs[i]? with
  | none=>rw[hx]at hd;cases hd
  | some x =>
   rw[hx]at hd
   obtain rfl:enc x=d:=by simpa using hd
   refine step x (Rg hx) _ ⟨?_,rfl,?_⟩
   ·rw[Rh,Ss]
    exact Rv (Ro (UD _ _) hn) (by decide)
   ·obtain⟨hl,he⟩:=Rc.mp hx
    rw[SA hl,RB,he];rfl
 ·obtain⟨rfl,rfl⟩:=w
  rw[Rh,RG];exact h
theorem X5{α:Type}{xs:List α}{enc:α→D}(p:α→Bool)(f:α→D)(hn:xs.length≤1000)(hst:stay M1)
  (step:∀ x∈xs,∀(Q:DK) (N:Prop),(p x=true→Q (f x) M1)→(p x=false→N)→g (enc x) e0 M1 fun e2 M2=>tc e2 M2 fun b M3=>IfK b (te e2 M3 Q) (M3=M1∧N)) (h:E ((xs.filter p).map f) M1):∃ W,mU e0 g tc te (xs.map enc) stay M1 E W:=by
 refine⟨fun i ys M=>M=M1∧ys=((xs.take i).filter p).map f,⟨⟨rfl,rfl⟩,fun i ys M _ w=>by rw[w.1];exact hst,fun i d ys M hd w=>?_,fun ys M w=>?_⟩⟩
 ·obtain⟨rfl,rfl⟩:=w
  rw[Rj]at hd
  cases hx:xs[i]? with
  | none=>rw[hx]at hd;cases hd
  | some x =>
   rw[hx]at hd
   obtain rfl:enc x=d:=by simpa using hd
   obtain⟨hl,he⟩:=Rc.mp hx
   have hle:(((xs.take i).filter p).map f).length<sizeLine:=by
    rw[Rh]
    have h1:=To p (xs.take i)
    rw[Ss]at h1
    exact Rv (Ro h1 (Ro (UD _ _) hn)) (by decide)
   have hs:=step x (Rg hx) (fun v M4=>(((xs.take i).filter p).map f).length<sizeLine∧M4=M∧((xs.take i).filter p).map f++[v]=((xs.take (i+1)).filter p).map f) (((xs.take i).filter p).map f=((xs.take (i+1)).filter p).map f)
    (fun hp=>⟨hle,rfl,by rw[SA hl,Se,RB,he];simp[hp]⟩)
    (fun hp=>by rw[SA hl,Se,RB,he];simp[hp])
   exact hs
 ·obtain⟨rfl,rfl⟩:=w
  rw[Rh,RG];exact h
end
section
variable {X:Cx} {pos:Pos}
theorem jc{x:Str}{j k:Nat}{ps:List Str}{sp:DSp}{p:Pos}{e:Expr}{es:List Expr}{t:DTA}(G:Fn X.prog X.w X.K X.mg X.base x j ps sp)(hr:M8 k X.A)(ha:JA X (e :: es) t)(hk:j≤k:=by decide)(hg:Gl X x:=by rfl)
  (hdb:(x == ("__debug__" : Str))=false:=by decide) (he:starEach (e :: es) X.env=(false,eval e X.env) :: starEach es X.env:=by rfl) (hpl:(backTo pos (starEach es X.env)).any (·.1)=false:=by rfl):JE X (.Call (.Name x p) (e :: es) [] pos) (wI sp [] Y0 t):=Br G (hr.mono hk) hg ha hdb he hpl
theorem jx{a b:Expr}{ta tb:DTE}(ha:JE X a ta)(hb:JE X b tb)(hs:pz b:=by exact fun _ _=>rfl):JE X (.Subscript a b pos) (dOp gIx ta tb):=LG LJ ha hb hs
theorem jst(i:Nat){x:Str}{e:Expr}{tx:DTE}{q:Pos}(hN:X.N.Nodup)(he:JE X e tx)(hi:X.N[i]? = some x:=by rfl)(hx:Loc X.env.scope x:=by first|exact .inl rfl|exact .inr rfl)(hs:swapsWith e (some (.Name x q)) pos.line X.env=pure false:=by rfl)
  (hf:X.fn x=true∨X.env.scope.names.lookup x=some .local:=by first|exact .inl rfl|exact .inr rfl|assumption):JS X (.Assign [.Name x q] e pos) (yc tx (cQ i)):=EM hN hi hx he hs hf
theorem jn(i:Nat){x:Str}(hN:X.N.Nodup)(hi:X.N[i]? = some x:=by rfl)(hx:Loc X.env.scope x:=by first|exact .inl rfl|exact .inr rfl)(hf:X.fn x=true∨X.env.scope.names.lookup x=some .local:=by first|exact .inl rfl|exact .inr rfl|assumption):JG X (.Name x pos) (cQ i):=Bp hN hi hx hf
theorem jm{op:CmpOp}{g:DR2}{a b:Expr}{ta tb:DTE}(ho:DOp X (compareOp op) g)(ha:JE X a ta)(hb:JE X b tb)(hm:behindInMarks op b=false:=by first|exact AY _|with_unfolding_all rfl):JE X (.Compare a [op] [b] pos) (dOp g ta tb):=Ja ho ha hb hm
theorem jtm{op:CmpOp}{g:DR2}{a b:Expr}{ta tb:DTE}(ho:DOp X (compareOp op) g)(ha:JE X a ta)(hb:JE X b tb)(hm:behindInMarks op b=false:=by first|exact AY _|with_unfolding_all rfl):JT X (.Compare a [op] [b] pos) (rW (dOp g ta tb)):=EN ho ha hb hm
end
end DL
namespace GM
open PySem PySem.Spec L2 DL
open PyProof.Rows hiding St
noncomputable def d8(q:Rat):D:=.tup [.int q.num,.int (q.den:Int)]
theorem A9{q r:Rat}(h:d8 q=d8 r):q=r:=by
 unfold d8 at h
 injection h with h
 injection h with h1 h2
 injection h1 with h1
 injection h2 with h2 _
 injection h2 with h2
 exact Rat.ext h1 (by omega)
theorem j8{q r:Rat}:d8 q=d8 r↔q=r:=⟨A9,fun h=>by rw[h]⟩
structure E3(M:Mem)(p:Addr):Prop where
 ex:∃ x y z:Int,M p=some (.lst [.int x,.int y,.int z])
def MK(M M':Mem):Prop:=∀ b o,M b=some o→M' b=some o
theorem MK.refl(M:Mem):MK M M:=fun _ _ h=>h
theorem MK.trans{M M1 M2:Mem}(a:MK M M1)(b:MK M1 M2):MK M M2:=fun c o h=>b c o (a c o h)
theorem MK.new{M:Mem}{p:Addr}{o:MO}(h:M p=none):MK M (B2 M p o):=fun b u e=>by
 have:b≠p:=by intro z;subst z;rw[h]at e;cases e
 rw[A2 this];exact e
theorem MK.pool{M M':Mem}(k:MK M M'){p:Addr}(h:E3 M p):E3 M' p:=let ⟨x,y,z,e⟩:=h.ex;⟨x,y,z,k _ _ e⟩
structure y7(p:Addr)(M M':Mem):Prop where
 keep:∀ b o,b≠p→M b=some o→M' b=some o
 pool:E3 M' p
theorem y7.refl{p:Addr}{M:Mem}(h:E3 M p):y7 p M M:=⟨fun _ _ _ h=>h,h⟩
theorem y7.trans{p:Addr}{M M1 M2:Mem}(a:y7 p M M1)(b:y7 p M1 M2):y7 p M M2:=⟨fun c o n h=>b.keep c o n (a.keep c o n h),b.pool⟩
theorem y7.upd{p:Addr}{M:Mem}(x y z:Int):y7 p M (B2 M p (.lst [.int x,.int y,.int z])):=⟨fun b o n h=>by rw[A2 n];exact h,⟨x,y,z,g9⟩⟩
theorem E3.ne{M:Mem}{p l:Addr}(h:E3 M p)(hl:M l=none):l≠p:=by
 intro e;subst e;obtain⟨x,y,z,q⟩:=h.ex;rw[hl]at q;cases q
def sV:DSp:=fun ds M R _=>∃ c:Int,ds=[.int c]∧∀ p M',M p=none→MK M M'→E3 M' p→R (.ref p) M'
def S1:DSp:=fun ds M R _=>∃(p:Addr) (b:Int),ds=[.ref p,.int b]∧E3 M p∧0<b∧b.natAbs.log2<9000∧∀(r:Int) M',0≤r→r<b→y7 p M M'→R (.int r) M'
def X9:DSp:=fun ds M R _=>∃ a b:Int,ds=[.int a,.int b]∧b≠0∧b.natAbs.log2<9000∧R (d8 (RZ a b)) M
def fu:DSp:=fun ds M R _=>∃ n:Nat,ds=[.int n]∧n.log2<4000∧∀ s:Nat,s*s≤n→n<(s+1)*(s+1)→R (.int s) M
def Ct(q:Rat)(v:D):Prop:=(∃ r:Rat,0≤r∧r*r=q∧v=d8 r)∨((∀ r:Rat,r*r≠q)∧v = .non)
def sU:DSp:=fun ds M R _=>∃ q:Rat,ds=[d8 q]∧RM.sz q≤4000∧∀ v,Ct q v→R v M
theorem Ju:sG 10 18:=⟨by decide,by decide,by decide⟩
theorem cp6:sG 10 6:=⟨by decide,by decide,by decide⟩
theorem rG{a b:Int}(h1:-(2 ^ 64)<a)(h2:a<2 ^ 64):IntMulOk a b:=.of_left (intBits_le_64 h1 h2)
theorem LD{a b:Int}(h1:-(2 ^ 64)<b)(h2:b<2 ^ 64):IntMulOk a b:=.of_right (intBits_le_64 h1 h2)
theorem Nf{x m k b:Int}(hm:0<m)(hm2:m<2 ^ 60)(hk:0≤k)(hk2:k<2 ^ 60):IntMulOk (x % m+k) b:=by
 have h1:=Ug x (show m≠0 by omega)
 have h2:=TF x hm
 exact rG (by omega) (by omega)
theorem LC{x m b:Int}(hm:0<m)(hm2:m<2 ^ 60):IntMulOk (x % m) b:=by
 have h1:=Ug x (show m≠0 by omega)
 have h2:=TF x hm
 exact rG (by omega) (by omega)
theorem Nu{i:Int}:CFd i 8:=⟨by decide,by decide⟩
theorem Fo{i:Int}:CFd i 2:=⟨by decide,by decide⟩
theorem L0{a b:Int}(ha:0≤a)(hb:0≤b):a.fdiv b=a / b:=Int.fdiv_eq_ediv_of_nonneg a hb
theorem EZ{a b:Int}(hb:b≠0)(h:b.natAbs.log2<9000):((RW a.natAbs b.natAbs:Nat):Int).natAbs.log2<9000:=by
 have hp:0<b.natAbs:=Va.mpr hb
 have hle:RW a.natAbs b.natAbs≤b.natAbs:=TU _ hp
 have h1:b.natAbs<2 ^ 9000:=(Uu (by omega)).mp h
 rw[Rb]
 exact F5 (Rv hle h1) (by decide)
theorem By{a b:Int}(hb:b≠0):((RW a.natAbs b.natAbs:Nat):Int)≠0:=by
 have hp:0<b.natAbs:=Va.mpr hb
 have:=SY a.natAbs hp
 omega
theorem gJ{a b s:Int}(hb:b≠0)(hs:s=if b<0 then -((RW a.natAbs b.natAbs:Nat):Int)else((RW a.natAbs b.natAbs:Nat):Int)){M:Mem}{R:DK}(k:R (d8 (RZ a b)) M) :
  R (.tup [.int (a.fdiv s),.int (b.fdiv s)]) M:=by
 obtain⟨h1,h2⟩:=RM.IQ a b hb s hs
 rw[h1,h2];exact k
theorem IP{a b:Int}{n:Nat}(hn:0<n)(h1:a.natAbs<2 ^ n)(h2:b.natAbs<2 ^ n)(hb:b≠0):RM.sz (RZ a b)≤n :=
 Ro (RM.N7 a b hb) (Ub.mpr ⟨RM.U3 h1 hn,RM.U3 h2 hn⟩)
theorem IM{n g:Nat}(hg:0<g):n<((g+n / g) / 2+1)*((g+n / g) / 2+1):=by
 have h1:n<g*(n / g+1):=by
  have:=Nat.lt_mul_div_succ n hg
  exact this
 have h2:g+(n / g+1)≤2*((g+n / g) / 2+1):=by omega
 generalize (g+n / g) / 2+1=b at h2 ⊢
 generalize n / g+1=y at h1 h2
 have h3:(g+y)*(g+y)≤(2*b)*(2*b):=Tg h2 h2
 have h4:4*(g*y)≤(g+y)*(g+y):=by
  rcases Nat.le_total g y with h|h
  ·obtain⟨k,rfl⟩:=Nat.le.dest h
   have:(g+(g+k))*(g+(g+k))=4*(g*(g+k))+k*k:=by grind
   omega
  ·obtain⟨k,rfl⟩:=Nat.le.dest h
   have:(y+k+y)*(y+k+y)=4*((y+k)*y)+k*k:=by grind
   omega
 have h5:(2*b)*(2*b)=4*(b*b):=by grind
 omega
theorem uc{n g:Nat}(hg:0<g)(h:¬ (g+n / g) / 2<g):g*g≤n:=by
 have h1:g≤n / g:=by omega
 exact Ro (Tx g h1) (Nat.mul_div_le n g)
theorem mq{n s t:Nat}(h1:s*s≤n)(h2:n<(s+1)*(s+1))(h3:t*t=n):t=s:=by
 rcases SN t s with h|h|h
 ·have:(t+1)*(t+1)≤s*s:=Tg h h
  have e:(t+1)*(t+1)=t*t+2*t+1:=by grind
  omega
 ·exact h
 ·have:(s+1)*(s+1)≤t*t:=Tg h h
  omega
theorem iH(r:Rat):(r*r).num=r.num*r.num∧(r*r).den=r.den*r.den:=by
 rw[Rat.mul_def]
 have hc:(r.num*r.num).natAbs.gcd (r.den*r.den)=1:=by
  rw[RL]
  exact Nat.Coprime.mul_left (Nat.Coprime.mul_right r.reduced r.reduced) (Nat.Coprime.mul_right r.reduced r.reduced)
 rw[Rat.normalize_eq]
 simp[hc]
theorem xv{q:Rat}{s t:Nat}(h1:((s:Int))*(s:Int)=q.num)(h2:t*t=q.den):∃ r:Rat,0≤r∧r*r=q∧r.num=(s:Int)∧r.den=t:=by
 have ht:t≠0:=by
  intro e;subst e;have:=q.den_nz;omega
 have hcop:Nat.Coprime s t:=by
  have hq:=q.reduced
  have e1:q.num.natAbs=s*s:=by rw[← h1,RL,Rb]
  rw[e1,← h2]at hq
  have a1:Nat.Coprime s (t*t):=Nat.Coprime.coprime_mul_left hq
  exact Nat.Coprime.coprime_mul_left_right a1
 refine⟨⟨(s:Int),t,ht,by simpa using hcop⟩,?_,?_,rfl,rfl⟩
 ·rw[Rat.le_iff];simp
 ·have:=iH ⟨(s:Int),t,ht,by simpa using hcop⟩
  exact Rat.ext (by rw[this.1];exact h1) (by rw[this.2];exact h2)
theorem jd{q r:Rat}(h:r*r=q):(∃ s:Nat,s*s=q.num.natAbs)∧(∃ t:Nat,t*t=q.den)∧0≤q.num:=by
 have:=iH r
 rw[h]at this
 refine⟨⟨r.num.natAbs,by rw[this.1,RL]⟩,⟨r.den,this.2.symm⟩,?_⟩
 rw[this.1]
 have:=Int.natAbs_mul_self (a:=r.num)
 rw[← this];exact Ti _
theorem HE{q:Rat}{n:Nat}(h:RM.sz q≤n):q.num.natAbs.log2<n∧q.den.log2<n:=by
 have h1:=RM.O5 q
 have h2:=RM.D7 q
 unfold RM.bl at h1 h2
 omega
theorem bh{n k:Nat}(h:n.log2<k):n<2 ^ k:=by
 rcases Th n with h0|h0
 ·subst h0;exact Sx k
 ·exact(Uu (by omega)).mp h
def de:DSp:=fun ds M R _=>∃ n:Int,ds=[.int n]∧R (.bl true) M
end GM
namespace GM
open PySem PySem.Spec L2 DL
structure Sml(g:Nat):Prop where
 log:g.log2<9000
theorem Sml.mono{a b:Nat}(h:Sml b)(l:a≤b):Sml a:=⟨F5 (Rv l (bh h.log)) (by decide)⟩
theorem Sml.pow{k:Nat}(h:k<9000):Sml (2 ^ k):=⟨F5 (Tr (by decide) h) (by decide)⟩
def vK:DSp:=fun ds _ R _=>∃ ns:List Int,ds=[.vl (ns.map D.int)]∧ns.length≤63∧∀ M',R (.bl true) M'
end GM
namespace GM
open PySem PySem.Spec L2 DL
open RM (sz)
def N8:DSp:=fun ds M R _=>∃ a b:Nat,ds=[.int (a:Int),.int (b:Int)]∧R (.int ((RW a b:Nat):Int)) M
def mr:DSp:=fun ds M R _=>∃ q:Rat,ds=[d8 q]∧R (d8 (-q)) M
def G9:DSp:=fun ds M R _=>∃ q r:Rat,ds=[d8 q,d8 r]∧sz q+sz r≤8900∧R (d8 (q+r)) M
def E7:DSp:=fun ds M R _=>∃ q r:Rat,ds=[d8 q,d8 r]∧sz q+sz r≤8900∧R (d8 (q - r)) M
def E6:DSp:=fun ds M R _=>∃ q r:Rat,ds=[d8 q,d8 r]∧sz q+sz r≤8900∧R (d8 (q*r)) M
def U5:DSp:=fun ds M R _=>∃ q r:Rat,ds=[d8 q,d8 r]∧r≠0∧sz q+sz r≤8900∧R (d8 (q / r)) M
def bX:DSp:=fun ds M R _=>∃ q r:Rat,ds=[d8 q,d8 r]∧sz q+sz r≤8900∧R (.bl (decide (q<r))) M
theorem J5(q:Rat):q.num.natAbs<2 ^ sz q:=Rk (RM.dM _) (RE (by decide) (RM.O5 q))
theorem G6(q:Rat):((q.den:Int)).natAbs<2 ^ sz q:=by rw[Rb];exact Rk (RM.dM _) (RE (by decide) (RM.D7 q))
theorem mNN{q r:Rat}(h:sz q+sz r≤8900):IntMulOk q.num r.num:=u4 _ _ (J5 q) (J5 r) (by omega)
theorem mND{q r:Rat}(h:sz q+sz r≤8900):IntMulOk q.num (r.den:Int):=u4 _ _ (J5 q) (G6 r) (by omega)
theorem mDD{q r:Rat}(h:sz q+sz r≤8900):IntMulOk (q.den:Int) (r.den:Int):=u4 _ _ (G6 q) (G6 r) (by omega)
theorem mDN{q r:Rat}(h:sz q+sz r≤8900):IntMulOk (q.den:Int) r.num:=u4 _ _ (G6 q) (J5 r) (by omega)
theorem lDD{q r:Rat}(h:sz q+sz r≤8900):((q.den:Int)*(r.den:Int)).natAbs.log2<9000:=by
 have h1:=RM.X7 q.den r.den
 have h2:=RM.D7 q
 have h3:=RM.D7 r
 rw[RL,Rb,Rb]
 unfold RM.bl at *
 omega
theorem lDN{q r:Rat}(h:sz q+sz r≤8900):((q.den:Int)*r.num).natAbs.log2<9000:=by
 have h1:=RM.X7 q.den r.num.natAbs
 have h2:=RM.D7 q
 have h3:=RM.O5 r
 rw[RL,Rb]
 unfold RM.bl at *
 omega
theorem IL{r:Rat}(h:r≠0):r.num≠0:=fun z=>h (VR.mp z)
noncomputable def f6(q:Rat):Rat:=if 0≤q then q else -q
theorem er(q:Rat):0≤f6 q:=by
 unfold f6;split
 ·assumption
 ·grind
theorem pk(q:Rat):f6 q*f6 q=q*q:=by
 unfold f6;split
 ·rfl
 ·grind
theorem Cp(q:Rat):d8 (f6 q) = .tup [.int (q.num.natAbs:Int),.int (q.den:Int)]:=by
 unfold f6 d8
 have hz:0≤q↔0≤q.num:=We.symm
 split
 ·rename_i h
  have:=hz.mp h
  rw[show q.num=(q.num.natAbs:Int)by omega];simp
 ·rename_i h
  have h':¬ 0≤q.num:=fun z=>h (hz.mpr z)
  rw[Ve,Vf,show -q.num=(q.num.natAbs:Int)by omega]
end GM
namespace GM
open RM (sz)
theorem sr{a:Rat}{A:Int}{D S:Nat}(hS:0<S)(hD:D≠0)(hd:D<2 ^ S)(h:a*(D:Rat)=(A:Rat))(hA:A.natAbs<2 ^ S):sz a≤S:=by
 have hD':(D:Rat)≠0:=by
  intro z;exact hD (by exact_mod_cast z)
 have e:a=RZ A (D:Int):=by
  rw[Sv]
  have:a=(A:Rat) / (D:Rat):=by grind
  rw[this];rfl
 rw[e]
 exact Ro (RM.N7 A D (by omega)) (Ub.mpr ⟨RM.U3 hA hS,RM.U3 (by rw[Rb];exact hd) hS⟩)
structure CD(S:Nat)(a b c d:Rat):Prop where
 ex:∃(A B C E:Int) (D:Nat),D≠0∧D<2 ^ S∧(A.natAbs<2 ^ S∧B.natAbs<2 ^ S∧C.natAbs<2 ^ S∧E.natAbs<2 ^ S)∧a*(D:Rat)=(A:Rat)∧b*(D:Rat)=(B:Rat)∧c*(D:Rat)=(C:Rat)∧d*(D:Rat)=(E:Rat)
theorem u0(q:Rat){k:Nat}(h:sz q≤k):q.num.natAbs<2 ^ k:=Rk (RM.dM _) (RE (by decide) (Ro (RM.O5 q) h))
theorem o9(q:Rat){k:Nat}(h:sz q≤k):q.den<2 ^ k:=Rk (RM.dM _) (RE (by decide) (Ro (RM.D7 q) h))
theorem v8(q:Rat):q*(q.den:Rat)=(q.num:Rat):=by
 have h:(q.den:Rat)≠0:=by
  intro z;exact q.den_nz (by exact_mod_cast z)
 have e:=Tj q
 rw[Sv,Rq]at e
 grind
theorem o6{a b m n:Nat}(h1:a<2 ^ m)(h2:b<2 ^ n):a*b<2 ^ (m+n):=by
 rw[Uv];exact VM h1 h2
theorem e8{a b:Int}{m n:Nat}(h1:a.natAbs<2 ^ m)(h2:b.natAbs<2 ^ n):(a*b).natAbs<2 ^ (m+n):=by
 rw[RL];exact o6 h1 h2
theorem A4{a b:Int}{m:Nat}(h1:a.natAbs<2 ^ m)(h2:b.natAbs<2 ^ m):(a+b).natAbs<2 ^ (m+1):=by
 have:=Vv a b
 rw[Uk];omega
theorem bO{a m n:Nat}(h:a<2 ^ m)(hn:m≤n):a<2 ^ n:=Rk h (RE (by decide) hn)
theorem CD.one:CD 1 1 0 0 1:=⟨1,0,0,1,1,by decide,by decide,⟨by decide,by decide,by decide,by decide⟩,by grind,by grind,by grind,by grind⟩
theorem CD.neg{S:Nat}{a b c d:Rat}(h:CD S a b c d):CD S (-a) (-b) (-c) (-d):=by
 obtain⟨A,B,C,E,D,h0,hd,⟨h1,h2,h3,h4⟩,e1,e2,e3,e4⟩:=h.ex
 refine⟨-A,-B,-C,-E,D,h0,hd,⟨by rw[SM];exact h1,by rw[SM];exact h2,by rw[SM];exact h3,by rw[SM];exact h4⟩,?_,?_,?_,?_⟩<;>(rw[UR];grind)
theorem CD.swap{S:Nat}{a b c d:Rat}(h:CD S a b c d):CD S c d a b:=by
 obtain⟨A,B,C,E,D,h0,hd,⟨h1,h2,h3,h4⟩,e1,e2,e3,e4⟩:=h.ex
 exact⟨C,E,A,B,D,h0,hd,⟨h3,h4,h1,h2⟩,e3,e4,e1,e2⟩
theorem CD.step{S k:Nat}{a b c d q:Rat}(h:CD S a b c d)(hq:sz q≤k):CD (S+k+1) (a+q*c) (b+q*d) c d:=by
 obtain⟨A,B,C,E,D,h0,hd,⟨h1,h2,h3,h4⟩,e1,e2,e3,e4⟩:=h.ex
 have hn:=u0 q hq
 have hm:=o9 q hq
 have hm':(q.den:Int).natAbs<2 ^ k:=by rw[Rb];exact hm
 have e:=v8 q
 have z:∀{X:Int},X.natAbs<2 ^ S→(X*(q.den:Int)).natAbs<2 ^ (S+k):=fun h=>e8 h hm'
 have z2:∀{X:Int},X.natAbs<2 ^ S→(X*q.num).natAbs<2 ^ (S+k):=fun h=>e8 h hn
 refine⟨A*(q.den:Int)+C*q.num,B*(q.den:Int)+E*q.num,C*(q.den:Int),E*(q.den:Int),D*q.den,Sy h0 q.den_nz,bO (o6 hd hm) (by omega),
  ⟨A4 (z h1) (z2 h3),A4 (z h2) (z2 h4),bO (z h3) (by omega),bO (z h4) (by omega)⟩,?_,?_,?_,?_⟩
 all_goals (simp only[RK,SF,Rm,Rq];grind)
theorem CD.scale{S k:Nat}{a b c d q r:Rat}(h:CD S a b c d)(hq:sz q≤k)(hp:0<q.num)(hr:r*q=1):CD (S+2*k) (q*a) (q*b) (r*c) (r*d):=by
 obtain⟨A,B,C,E,D,h0,hd,⟨h1,h2,h3,h4⟩,e1,e2,e3,e4⟩:=h.ex
 have hn:=u0 q hq
 have hm:=o9 q hq
 have hm':(q.den:Int).natAbs<2 ^ k:=by rw[Rb];exact hm
 have e:=v8 q
 obtain⟨n,en⟩:∃ n:Nat,q.num=(n:Int):=⟨q.num.toNat,by omega⟩
 rw[en]at hn e hp
 rw[Rb]at hn
 rw[Rq]at e
 have hn':(n:Int).natAbs<2 ^ k:=by rw[Rb];exact hn
 refine⟨A*((n:Int)*n),B*((n:Int)*n),C*((q.den:Int)*q.den),E*((q.den:Int)*q.den),D*(n*q.den),Sy h0 (Sy (by omega) q.den_nz),?_,⟨?_,?_,?_,?_⟩,?_,?_,?_,?_⟩
 ·rw[show S+2*k=S+(k+k)by omega];exact o6 hd (o6 hn hm)
 ·rw[show S+2*k=S+(k+k)by omega];exact e8 h1 (e8 hn' hn')
 ·rw[show S+2*k=S+(k+k)by omega];exact e8 h2 (e8 hn' hn')
 ·rw[show S+2*k=S+(k+k)by omega];exact e8 h3 (e8 hm' hm')
 ·rw[show S+2*k=S+(k+k)by omega];exact e8 h4 (e8 hm' hm')
 all_goals (simp only[RK,Rm,Rq];grind)
end GM
namespace GM
open PySem PySem.Spec L2 DL
open RM (sz)
noncomputable abbrev et(a b c d:Rat):D:=.tup [d8 a,d8 b,d8 c,d8 d]
noncomputable abbrev u3(y u:Rat):D:=.tup [d8 y,d8 u]
structure T4(S:Nat)(a b c d:Rat):Prop where
 a:sz a≤S
 b:sz b≤S
 c:sz c≤S
 d:sz d≤S
structure T2(S:Nat)(y u:Rat):Prop where
 y:sz y≤S
 u:sz u≤S
theorem CD.t4{S:Nat}{a b c d:Rat}(h:CD S a b c d)(hS:0<S:=by omega):T4 S a b c d:=by
 obtain⟨A,B,C,E,D,h0,hd,⟨h1,h2,h3,h4⟩,e1,e2,e3,e4⟩:=h.ex
 exact⟨sr hS h0 hd e1 h1,sr hS h0 hd e2 h2,sr hS h0 hd e3 h3,sr hS h0 hd e4 h4⟩
def ey:DSp:=fun ds M R _=>∃ a b c d:Rat,ds=[u3 a c,u3 b d]∧R (et a b c d) M
theorem LI{q:Rat}(h:0<q.num):D.tup [.int (q.den:Int),.int q.num]=d8 q⁻¹:=by
 unfold d8
 have h1:q⁻¹.num=(q.den:Int):=by rw[Rat.num_inv,TH h,VQ]
 have h2:((q⁻¹).den:Int)=q.num:=by
  rw[Rat.inv_def,Rat.den_divInt,if_neg (by omega)]
  have hg:q.num.gcd (q.den:Int)=1:=by
   have:=q.reduced
   unfold Vw
   rw[Rb];exact this
  rw[hg,Nat.div_one];omega
 rw[h1,h2]
theorem CD.mono{S S':Nat}{a b c d:Rat}(h:CD S a b c d)(hs:S≤S'):CD S' a b c d:=by
 obtain⟨A,B,C,E,D,h0,hd,⟨h1,h2,h3,h4⟩,e1,e2,e3,e4⟩:=h.ex
 exact⟨A,B,C,E,D,h0,bO hd hs,⟨bO h1 hs,bO h2 hs,bO h3 hs,bO h4 hs⟩,e1,e2,e3,e4⟩
theorem qT(n:Int):d8 (n:Rat) = .tup [.int n,.int 1]:=by
 unfold d8
 rw[VT,VU];rfl
theorem HF{n:Int}{k:Nat}(hk:0<k)(h:n.natAbs<2 ^ k):sz (n:Rat)≤k:=by
 refine RM.zU _ hk ?_ ?_
 ·rw[VT];exact h
 ·rw[VU];exact Vp (by omega)
theorem eu(q:Rat):sz (f6 q)=sz q:=by
 unfold f6;split
 ·rfl
 ·exact RM.O6 q
noncomputable def g6(x:Str × Rat):D:=.tup [.str x.1,d8 x.2]
noncomputable def B5(x:Str × Rat)(y u:Rat):Rat × Rat:=if x.1 = "gap" then(y+x.2*u,u)else if x.1 = "glass" then(y,u - x.2*y)else(y,u)
noncomputable def h8(bs:List (Str × Rat))(r:Rat × Rat):Rat × Rat:=bs.foldl (fun r x=>B5 x r.1 r.2) r
theorem CD.led{S:Nat}{x:Str × Rat}{y u:Rat}(h:CD S y 0 u 0)(hx:sz x.2≤41):CD (S+42) (B5 x y u).1 0 (B5 x y u).2 0:=by
 unfold B5
 split
 ·have:=h.step hx
  rw[show(0:Rat)+x.2*0=0 by grind]at this
  exact this
 ·split
  ·have:=(h.swap.step (q:=-x.2) (k:=41) (by rw[RM.O6];exact hx)).swap
   rw[show(0:Rat) + -x.2*0=0 by grind,show u + -x.2*y=u - x.2*y by grind]at this
   exact this
  ·exact h.mono (by omega)
theorem CD.t2{S:Nat}{y u:Rat}(h:CD S y 0 u 0)(hS:0<S:=by omega):T2 S y u:=⟨h.t4.a,h.t4.c⟩
theorem CD.ray{y u:Rat}{k:Nat}(h1:sz y≤k)(h2:sz u≤k):CD (2*k) y 0 u 0:=by
 have n1:=u0 y h1
 have d1:=o9 y h1
 have n2:=u0 u h2
 have d2:=o9 u h2
 have d1':(y.den:Int).natAbs<2 ^ k:=by rw[Rb];exact d1
 have d2':(u.den:Int).natAbs<2 ^ k:=by rw[Rb];exact d2
 have e1:=v8 y
 have e2:=v8 u
 refine⟨y.num*(u.den:Int),0,u.num*(y.den:Int),0,y.den*u.den,Sy y.den_nz u.den_nz,?_,⟨?_,?_,?_,?_⟩,?_,?_,?_,?_⟩
 ·rw[show 2*k=k+k by omega];exact o6 d1 d2
 ·rw[show 2*k=k+k by omega];exact e8 n1 d2'
 ·exact Sx _
 ·rw[show 2*k=k+k by omega];exact e8 n2 d1'
 ·exact Sx _
 all_goals (simp only[RK,Rm,Rq,Rat.intCast_zero];grind)
theorem Q3{bs:List (Str × Rat)}{i:Nat}{x:Str × Rat}(h:bs[i]? = some x)(r:Rat × Rat):h8 (bs.take (i+1)) r=B5 x (h8 (bs.take i) r).1 (h8 (bs.take i) r).2:=by
 obtain⟨hl,he⟩:=Rc.mp h
 unfold h8
 rw[SA hl,List.foldl_append,he]
 rfl
theorem N4(bs:List (Str × Rat))(y u:Rat):(h8 bs (y,u)).1=(h8 bs (1,0)).1*y+(h8 bs (0,1)).1*u∧(h8 bs (y,u)).2=(h8 bs (1,0)).2*y+(h8 bs (0,1)).2*u:=by
 have gen:∀(bs:List (Str × Rat)) (y u a b c d z w:Rat),z=a*y+b*u→w=c*y+d*u →
   (h8 bs (z,w)).1=(h8 bs (a,c)).1*y+(h8 bs (b,d)).1*u∧(h8 bs (z,w)).2=(h8 bs (a,c)).2*y+(h8 bs (b,d)).2*u:=by
  intro bs
  induction bs with
  | nil=>intro y u a b c d z w h1 h2;exact⟨h1,h2⟩
  | cons x r ih =>
   intro y u a b c d z w h1 h2
   refine ih y u (B5 x a c).1 (B5 x b d).1 (B5 x a c).2 (B5 x b d).2 (B5 x z w).1 (B5 x z w).2 ?_ ?_
   ·unfold B5;split
    ·grind
    ·split<;>grind
   ·unfold B5;split
    ·grind
    ·split<;>grind
 exact gen bs y u 1 0 0 1 y u (by grind) (by grind)
theorem mB{bs:List (Str × Rat)}{i:Nat}{d:D}(h:(bs.map g6)[i]? = some d):∃ x,bs[i]? = some x∧d=g6 x:=by
 rw[Rj]at h
 cases e:bs[i]? with
 | none=>rw[e]at h;cases h
 | some x=>rw[e]at h;exact⟨x,rfl,(Option.some.inj h).symm⟩
theorem Ew(bs:List (Str × Rat)):(h8 bs (1,0)).1*(h8 bs (0,1)).2 - (h8 bs (0,1)).1*(h8 bs (1,0)).2=1:=by
 have gen:∀(bs:List (Str × Rat)) (y u z w:Rat),(h8 bs (y,u)).1*(h8 bs (z,w)).2 - (h8 bs (z,w)).1*(h8 bs (y,u)).2=y*w - z*u:=by
  intro bs
  induction bs with
  | nil=>intro y u z w;rfl
  | cons x r ih =>
   intro y u z w
   have:=ih (B5 x y u).1 (B5 x y u).2 (B5 x z w).1 (B5 x z w).2
   refine Eq.trans this ?_
   unfold B5
   split
   ·grind
   ·split<;>grind
 have:=gen bs 1 0 0 1
 rw[this];grind
def qA:DSp:=fun ds M R _=>∃ q:Rat,ds=[d8 q]∧R (d8 (f6 q)) M
theorem mC{x y:Str × Rat}(h:g6 x=g6 y):x=y:=by
 unfold g6 at h
 injection h with h
 injection h with h1 h2
 injection h1 with h1
 injection h2 with h2 _
 exact Prod.ext h1 (A9 h2)
theorem j3{x y:Str × Rat}:g6 x=g6 y↔x=y:=⟨mC,fun h=>by rw[h]⟩
theorem i4{xs ys:List (Str × Rat)}:xs.map g6=ys.map g6↔xs=ys:=Ul (fun _ _ h=>mC h)
noncomputable def r9(l:Rat × Rat × Rat):D:=.tup [d8 l.1,d8 l.2.1,d8 l.2.2]
theorem mF{x y:Rat × Rat × Rat}(h:r9 x=r9 y):x=y:=by
 unfold r9 at h
 injection h with h
 injection h with h1 h2
 injection h2 with h2 h3
 injection h3 with h3 _
 exact Prod.ext (A9 h1) (Prod.ext (A9 h2) (A9 h3))
theorem j4{x y:Rat × Rat × Rat}:r9 x=r9 y↔x=y:=⟨mF,fun h=>by rw[h]⟩
theorem i7{xs ys:List (Rat × Rat × Rat)}:xs.map r9=ys.map r9↔xs=ys:=Ul (fun _ _ h=>mF h)
theorem HX{p q r:Rat}:D.tup [d8 p,d8 q,d8 r]=r9 (p,q,r):=rfl
theorem uV{gs:aG}{l:Rat × Rat × Rat}{e:Ev}{M:Mem}{Q:Ev→Mem→Prop}:rV 3 gs (r9 l) e M Q=gs [d8 l.1,d8 l.2.1,d8 l.2.2] e M Q:=iD rfl
theorem uY{l:Rat × Rat × Rat}{M:Mem}{R:DK}:gIx (r9 l) (.int 0) M R=R (d8 l.1) M:=ia
theorem uX{l:Rat × Rat × Rat}{M:Mem}{R:DK}:gIx (r9 l) (.int 1) M R=R (d8 l.2.1) M:=hZ
theorem uW{l:Rat × Rat × Rat}{M:Mem}{R:DK}:gIx (r9 l) (.int 2) M R=R (d8 l.2.2) M:=sH
theorem yA{q:Rat}{M:Mem}{R:DK}:gIx (d8 q) (.int 0) M R=R (.int q.num) M:=ia
theorem yz{q:Rat}{M:Mem}{R:DK}:gIx (d8 q) (.int 1) M R=R (.int (q.den:Int)) M:=hZ
theorem yy{gs:aG}{q:Rat}{e:Ev}{M:Mem}{Q:Ev→Mem→Prop}:rV 2 gs (d8 q) e M Q=gs [.int q.num,.int (q.den:Int)] e M Q:=iD rfl
theorem yx{q:Rat}{M:Mem}{R:DK}:xX [d8 q] M R=R (.int 2) M:=qm rfl
theorem uU{x:Str × Rat}{M:Mem}{R:DK}:gIx (g6 x) (.int 0) M R=R (.str x.1) M:=ia
theorem uT{x:Str × Rat}{M:Mem}{R:DK}:gIx (g6 x) (.int 1) M R=R (d8 x.2) M:=hZ
theorem uS{gs:aG}{x:Str × Rat}{e:Ev}{M:Mem}{Q:Ev→Mem→Prop}:rV 2 gs (g6 x) e M Q=gs [.str x.1,d8 x.2] e M Q:=iD rfl
theorem pY{q:Rat}{M:Mem}{R:DK}:C8 [d8 q,.ty "tuple"] M R=R (.bl true) M:=y4 rfl rfl
theorem lR{x:Str × Rat}{M:Mem}{R:DK}:C8 [g6 x,.ty "tuple"] M R=R (.bl true) M:=y4 rfl rfl
theorem uR{x:Str × Rat}{M:Mem}{R:DK}:xX [g6 x] M R=R (.int 2) M:=qm rfl
theorem Dm{q:Rat}:cl 60 (d8 q)=true:=rfl
theorem Dn{q:Rat}:cl 59 (d8 q)=true:=rfl
theorem Dp{q:Rat}:cl 58 (d8 q)=true:=rfl
theorem Dq{q:Rat}:cl 57 (d8 q)=true:=rfl
theorem r0:D.tup [.int 0,.int 1]=d8 0:=rfl
theorem r1:D.tup [.int 1,.int 1]=d8 1:=rfl
theorem r2:D.tup [.int 2,.int 1]=d8 2:=rfl
theorem r4:D.tup [.int 4,.int 1]=d8 4:=rfl
theorem Li{q:Rat}:D.tup [.int (q.num.natAbs:Int),.int (q.den:Int)]=d8 (f6 q):=(Cp q).symm
theorem Lh{q:Rat}:D.tup [.int (-q.num),.int (q.den:Int)]=d8 (-q):=by unfold d8;rw[Ve,Vf]
theorem HW{q:Rat}:D.tup [.int q.num,.int (q.den:Int)]=d8 q:=rfl
theorem rm2:D.tup [.int (-2),.int 1]=d8 (-2):=rfl
theorem rm1:D.tup [.int (-1),.int 1]=d8 (-1):=rfl
end GM
local macro_rules|`(tactic| walk_at "inj")=>`(tactic| (rename_i e h;simp only[List.cons.injEq,and_true,true_and,GM.j8,GM.j3,GM.i4,GM.j4,GM.i7,DL.D.tup.injEq,DL.D.ref.injEq,DL.D.int.injEq,DL.D.str.injEq,DL.D.bl.injEq,DL.D.vl.injEq,Rz,and_assoc]at e;(repeat(obtain⟨e1,e⟩:=e;subst e1));subst e;exact h))
local macro_rules|`(tactic| walk_at "injs")=>`(tactic| (rename_i e o h;rcases o with o|o<;>(subst o;first|(exfalso;simp only[DL.D.tup.injEq,List.cons.injEq,reduceCtorEq,false_and,and_false]at e;done)|(simp only[List.cons.injEq,and_true,true_and,GM.j8,GM.j3,GM.i4,GM.j4,GM.i7,DL.D.tup.injEq,DL.D.ref.injEq,DL.D.int.injEq,DL.D.str.injEq,DL.D.bl.injEq,DL.D.vl.injEq,Rz,and_assoc]at e;(repeat(obtain⟨e1,e⟩:=e;subst e1));subst e;exact h))))
namespace GM
open PySem PySem.Spec L2 DL
open RM (sz)
theorem fe{a b:Nat}{M:Mem}{R:DK}{Y:DXK}:N8 [.int (a:Int),.int (b:Int)] M R Y=(R (.int ((RW a b:Nat):Int)) M):=propext ⟨fun z=>by obtain⟨_,_,_,_⟩:=z;walk_at "inj",fun h=>⟨a,b,rfl,h⟩⟩
theorem uE{q:Rat}{M:Mem}{R:DK}{Y:DXK}:mr [d8 q] M R Y=(R (d8 (-q)) M):=propext ⟨fun z=>by obtain⟨_,_,_⟩:=z;walk_at "inj",fun h=>⟨q,rfl,h⟩⟩
theorem pF{q r:Rat}{M:Mem}{R:DK}{Y:DXK}:G9 [d8 q,d8 r] M R Y=(sz q+sz r≤8900∧R (d8 (q+r)) M):=propext ⟨fun z=>by obtain⟨_,_,_,_⟩:=z;walk_at "inj",fun h=>⟨q,r,rfl,h⟩⟩
theorem lh{q r:Rat}{M:Mem}{R:DK}{Y:DXK}:E7 [d8 q,d8 r] M R Y=(sz q+sz r≤8900∧R (d8 (q - r)) M):=propext ⟨fun z=>by obtain⟨_,_,_,_⟩:=z;walk_at "inj",fun h=>⟨q,r,rfl,h⟩⟩
theorem kZ{q r:Rat}{M:Mem}{R:DK}{Y:DXK}:E6 [d8 q,d8 r] M R Y=(sz q+sz r≤8900∧R (d8 (q*r)) M):=propext ⟨fun z=>by obtain⟨_,_,_,_⟩:=z;walk_at "inj",fun h=>⟨q,r,rfl,h⟩⟩
theorem pG{q r:Rat}{M:Mem}{R:DK}{Y:DXK}:U5 [d8 q,d8 r] M R Y=(r≠0∧sz q+sz r≤8900∧R (d8 (q / r)) M):=propext ⟨fun z=>by obtain⟨_,_,_,_⟩:=z;walk_at "inj",fun h=>⟨q,r,rfl,h⟩⟩
theorem pI{q r:Rat}{M:Mem}{R:DK}{Y:DXK}:bX [d8 q,d8 r] M R Y=(sz q+sz r≤8900∧R (.bl (decide (q<r))) M):=propext ⟨fun z=>by obtain⟨_,_,_,_⟩:=z;walk_at "inj",fun h=>⟨q,r,rfl,h⟩⟩
theorem uF{a b:Int}{M:Mem}{R:DK}{Y:DXK}:X9 [.int a,.int b] M R Y=(b≠0∧b.natAbs.log2<9000∧R (d8 (RZ a b)) M):=propext ⟨fun z=>by obtain⟨_,_,_,_⟩:=z;walk_at "inj",fun h=>⟨a,b,rfl,h⟩⟩
theorem pD{c:Int}{M:Mem}{R:DK}{Y:DXK}:sV [.int c] M R Y=(∀ p M',M p=none→MK M M'→E3 M' p→R (.ref p) M'):=propext ⟨fun z=>by obtain⟨_,_,_⟩:=z;walk_at "inj",fun h=>⟨c,rfl,h⟩⟩
theorem pH{p:Addr}{b:Int}{M:Mem}{R:DK}{Y:DXK}:S1 [.ref p,.int b] M R Y=(E3 M p∧0<b∧b.natAbs.log2<9000∧∀(r:Int) M',0≤r→r<b→y7 p M M'→R (.int r) M'):=propext ⟨fun z=>by obtain⟨_,_,_,_⟩:=z;walk_at "inj",fun h=>⟨p,b,rfl,h⟩⟩
theorem uG{q:Rat}{M:Mem}{R:DK}{Y:DXK}:qA [d8 q] M R Y=(R (d8 (f6 q)) M):=propext ⟨fun z=>by obtain⟨_,_,_⟩:=z;walk_at "inj",fun h=>⟨q,rfl,h⟩⟩
theorem pC{q:Rat}{M:Mem}{R:DK}{Y:DXK}:sU [d8 q] M R Y=(RM.sz q≤4000∧∀ v,Ct q v→R v M):=propext ⟨fun z=>by obtain⟨_,_,_⟩:=z;walk_at "inj",fun h=>⟨q,rfl,h⟩⟩
theorem fg{a b c d:Rat}{M:Mem}{R:DK}{Y:DXK}:ey [u3 a c,u3 b d] M R Y=(R (et a b c d) M):=propext ⟨fun z=>by obtain⟨_,_,_,_,_,_⟩:=z;walk_at "inj",fun h=>⟨a,b,c,d,rfl,h⟩⟩
abbrev nW(a b c d y u:Rat)(M:Mem)(R:DK)(Y:DXK):Prop:=sz a+sz y+(sz b+sz u)≤8900∧sz c+sz y+(sz d+sz u)≤8900∧R (u3 (a*y+b*u) (c*y+d*u)) M
def DS:DSp:=fun ds M R Y=>∃(a b c d y u:Rat),ds=[et a b c d,u3 y u]∧nW a b c d y u M R Y
theorem yu{a b c d y u:Rat}{M:Mem}{R:DK}{Y:DXK}:DS [et a b c d,u3 y u] M R Y=(nW a b c d y u M R Y):=propext ⟨fun z=>by obtain⟨_,_,_,_,_,_,_,_⟩:=z;walk_at "inj",fun h=>⟨a,b,c,d,y,u,rfl,h⟩⟩
abbrev gx(x:Str × Rat)(y u:Rat)(M:Mem)(R:DK)(Y:DXK):Prop:=sz x.2+sz y+sz u≤8900∧R (u3 (B5 x y u).1 (B5 x y u).2) M
def iZ:DSp:=fun ds M R Y=>∃(x:Str × Rat) (y u:Rat),ds=[g6 x,u3 y u]∧gx x y u M R Y
theorem uO{x:Str × Rat}{y u:Rat}{M:Mem}{R:DK}{Y:DXK}:iZ [g6 x,u3 y u] M R Y=(gx x y u M R Y):=propext ⟨fun z=>by obtain⟨_,_,_,_,_⟩:=z;walk_at "inj",fun h=>⟨x,y,u,rfl,h⟩⟩
theorem ux{k:Nat}:∀{ds:List D},(∀ x∈ds,cl k x=true)→clL k ds=true
 | [],_=>rfl
 | d :: r,h=>by
  show(cl k d && clL k r)=true
  rw[h d RX,ux (fun x hx=>h x (RH _ hx))];rfl
theorem y7.put{p l:Addr}{M M':Mem}{o:MO}(h:y7 p M M')(hl:M l=none)(hp:l≠p):y7 p M (B2 M' l o):=⟨fun b u hb e=>by
  rw[A2 (by intro z;subst z;rw[hl]at e;cases e)];exact h.keep b u hb e,by
  obtain⟨x,y,z,e⟩:=h.pool.ex
  exact⟨x,y,z,by rw[A2 (Ne.symm hp)];exact e⟩⟩
theorem y7.del{p l:Addr}{M M':Mem}(h:y7 p M M')(hl:M l=none)(hp:l≠p):y7 p M (bG M' l):=⟨fun b u hb e=>by
  rw[gN (by intro z;subst z;rw[hl]at e;cases e)];exact h.keep b u hb e,by
  obtain⟨x,y,z,e⟩:=h.pool.ex
  exact⟨x,y,z,by rw[gN (Ne.symm hp)];exact e⟩⟩
theorem BX{ds:List D}{n:Nat}:Y5 ds none (some (n:Int))=ds.take n:=by
 unfold Y5 HT.sIx
 simp only[Wd,Nat.sub_zero]
 rw[if_neg (by omega)]
 by_cases h:n≤ds.length
 ·congr 1;omega
 ·rw[SR (by omega),SR (by omega)]
end GM
set_option maxHeartbeats 1000000
namespace GM
open PySem PySem.Spec L2 DL
open RM (sz)
theorem N5{xs:List D}{r:Int}{M:Mem}{R:DK}(h0:0≤r)(h1:r<xs.length)(h:∀ d∈xs,R d M):gIx (.vl xs) (.int r) M R:=by
 obtain⟨z,e,hz⟩:=Fs h0 h1
 exact⟨z,e,h z hz⟩
structure Cs(w:Rat):Prop where
 n:w.num.natAbs≤4
 d:w.den≤4
 ne:w≠0
theorem small_one:Cs 1:=⟨by decide,by decide,by decide⟩
theorem Cs.sz{w:Rat}(h:Cs w):RM.sz w≤3:=by
 rw[← Tj w]
 exact IP (by decide) (by have:=h.n;omega) (by have:=h.d;omega) (RM.E1 w)
noncomputable abbrev Q4:=Rat × Rat × Rat × Rat
noncomputable def J9(m:Q4):D:=et m.1 m.2.1 m.2.2.1 m.2.2.2
noncomputable def Q5(m k:Q4):Q4:=(m.1*k.1+m.2.1*k.2.2.1,m.1*k.2.1+m.2.1*k.2.2.2,m.2.2.1*k.1+m.2.2.2*k.2.2.1,m.2.2.1*k.2.1+m.2.2.2*k.2.2.2)
noncomputable def X3(m:Q4):Rat:=m.1*m.2.2.2 - m.2.1*m.2.2.1
def CDQ(S:Nat)(m:Q4):Prop:=CD S m.1 m.2.1 m.2.2.1 m.2.2.2
noncomputable def pwQ(m:Q4):Nat→Q4
 | 0=>(1,0,0,1)
 | k+1=>Q5 m (pwQ m k)
noncomputable def xwQ(m:Q4):Nat→Rat × Rat
 | 0=>(0,-1)
 | k+1=>((m.1+m.2.2.2)*(xwQ m k).1 - (xwQ m k).2,(xwQ m k).1)
theorem fV{m k:Q4}(h1:m.1=k.1)(h2:m.2.1=k.2.1)(h3:m.2.2.1=k.2.2.1)(h4:m.2.2.2=k.2.2.2):m=k:=Prod.ext h1 (Prod.ext h2 (Prod.ext h3 h4))
theorem vU{m:Q4}(hd:X3 m=1):∀ k,pwQ m k=(m.1*(xwQ m k).1 - (xwQ m k).2,m.2.1*(xwQ m k).1,m.2.2.1*(xwQ m k).1,m.2.2.2*(xwQ m k).1 - (xwQ m k).2)
 | 0=>by refine fV ?_ ?_ ?_ ?_<;>(simp only[pwQ,xwQ];grind)
 | k+1=>by
  have ih:=vU hd k
  have hd':m.1*m.2.2.2 - m.2.1*m.2.2.1=1:=hd
  show Q5 m (pwQ m k)=_
  rw[ih]
  generalize h1:xwQ m k=xw at *
  refine fV ?_ ?_ ?_ ?_<;>(simp only[Q5,xwQ,h1];grind)
theorem ue(a b c:Q4):Q5 (Q5 a b) c=Q5 a (Q5 b c):=by
 refine fV ?_ ?_ ?_ ?_<;>(simp only[Q5];grind)
theorem Av(m:Q4)(k:Nat):∀ j,Q5 (pwQ m j) (pwQ m k)=pwQ m (j+k)
 | 0=>by
  rw[VF]
  refine fV ?_ ?_ ?_ ?_<;>(simp only[Q5,pwQ];grind)
 | j+1=>by
  rw[show j+1+k=(j+k)+1 by omega]
  show Q5 (Q5 m (pwQ m j)) (pwQ m k)=Q5 m (pwQ m (j+k))
  rw[ue,Av m k j]
theorem CD.mul{S T:Nat}{m k:Q4}(h:CDQ S m)(g:CDQ T k):CDQ (S+T+1) (Q5 m k):=by
 obtain⟨A,B,C,E,D,h0,hd,⟨h1,h2,h3,h4⟩,e1,e2,e3,e4⟩:=h.ex
 obtain⟨A',B',C',E',D',h0',hd',⟨h1',h2',h3',h4'⟩,e1',e2',e3',e4'⟩:=g.ex
 refine⟨A*A'+B*C',A*B'+B*E',C*A'+E*C',C*B'+E*E',D*D',Sy h0 h0',bO (o6 hd hd') (by omega),⟨A4 (e8 h1 h1') (e8 h2 h3'),A4 (e8 h1 h2') (e8 h2 h4'),A4 (e8 h3 h1') (e8 h4 h3'),A4 (e8 h3 h2') (e8 h4 h4')⟩,?_,?_,?_,?_⟩
 all_goals (simp only[Q5,RK,SF,Rm];grind)
theorem CD.tr{S:Nat}{a b c d:Rat}(h:CD S a b c d):sz (a+d)≤S+1:=by
 obtain⟨A,B,C,E,D,h0,hd,⟨h1,h2,h3,h4⟩,e1,e2,e3,e4⟩:=h.ex
 exact sr (A:=A+E) (D:=D) (by omega) h0 (bO hd (by omega)) (by rw[SF];grind) (A4 h1 h4)
theorem kY{n:Int}{M:Mem}{R:DK}{Y:DXK}:de [.int n] M R Y=R (.bl true) M:=propext ⟨fun⟨_,e,h⟩=>by cases e;exact h,fun h=>⟨_,rfl,h⟩⟩
noncomputable def y9(G:Rat)(x:Str × Rat):Str × Rat:=if x.1 = "gap" then(x.1,G*x.2)else if x.1 = "glass" then(x.1,x.2 / G)else x
theorem iE(G:Rat)(x:Str × Rat):(y9 G x).1=x.1:=by
 unfold y9;split
 ·rfl
 ·split<;>rfl
theorem Bg{G:Rat}(h:G≠0)(x:Str × Rat)(y u:Rat):B5 (y9 G x) (G*y) u=(G*(B5 x y u).1,(B5 x y u).2):=by
 unfold B5
 rw[iE]
 unfold y9
 by_cases h1:x.1 = "gap"
 ·rw[if_pos h1,if_pos h1,if_pos h1]
  exact Prod.ext (by show G*y+G*x.2*u=G*(y+x.2*u);grind) rfl
 ·rw[if_neg h1,if_neg h1,if_neg h1]
  by_cases h2:x.1 = "glass"
  ·rw[if_pos h2,if_pos h2,if_pos h2]
   exact Prod.ext rfl (by show u - x.2 / G*(G*y)=u - x.2*y;grind)
  ·rw[if_neg h2,if_neg h2]
theorem AK{G:Rat}(h:G≠0)(bs:List (Str × Rat))(y u:Rat):h8 (bs.map (y9 G)) (G*y,u)=(G*(h8 bs (y,u)).1,(h8 bs (y,u)).2):=by
 induction bs generalizing y u with
 | nil=>rfl
 | cons x r ih =>
  show h8 (r.map (y9 G)) (B5 (y9 G x) (G*y) u)=_
  rw[Bg h x y u]
  exact ih _ _
noncomputable def R3(x:Str × Rat):Bool:=x.1 == "gap" || x.1 == "glass"
noncomputable def F8(bs:List (Str × Rat)):Nat:=(bs.filter R3).length
theorem rK{x:Str × Rat}(h:R3 x=false)(y u:Rat):B5 x y u=(y,u):=by
 unfold R3 at h
 rw[Bool.or_eq_false_iff]at h
 unfold B5
 rw[if_neg (by have:=h.1;intro e;rw[e]at this;cases this),if_neg (by have:=h.2;intro e;rw[e]at this;cases this)]
theorem CD.ledk{S k:Nat}{x:Str × Rat}{y u y' u':Rat}(h:CD S y y' u u')(hx:sz x.2≤k):CD (S+(k+1)) (B5 x y u).1 (B5 x y' u').1 (B5 x y u).2 (B5 x y' u').2:=by
 unfold B5
 split
 ·exact h.step hx
 ·split
  ·have:=(h.swap.step (q:=-x.2) (k:=k) (by rw[RM.O6];exact hx)).swap
   rw[show u + -x.2*y=u - x.2*y by grind,show u' + -x.2*y'=u' - x.2*y' by grind]at this
   exact this
  ·exact h.mono (by omega)
theorem Ex{k:Nat}(bs:List (Str × Rat))(hb:∀ x∈bs,R3 x=true→sz x.2≤k):∀{S:Nat} {y u y' u':Rat},CD S y y' u u'→CD (S+(k+1)*F8 bs) (h8 bs (y,u)).1 (h8 bs (y',u')).1 (h8 bs (y,u)).2 (h8 bs (y',u')).2:=by
 induction bs with
 | nil=>intro S y u y' u' h;exact h.mono (by omega)
 | cons x r ih =>
  intro S y u y' u' h
  have hr:=fun z hz=>hb z (RH _ hz)
  cases ha:R3 x with
  | false =>
   have e:F8 (x :: r)=F8 r:=by unfold F8;rw[SG,ha];rfl
   rw[e]
   show CD _ (h8 r (B5 x y u)).1 (h8 r (B5 x y' u')).1 (h8 r (B5 x y u)).2 (h8 r (B5 x y' u')).2
   rw[rK ha,rK ha]
   exact ih hr h
  | true =>
   have e:F8 (x :: r)=F8 r+1:=by unfold F8;rw[SG,ha];rfl
   rw[e,show S+(k+1)*(F8 r+1)=S+(k+1)+(k+1)*F8 r by rw[Nat.mul_succ];omega]
   exact ih hr (h.ledk (hb x RX ha))
theorem CD.wide{S k:Nat}{a b c d G:Rat}(h:CD S a b c d)(hG:sz G≤k)(hp:0<G.num):CD (S+2*k) a (G*b) (c / G) d:=by
 obtain⟨A,B,C,E,D,h0,hd,⟨h1,h2,h3,h4⟩,e1,e2,e3,e4⟩:=h.ex
 have hn:=u0 G hG
 have hm:=o9 G hG
 have hm':(G.den:Int).natAbs<2 ^ k:=by rw[Rb];exact hm
 have e:=v8 G
 obtain⟨n,en⟩:∃ n:Nat,G.num=(n:Int):=⟨G.num.toNat,by omega⟩
 rw[en]at hn e hp
 rw[Rb]at hn
 rw[Rq]at e
 have hn':(n:Int).natAbs<2 ^ k:=by rw[Rb];exact hn
 have g0:G≠0:=by
  intro z
  rw[z]at e
  have:(n:Rat)=0:=by grind
  have:n=0:=by exact_mod_cast this
  omega
 refine⟨A*((n:Int)*G.den),B*((n:Int)*n),C*((G.den:Int)*G.den),E*((n:Int)*G.den),D*(n*G.den),Sy h0 (Sy (by omega) G.den_nz),?_,⟨?_,?_,?_,?_⟩,?_,?_,?_,?_⟩
 ·rw[show S+2*k=S+(k+k)by omega];exact o6 hd (o6 hn hm)
 ·rw[show S+2*k=S+(k+k)by omega];exact e8 h1 (e8 hn' hm')
 ·rw[show S+2*k=S+(k+k)by omega];exact e8 h2 (e8 hn' hn')
 ·rw[show S+2*k=S+(k+k)by omega];exact e8 h3 (e8 hm' hm')
 ·rw[show S+2*k=S+(k+k)by omega];exact e8 h4 (e8 hn' hm')
 all_goals (simp only[RK,Rm,Rq])
 ·grind
 ·grind
 ·have:c / G*G=c:=by grind
  grind
 ·grind
theorem wU{G:Rat}(h:G≠0)(x:Str × Rat):y9 G (y9 (1 / G) x)=x:=by
 have e:=iE (1 / G) x
 by_cases h1:x.1 = "gap"
 ·have e2:y9 (1 / G) x=(x.1,1 / G*x.2):=if_pos h1
  rw[e2]
  show(if x.1 = "gap" then(x.1,G*(1 / G*x.2))else _)=x
  rw[if_pos h1]
  exact Prod.ext rfl (by show G*(1 / G*x.2)=x.2;grind)
 ·by_cases h2:x.1 = "glass"
  ·have e2:y9 (1 / G) x=(x.1,x.2 / (1 / G)):=by unfold y9;rw[if_neg h1,if_pos h2]
   rw[e2]
   show(if x.1 = "gap" then _ else if x.1 = "glass" then(x.1,x.2 / (1 / G) / G)else _)=x
   rw[if_neg h1,if_pos h2]
   exact Prod.ext rfl (by show x.2 / (1 / G) / G=x.2;grind)
  ·have e2:y9 (1 / G) x=x:=by unfold y9;rw[if_neg h1,if_neg h2]
   rw[e2]
   unfold y9
   rw[if_neg h1,if_neg h2]
theorem sC(G:Rat)(x:Str × Rat):R3 (y9 G x)=R3 x:=by unfold R3;rw[iE]
theorem yh(G:Rat)(xs:List (Str × Rat)):F8 (xs.map (y9 G))=F8 xs:=by
 induction xs with
 | nil=>rfl
 | cons x r ih =>
  unfold F8 at ih ⊢
  rw[Sh,SG,SG,sC]
  split
  ·rw[RV,RV,ih]
  ·exact ih
theorem ee(xs ys:List (Str × Rat)):F8 (xs++ys)=F8 xs+F8 ys:=by unfold F8;rw[Se,RD]
theorem sA(xs:List (Str × Rat)):F8 xs.reverse=F8 xs:=by unfold F8;rw[Vh,RQ]
theorem yi(xs:List (Str × Rat))(i:Nat):F8 (xs.take i)≤F8 xs:=by
 have:=ee (xs.take i) (xs.drop i)
 rw[TM]at this
 omega
theorem tT{G:Rat}(h:0<G.num):G≠0:=by
 intro z;rw[z]at h;exact absurd h (by decide)
noncomputable def tbQ(bs:List (Str × Rat)):Q4:=((h8 bs (1,0)).1,(h8 bs (0,1)).1,(h8 bs (1,0)).2,(h8 bs (0,1)).2)
theorem DD{G:Rat}(hp:0<G.num)(hG:sz G≤67){xs:List (Str × Rat)}(hx:∀ x∈xs,R3 x=true→sz (y9 (1 / G) x).2≤5)(ha:F8 xs≤14):CDQ 230 (tbQ xs):=by
 have g0:=tT hp
 have e:xs=(xs.map (y9 (1 / G))).map (y9 G):=by
  rw[Sg]
  exact(List.map_id xs).symm.trans (Vi fun x _=>(wU g0 x).symm)
 have c:=Ex (k:=5) (xs.map (y9 (1 / G))) (fun x h=>by
  obtain⟨z,hz,rfl⟩:=RP.mp h
  rw[sC]
  exact hx z hz) CD.one
 rw[yh]at c
 have c2:=(c.mono (show 1+(5+1)*F8 xs≤85 by omega)).wide hG hp
 have o:=AK g0 (xs.map (y9 (1 / G)))
 rw[← e]at o
 have o1:=o (1 / G) 0
 have o2:=o 0 1
 rw[show G*(1 / G)=1 by grind]at o1
 rw[show G*(0:Rat)=0 by grind]at o2
 have l1:=N4 (xs.map (y9 (1 / G))) (1 / G) 0
 unfold CDQ tbQ
 rw[o1,o2]
 generalize h8 (xs.map (y9 (1 / G))) (1,0)=p at *
 generalize h8 (xs.map (y9 (1 / G))) (0,1)=q at *
 show CD 230 (G*(h8 (xs.map (y9 (1 / G))) (1 / G,0)).1) (G*q.1) (h8 (xs.map (y9 (1 / G))) (1 / G,0)).2 q.2
 rw[l1.1,l1.2,show G*(p.1*(1 / G)+q.1*0)=p.1 by grind,show p.2*(1 / G)+q.2*0=p.2 / G by grind]
 exact c2.mono (by omega)
theorem iG(bs:List (Str × Rat)):X3 (tbQ bs)=1:=Ew bs
noncomputable def e6(near:Rat)(bs:List (Str × Rat))(far:Rat):List (Str × Rat):=bs++[(Str.ofString "glass",far)]++bs.reverse++[(Str.ofString "glass",near)]
structure B6(near:Rat)(bs:List (Str × Rat))(far:Rat):Prop where
 ex:∃ G:Rat,0<G.num∧sz G≤67∧sz (near*G)≤5∧sz (far*G)≤5∧∀ x∈bs,R3 x=true→sz (y9 (1 / G) x).2≤5
 act:F8 bs≤6
 len:bs.length≤9
 part:∀ x∈bs,sz x.2≤80∧((x.1 = "gap" ∧ 0≤x.2)∨x.1 = "glass" ∨ (x.1 = "stop" ∧ 0<x.2))
 zn:sz near≤80
 zf:sz far≤80
theorem jI{G q:Rat}(h:sz (q*G)≤5):sz (y9 (1 / G) (Str.ofString "glass",q)).2≤5:=by
 have:y9 (1 / G) (Str.ofString "glass",q)=(Str.ofString "glass",q / (1 / G)):=by
  unfold y9
  rw[if_neg (show ¬ Str.ofString "glass" = Str.ofString "gap" by decide),if_pos rfl]
 rw[this]
 by_cases g:G=0
 ·rw[g]
  show sz (q / (1 / 0))≤5
  rw[show q / (1 / 0)=(0:Rat)by grind,RM.F9];decide
 ·rw[show q / (1 / G)=q*G by grind];exact h
theorem B6.cd{near far:Rat}{bs:List (Str × Rat)}(h:B6 near bs far)(i:Nat):CDQ 230 (tbQ ((e6 near bs far).take i)):=by
 obtain⟨G,hp,hG,hn,hf,hb⟩:=h.ex
 refine DD hp hG (fun x hx ha=>?_) ?_
 ·have hx:=Ua hx
  unfold e6 at hx
  rcases RI.mp hx with hx|hx
  ·rcases RI.mp hx with hx|hx
   ·rcases RI.mp hx with hx|hx
    ·exact hb x hx ha
    ·rw[Ry.mp hx];exact jI hf
   ·exact hb x (SU.mp hx) ha
  ·rw[Ry.mp hx];exact jI hn
 ·refine Ro (yi _ _) ?_
  unfold e6
  rw[ee,ee,ee,sA]
  have:=h.act
  have e1:F8 [(Str.ofString "glass",far)]=1:=rfl
  have e2:F8 [(Str.ofString "glass",near)]=1:=rfl
  omega
theorem B6.szs{near far:Rat}{bs:List (Str × Rat)}(h:B6 near bs far):∀ x∈e6 near bs far,sz x.2≤80:=by
 intro x hx
 unfold e6 at hx
 rcases RI.mp hx with hx|hx
 ·rcases RI.mp hx with hx|hx
  ·rcases RI.mp hx with hx|hx
   ·exact(h.part x hx).1
   ·rw[Ry.mp hx];exact h.zf
  ·exact(h.part x (SU.mp hx)).1
 ·rw[Ry.mp hx];exact h.zn
theorem U0(near far:Rat)(bs:List (Str × Rat)):(e6 near bs far).length=2*bs.length+2:=by
 unfold e6
 simp only[RD,RQ,RV,SQ]
 omega
theorem aw{S T:Nat}{xs:List (Str × Rat)}{y u:Rat}(h:CDQ S (tbQ xs))(g:CD T y 0 u 0):CD (S+T+1) (h8 xs (y,u)).1 0 (h8 xs (y,u)).2 0:=by
 have c:=CD.mul (k:=(y,0,u,0)) h g
 have l:=N4 xs y u
 unfold CDQ Q5 tbQ at c
 rw[l.1,l.2]
 rw[show ∀ a b:Rat,a*0+b*0=0 from fun a b=>by grind]at c
 rw[show ∀ a b:Rat,a*0+b*0=0 from fun a b=>by grind]at c
 exact c
theorem Fj(q:Rat)(m:Int):RZ q.num ((q.den:Int)*m)=q / (m:Rat):=by
 rw[Sv,Rm,Rq,← v8 q]
 have h:(q.den:Rat)≠0:=by
  intro z;exact q.den_nz (by exact_mod_cast z)
 grind
theorem MW{m:Int}(h0:2≤m)(h1:m≤3):sz (m:Rat)≤2∧sz (1 - 1 / (m:Rat))≤2∧0<1 / (m:Rat)∧0<1 - 1 / (m:Rat):=by
 have:m=2∨m=3:=by omega
 rcases this with rfl|rfl
 ·exact⟨by decide +kernel,by decide +kernel,by decide +kernel,by decide +kernel⟩
 ·exact⟨by decide +kernel,by decide +kernel,by decide +kernel,by decide +kernel⟩
theorem oN{q:Rat}(h:0<q):0<q.num:=by
 have:=(UW 0 q).mp h
 simpa using this
theorem jf{t b:Int}{k:Nat}(hk:0<k)(ht:t.natAbs<2 ^ k)(h0:0<b)(hb:b.natAbs<2 ^ k):sz (RZ t b)≤k:=Ro (RM.N7 t b (by omega)) (Ub.mpr ⟨RM.U3 ht hk,RM.U3 hb hk⟩)
theorem tS{t b:Int}(h:0<t)(h0:0<b):0<RZ t b:=by
 rw[Sv]
 have h1:(0:Rat)<(t:Rat):=by exact_mod_cast h
 have h2:(0:Rat)<(b:Rat):=by exact_mod_cast h0
 exact(Vb h2).mpr (by grind)
theorem bp{ts bs:List Int}{k:Nat}(hk:0<k)(ht:∀ t∈ts,t.natAbs<2 ^ k)(hb:∀ b∈bs,0<b∧b.natAbs<2 ^ k):∀ t∈ts,∀ b∈bs,sz (RZ t b)≤k:=fun t h b g=>jf hk (ht t h) (hb b g).1 (hb b g).2
theorem wo{ts bs:List Int}{k:Nat}(hk:0<k)(ht:∀ t∈ts,0<t∧t.natAbs<2 ^ k)(hb:∀ b∈bs,0<b∧b.natAbs<2 ^ k):∀ t∈ts,∀ b∈bs,0<RZ t b∧sz (RZ t b)≤k:=fun t h b g=>⟨tS (ht t h).1 (hb b g).1,jf hk (ht t h).2 (hb b g).1 (hb b g).2⟩
theorem EY{ts bs:List Int}{k:Nat}(hk:0<k)(ht:∀ t∈ts,0≤t∧t.natAbs<2 ^ k)(hb:∀ b∈bs,0<b∧b.natAbs<2 ^ k):∀ t∈ts,∀ b∈bs,0≤RZ t b∧sz (RZ t b)≤k:=fun t h b g=>⟨by
 by_cases z:t=0
 ·rw[z,Rat.zero_divInt];exact Rat.le_refl
 ·exact US (tS (by have:=(ht t h).1;omega) (hb b g).1),jf hk (ht t h).2 (hb b g).1 (hb b g).2⟩
theorem lg9{n:Nat}(h:n<128):n.log2<9000:=Rk (F5 (k:=7) h (by decide)) (by decide)
abbrev gr(p:Addr)(x y:D)(M:Mem)(R:DK)(Y:DXK):Prop:=E3 M p∧∃(ts bs:List Int) (P:Rat→Prop),x = .vl (ts.map D.int)∧y = .vl (bs.map D.int)∧((0<ts.length∧ts.length≤100)∧(0<bs.length∧bs.length≤100)∧(∀ b∈bs,0<b∧b≤1000)∧∀ t∈ts,∀ b∈bs,P (RZ t b))∧∀(q:Rat) M',P q→y7 p M M'→R (d8 q) M'
def my:DSp:=fun ds M R Y=>∃(p:Addr) (x y:D),ds=[.ref p,x,y]∧gr p x y M R Y
theorem uL{p:Addr}{x y:D}{M:Mem}{R:DK}{Y:DXK}:my [.ref p,x,y] M R Y=(gr p x y M R Y):=propext ⟨fun z=>by obtain⟨_,_,_,_,_⟩:=z;walk_at "inj",fun h=>⟨p,x,y,rfl,h⟩⟩
abbrev aO(p:Addr)(G:Rat)(M:Mem)(R:DK)(Y:DXK):Prop:=E3 M p∧(0<G∧sz G≤67)∧∀(qs:List Rat) M',qs.length≤3→(∀ q∈qs,0≤q∧sz q≤5)→y7 p M M'→R (.vl ((qs.map fun q=>(Str.ofString "gap",G*q)).map g6)) M'
def nO:DSp:=fun ds M R Y=>∃(p:Addr) (G:Rat),ds=[.ref p,d8 G]∧aO p G M R Y
theorem lE{p:Addr}{G:Rat}{M:Mem}{R:DK}{Y:DXK}:nO [.ref p,d8 G] M R Y=(aO p G M R Y):=propext ⟨fun z=>by obtain⟨_,_,_,_⟩:=z;walk_at "inj",fun h=>⟨p,G,rfl,h⟩⟩
abbrev aX(p:Addr)(x:D)(n:Int)(M:Mem)(R:DK)(Y:DXK):Prop:=E3 M p∧∃ bs:List (Str × Rat),x = .vl (bs.map g6)∧(0≤n∧n≤4∧bs.length≤20)∧∀(cs:List (Str × Rat)) M',cs.length≤bs.length+n.toNat→cs.filter R3=bs.filter R3→(∀ x∈cs,x∈bs∨(x.1 = "stop" ∧ 0<x.2∧sz x.2≤10))→y7 p M M'→R (.vl (cs.map g6)) M'
def gA:DSp:=fun ds M R Y=>∃(p:Addr) (x:D) (n:Int),ds=[.ref p,x,.int n]∧aX p x n M R Y
theorem lN{p:Addr}{x:D}{n:Int}{M:Mem}{R:DK}{Y:DXK}:gA [.ref p,x,.int n] M R Y=(aX p x n M R Y):=propext ⟨fun z=>by obtain⟨_,_,_,_,_⟩:=z;walk_at "inj",fun h=>⟨p,x,n,rfl,h⟩⟩
abbrev gy(p:Addr)(M:Mem)(R:DK)(Y:DXK):Prop:=E3 M p∧∀(near:Rat) (bs:List (Str × Rat)) (far:Rat) M',B6 near bs far→bs.length≤7→F8 bs≤4→y7 p M M'→R (.tup [d8 near,.vl (bs.map g6),d8 far]) M'
def qQ:DSp:=fun ds M R Y=>∃(p:Addr),ds=[.ref p]∧gy p M R Y
theorem uP{p:Addr}{M:Mem}{R:DK}{Y:DXK}:qQ [.ref p] M R Y=(gy p M R Y):=propext ⟨fun z=>by obtain⟨_,_,_⟩:=z;walk_at "inj",fun h=>⟨p,rfl,h⟩⟩
noncomputable def lpD(w:D)(n:D)(x:Str × Rat):D:=.tup [w,n,g6 x]
noncomputable def mL(near:Rat)(bs:List (Str × Rat))(far:Rat):List D:=(bs.zipIdx.map fun x=>lpD (.str "forth") (.int (x.2:Int)) x.1)++[lpD .non .non (Str.ofString "glass",far)]++(bs.zipIdx.reverse.map fun x=>lpD (.str "back") (.int (x.2:Int)) x.1)++[lpD .non .non (Str.ofString "glass",near)]
abbrev aY(near:Rat)(bs:List (Str × Rat))(far:Rat)(M:Mem)(R:DK)(Y:DXK):Prop:=bs.length≤9∧R (.vl (mL near bs far)) M
def gB:DSp:=fun ds M R Y=>∃(near:Rat) (bs:List (Str × Rat)) (far:Rat),ds=[.tup [d8 near,.vl (bs.map g6),d8 far]]∧aY near bs far M R Y
theorem lO{near:Rat}{bs:List (Str × Rat)}{far:Rat}{M:Mem}{R:DK}{Y:DXK}:gB [.tup [d8 near,.vl (bs.map g6),d8 far]] M R Y=(aY near bs far M R Y):=propext ⟨fun z=>by obtain⟨_,_,_,_,_⟩:=z;walk_at "inj",fun h=>⟨near,bs,far,rfl,h⟩⟩
theorem qo{G near far:Rat}{bs cs:List (Str × Rat)}(hp:0<G.num)(hG:sz G≤67)(hn:sz (near*G)≤5)(hf:sz (far*G)≤5)(zn:sz near≤80)(zf:sz far≤80)
  (hb:∀ x∈bs,sz (y9 (1 / G) x).2≤5∧sz x.2≤80∧((x.1 = "gap" ∧ 0≤x.2)∨x.1 = "glass")) (hl:bs.length≤4) (hc:cs.length≤7) (hfl:cs.filter R3=bs.filter R3)
  (hm:∀ x∈cs,x∈bs∨(x.1 = "stop" ∧ 0<x.2∧sz x.2≤10)):B6 near cs far∧cs.length≤7∧F8 cs≤4:=by
 have ha:F8 cs≤4:=by
  unfold F8;rw[hfl];exact Ro (To _ _) hl
 refine⟨⟨⟨G,hp,hG,hn,hf,fun x hx h=>?_⟩,by omega,by omega,fun x hx=>?_,zn,zf⟩,hc,ha⟩
 ·rcases hm x hx with h1|⟨h1,_⟩
  ·exact(hb x h1).1
  ·unfold R3 at h;rw[h1]at h;exact absurd h (by decide)
 ·rcases hm x hx with h1|⟨h1,h2,h3⟩
  ·obtain⟨_,h2,h3⟩:=hb x h1
   exact⟨h2,h3.elim .inl fun h=>.inr (.inl h)⟩
  ·exact⟨by omega,.inr (.inr ⟨h1,h2⟩)⟩
theorem Bz{G q:Rat}(h:G≠0):(y9 (1 / G) (Str.ofString "gap",G*q)).2=q:=by
 show(if Str.ofString "gap" = Str.ofString "gap" then(Str.ofString "gap",1 / G*(G*q))else _).2=q
 rw[if_pos rfl]
 show 1 / G*(G*q)=q
 grind
theorem AM(x:Str × Rat):(y9 (1 / 1) x).2=x.2:=by
 unfold y9
 split
 ·show 1 / 1*x.2=x.2;grind
 ·split
  ·show x.2 / (1 / 1)=x.2;grind
  ·rfl
theorem rH{G:Rat}(h:0<G.num){n b:Int}(hb:b≠0):RZ (n*(G.den:Int)) (b*G.num)=(n:Rat) / (b:Rat) / G:=by
 have hd:(G.den:Rat)≠0:=by
  intro z;exact G.den_nz (by exact_mod_cast z)
 have e:=v8 G
 have g0:=tT h
 have b0:(b:Rat)≠0:=by
  intro z;exact hb (by exact_mod_cast z)
 rw[Sv,Rm,Rm,Rq,← e]
 grind
theorem Bk{G:Rat}(h0:0<G)(hG:sz G≤67){qs:List Rat}(hl:qs.length≤3)(hq:∀ q∈qs,0≤q∧sz q≤5){cs:List (Str × Rat)}(hc:cs.length≤7)
  (hfl:cs.filter R3=(qs.map fun q=>(Str.ofString "gap",G*q)).filter R3) (hm:∀ x∈cs,x∈(qs.map fun q=>(Str.ofString "gap",G*q))∨(x.1 = "stop" ∧ 0<x.2∧sz x.2≤10)) {n f b:Int}
  (hn:n.natAbs≤13) (hf:f.natAbs≤13) (hb:b=1∨b=2):B6 ((n:Rat) / (b:Rat) / G) cs ((f:Rat) / (b:Rat) / G)∧cs.length≤7∧F8 cs≤4:=by
 have hp:0<G.num:=oN h0
 have g0:=tT hp
 have sm:∀ k:Int,k.natAbs≤13→sz ((k:Rat) / (b:Rat))≤5:=fun k hk=>by
  have:=jf (t:=k) (b:=b) (k:=5) (by decide) (show k.natAbs<32 by omega) (by omega) (show b.natAbs<32 by omega)
  rw[Sv]at this
  exact this
 have z1:=RM.G8 ((n:Rat) / (b:Rat)) G g0
 have z2:=RM.G8 ((f:Rat) / (b:Rat)) G g0
 have y1:=sm n hn
 have y2:=sm f hf
 refine qo hp hG ?_ ?_ (by omega) (by omega) (fun x hx=>?_) (by rw[Rh];omega) hc hfl hm
 ·rw[show(n:Rat) / (b:Rat) / G*G=(n:Rat) / (b:Rat)by grind];exact y1
 ·rw[show(f:Rat) / (b:Rat) / G*G=(f:Rat) / (b:Rat)by grind];exact y2
 ·obtain⟨q,h1,rfl⟩:=RP.mp hx
  have h2:=hq q h1
  have z3:=RM.u5 G q
  exact⟨by rw[Bz g0];exact h2.2,by show sz (G*q)≤80;omega,.inl ⟨rfl,RU (US h0) h2.1⟩⟩
theorem qX{near far:Rat}{bs cs:List (Str × Rat)}(hn:sz near≤5)(hf:sz far≤5)(hb:∀ x∈bs,sz x.2≤5∧((x.1 = "gap" ∧ 0≤x.2)∨x.1 = "glass"))(hl:bs.length≤4)(hc:cs.length≤7)(hfl:cs.filter R3=bs.filter R3)
  (hm:∀ x∈cs,x∈bs∨(x.1 = "stop" ∧ 0<x.2∧sz x.2≤10)):B6 near cs far∧cs.length≤7∧F8 cs≤4 :=
 qo (G:=1) (by decide) (by rw[RM.R9];decide) (by rw[show near*1=near by grind];exact hn) (by rw[show far*1=far by grind];exact hf) (by omega) (by omega)
  (fun x hx=>⟨by rw[AM];exact(hb x hx).1,Ro (hb x hx).1 (by decide),(hb x hx).2⟩) hl hc hfl hm
theorem eX(bs:List (Str × Rat)):U1 (bs.map g6)=bs.zipIdx.map fun x=>D.tup [.int (x.2:Int),g6 x.1]:=by
 unfold U1
 refine TR (by simp) fun i h1 h2=>?_
 simp
theorem BJ(bs:List (Str × Rat)):bQ ((bs.length:Int) - 1) bs.length=bs.zipIdx.reverse.map fun x=>D.int (x.2:Int):=by
 unfold bQ
 refine TR (by simp) fun i h1 h2=>?_
 have hi:i<bs.length:=by simpa using h1
 simp only[List.getElem_map,List.getElem_range,UZ,List.getElem_zipIdx,RO]
 congr 1
 omega
noncomputable def g8(near:Rat)(bs:List (Str × Rat))(far:Rat):List (D × D × (Str × Rat)):=(bs.zipIdx.map fun x=>(D.str "forth",D.int (x.2:Int),x.1))++[(.non,.non,(Str.ofString "glass",far))]++(bs.zipIdx.reverse.map fun x=>(D.str "back",D.int (x.2:Int),x.1))++[(.non,.non,(Str.ofString "glass",near))]
theorem oX(near far:Rat)(bs:List (Str × Rat)):mL near bs far=(g8 near bs far).map fun z=>lpD z.1 z.2.1 z.2.2:=by
 unfold mL g8
 simp only[RB,Sg,Sh,SV,Tw]
 rfl
theorem dS(near far:Rat)(bs:List (Str × Rat)):e6 near bs far=(g8 near bs far).map fun z=>z.2.2:=by
 unfold e6 g8
 simp only[RB,Sg,Sh,SV,Tw]
 have e1:∀ w:D,Td ((fun z:D × D × (Str × Rat)=>z.2.2) ∘ fun x:(Str × Rat) × Nat=>(w,D.int (x.2:Int),x.1)) bs.zipIdx=bs:=fun w=>by
  have:((fun z:D × D × (Str × Rat)=>z.2.2) ∘ fun x:(Str × Rat) × Nat=>(w,D.int (x.2:Int),x.1))=Prod.fst:=rfl
  rw[this];exact List.zipIdx_map_fst 0 bs
 rw[e1,e1]
theorem xW{near far:Rat}{bs:List (Str × Rat)}{i:Nat}{d:D}(h:(mL near bs far)[i]? = some d):∃(w n:D) (x:Str × Rat),d = .tup [w,n,g6 x]∧(e6 near bs far)[i]? = some x:=by
 rw[oX,Rj]at h
 rw[dS,Rj]
 cases e:(g8 near bs far)[i]? with
 | none=>rw[e]at h;cases h
 | some z =>
  rw[e]at h
  exact⟨z.1,z.2.1,z.2.2,(Option.some.inj h).symm,rfl⟩
theorem mK(near far:Rat)(bs:List (Str × Rat)):(mL near bs far).length=(e6 near bs far).length:=by rw[oX,dS,Rh,Rh]
theorem qv{m k:Q4}(h:J9 m=J9 k):m=k:=by
 unfold J9 et at h
 injection h with h
 injection h with h1 h
 injection h with h2 h
 injection h with h3 h
 injection h with h4 _
 exact fV (A9 h1) (A9 h2) (A9 h3) (A9 h4)
theorem DH{q r:Rat}(h:r*r=q):sz r≤sz q:=by
 have e:=iH r
 rw[h]at e
 refine RM.qx (Ro (RM.X8 ?_) (RM.O5 q)) (Ro (RM.X8 ?_) (RM.D7 q))
 ·rw[e.1,RL];exact Uh _
 ·rw[e.2];exact Uh _
noncomputable def trQ(m:Q4):Rat:=m.1+m.2.2.2
noncomputable def eK(m:Q4):D:=if m=(1,0,0,1)then .int 1 else if m=(-1,0,0,-1)then .int 2 else if trQ m = -1 then .int 3 else if trQ m=0 then .int 4 else if trQ m=1 then .int 6 else .non
abbrev p8(m:Q4):Prop:=m=(1,0,0,1)∨m=(-1,0,0,-1)∨trQ m = -1∨trQ m=0∨trQ m=1
theorem DV{m:Q4}(h:p8 m):∃ n:Int,eK m = .int n:=by
 unfold eK
 by_cases h1:m=(1,0,0,1)
 ·exact⟨1,if_pos h1⟩
 ·rw[if_neg h1]
  by_cases h2:m=(-1,0,0,-1)
  ·exact⟨2,if_pos h2⟩
  ·rw[if_neg h2]
   by_cases h3:trQ m = -1
   ·exact⟨3,if_pos h3⟩
   ·rw[if_neg h3]
    by_cases h4:trQ m=0
    ·exact⟨4,if_pos h4⟩
    ·rw[if_neg h4]
     by_cases h5:trQ m=1
     ·exact⟨6,if_pos h5⟩
     ·rcases h with h|h|h|h|h<;>contradiction
theorem DU{m:Q4}(h:¬ p8 m):eK m = .non:=by
 unfold p8 at h
 unfold eK
 rw[if_neg (fun e=>h (.inl e)),if_neg (fun e=>h (.inr (.inl e))),if_neg (fun e=>h (.inr (.inr (.inl e)))),if_neg (fun e=>h (.inr (.inr (.inr (.inl e))))),if_neg (fun e=>h (.inr (.inr (.inr (.inr e)))))]
noncomputable def kwS(m:Q4):Str:=if p8 m then "same" else if f6 (trQ m)=2 then "shear" else if f6 (trQ m)<2 then "turns" else "off"
noncomputable def GH(m:Q4):D:=.tup [d8 m.2.2.1,d8 (m.2.2.2 - m.1),d8 (-m.2.1)]
noncomputable def uA(m:Q4):D:=if m.2.1=0 then u3 0 1 else u3 m.2.1 (trQ m / 2 - m.1)
def wN(t:Rat)(v:D):Prop:=(∃ r:Rat,0≤r∧r*r=t*t - 4∧v=d8 ((t - (if t<0 then -r else r)) / 2))∨((∀ r:Rat,r*r≠t*t - 4)∧v = .non)
def Cv(m:Q4)(v:D):Prop:=(kwS m = "same" ∧ v=eK m)∨(kwS m = "turns" ∧ v=GH m)∨(kwS m = "shear" ∧ v=uA m)∨(kwS m = "off" ∧ wN (trQ m) v)
theorem Bc(m:Q4):Q5 m (1,0,0,1)=m∧Q5 (1,0,0,1) m=m∧Q5 m (-1,0,0,-1)=(-m.1,-m.2.1,-m.2.2.1,-m.2.2.2)∧Q5 (-1,0,0,-1) m=(-m.1,-m.2.1,-m.2.2.1,-m.2.2.2):=by
 refine⟨?_,?_,?_,?_⟩<;>(refine fV ?_ ?_ ?_ ?_<;>(simp only[Q5];grind))
theorem B6.rev{near far:Rat}{bs:List (Str × Rat)}(h:B6 near bs far):B6 far bs.reverse near:=by
 obtain⟨G,g1,g2,g3,g4,g5⟩:=h.ex
 exact⟨⟨G,g1,g2,g4,g3,fun x hx=>g5 x (SU.mp hx)⟩,by rw[sA];exact h.act,by rw[RQ];exact h.len,fun x hx=>h.part x (SU.mp hx),h.zf,h.zn⟩
noncomputable def B9(m:Q4)(r:Rat × Rat):Nat→Rat × Rat
 | 0=>r
 | k+1=>(m.1*(B9 m r k).1+m.2.1*(B9 m r k).2,m.2.2.1*(B9 m r k).1+m.2.2.2*(B9 m r k).2)
theorem vQ{bs:List (Str × Rat)}(r:Rat × Rat)(k:Nat):h8 bs (B9 (tbQ bs) r k)=B9 (tbQ bs) r (k+1):=by
 have l:=N4 bs (B9 (tbQ bs) r k).1 (B9 (tbQ bs) r k).2
 exact Prod.ext l.1 l.2
theorem je(m:Q4)(r:Rat × Rat):∀ k,B9 m r k=((pwQ m k).1*r.1+(pwQ m k).2.1*r.2,(pwQ m k).2.2.1*r.1+(pwQ m k).2.2.2*r.2)
 | 0=>by
  show r=_
  simp only[pwQ]
  exact Prod.ext (by grind) (by grind)
 | k+1=>by
  have ih:=je m r k
  show(_,_)=_
  rw[ih]
  simp only[pwQ,Q5]
  exact Prod.ext (by grind) (by grind)
theorem HV{m:Q4}(hd:X3 m=1)(r:Rat × Rat)(p q:Rat)(k:Nat):p*(B9 m r (k+2)).1+q*(B9 m r (k+2)).2=trQ m*(p*(B9 m r (k+1)).1+q*(B9 m r (k+1)).2) - (p*(B9 m r k).1+q*(B9 m r k).2):=by
 have hd':m.1*m.2.2.2 - m.2.1*m.2.2.1=1:=hd
 simp only[B9,trQ]
 grind
theorem tP{S T:Nat}{m:Q4}(h:CDQ S m){y u:Rat}(g:CD T y 0 u 0):∀ k,CD (T+(S+1)*k) (B9 m (y,u) k).1 0 (B9 m (y,u) k).2 0
 | 0=>g
 | k+1=>by
  have ih:=tP h g k
  have c:=CD.mul (k:=((B9 m (y,u) k).1,0,(B9 m (y,u) k).2,0)) h ih
  unfold CDQ Q5 at c
  simp only at c
  rw[show ∀ a b:Rat,a*0+b*0=0 from fun a b=>by grind]at c
  rw[show ∀ a b:Rat,a*0+b*0=0 from fun a b=>by grind]at c
  exact c.mono (by rw[Nat.mul_succ];omega)
abbrev nG(x:D)(M:Mem)(R:DK)(Y:DXK):Prop:=∃ m:Q4,x=J9 m∧CDQ 230 m∧R (d8 (trQ m)) M
def ku:DSp:=fun ds M R Y=>∃(x:D),ds=[x]∧nG x M R Y
theorem yo{x:D}{M:Mem}{R:DK}{Y:DXK}:ku [x] M R Y=(nG x M R Y):=propext ⟨fun z=>by obtain⟨_,_,_⟩:=z;walk_at "inj",fun h=>⟨x,rfl,h⟩⟩
abbrev nM(x:D)(M:Mem)(R:DK)(Y:DXK):Prop:=∃ m:Q4,x=J9 m∧CDQ 230 m∧R (eK m) M
def xu:DSp:=fun ds M R Y=>∃(x:D),ds=[x]∧nM x M R Y
theorem yr{x:D}{M:Mem}{R:DK}{Y:DXK}:xu [x] M R Y=(nM x M R Y):=propext ⟨fun z=>by obtain⟨_,_,_⟩:=z;walk_at "inj",fun h=>⟨x,rfl,h⟩⟩
abbrev vP(x:D)(M:Mem)(R:DK)(Y:DXK):Prop:=∃ m:Q4,x=J9 m∧CDQ 230 m∧R (.str (kwS m)) M
def sKw:DSp:=fun ds M R Y=>∃(x:D),ds=[x]∧vP x M R Y
theorem FR{x:D}{M:Mem}{R:DK}{Y:DXK}:sKw [x] M R Y=(vP x M R Y):=propext ⟨fun z=>by obtain⟨_,_,_⟩:=z;walk_at "inj",fun h=>⟨x,rfl,h⟩⟩
abbrev aZ(x:D)(M:Mem)(R:DK)(Y:DXK):Prop:=∃ m:Q4,x=J9 m∧CDQ 230 m∧R (GH m) M
def nY:DSp:=fun ds M R Y=>∃(x:D),ds=[x]∧aZ x M R Y
theorem lP{x:D}{M:Mem}{R:DK}{Y:DXK}:nY [x] M R Y=(aZ x M R Y):=propext ⟨fun z=>by obtain⟨_,_,_⟩:=z;walk_at "inj",fun h=>⟨x,rfl,h⟩⟩
abbrev dH(x:D)(M:Mem)(R:DK)(Y:DXK):Prop:=∃ m:Q4,x=J9 m∧CDQ 230 m∧R (uA m) M
def tN:DSp:=fun ds M R Y=>∃(x:D),ds=[x]∧dH x M R Y
theorem pX{x:D}{M:Mem}{R:DK}{Y:DXK}:tN [x] M R Y=(dH x M R Y):=propext ⟨fun z=>by obtain⟨_,_,_⟩:=z;walk_at "inj",fun h=>⟨x,rfl,h⟩⟩
abbrev nJ(t:Rat)(M:Mem)(R:DK)(Y:DXK):Prop:=sz t≤231∧∀ v,wN t v→R v M
def HN:DSp:=fun ds M R Y=>∃(t:Rat),ds=[d8 t]∧nJ t M R Y
theorem yq{t:Rat}{M:Mem}{R:DK}{Y:DXK}:HN [d8 t] M R Y=(nJ t M R Y):=propext ⟨fun z=>by obtain⟨_,_,_⟩:=z;walk_at "inj",fun h=>⟨t,rfl,h⟩⟩
noncomputable def xwI(p q:Int):Nat→Int × Int
 | 0=>(0,1)
 | k+1=>((xwI p q k).2,p*(xwI p q k).2 - q*q*(xwI p q k).1)
theorem vD{p:Int}{q:Nat}(h:Nat.Coprime p.natAbs q):∀ k,Nat.Coprime (xwI p q k).2.natAbs q
 | 0=>by show Nat.Coprime 1 q;exact Nat.coprime_one_left q
 | k+1=>by
  have ih:=vD h k
  show Nat.Coprime (p*(xwI p q k).2 - (q:Int)*q*(xwI p q k).1).natAbs q
  have h1:Nat.Coprime (p*(xwI p q k).2).natAbs q:=by rw[RL];exact Nat.Coprime.mul_left h ih
  generalize p*(xwI p q k).2=x at *
  generalize (xwI p q k).1=y at *
  have e:Vw (x - (q:Int)*q*y) (q:Int)=Vw x (q:Int):=by
   rw[show x - (q:Int)*q*y=x+(q:Int)*(-((q:Int)*y))by grind]
   exact Int.gcd_add_mul_left_left ..
  unfold Nat.Coprime at h1 ⊢
  exact Eq.trans e h1
theorem zy{m:Q4}{p:Int}{q:Nat}(h:trQ m*(q:Rat)=(p:Rat)):∀ k,(xwQ m (k+1)).1*(q:Rat) ^ k=((xwI p q k).2:Rat)∧(xwQ m k).1*(q:Rat) ^ k=(q:Rat)*((xwI p q k).1:Rat)
 | 0=>by
  refine⟨?_,?_⟩
  ·show((m.1+m.2.2.2)*0 - -1)*(q:Rat) ^ 0=((1:Int):Rat)
   rw[show((1:Int):Rat)=1 from rfl,Rat.pow_zero];grind
  ·show(0:Rat)*(q:Rat) ^ 0=(q:Rat)*((0:Int):Rat)
   rw[show((0:Int):Rat)=0 from rfl];grind
 | k+1=>by
  obtain⟨h1,h2⟩:=zy h k
  have e2:(xwQ m (k+1+1)).1=trQ m*(xwQ m (k+1)).1 - (xwQ m k).1:=rfl
  refine⟨?_,?_⟩
  ·rw[e2]
   show _=((p*(xwI p q k).2 - (q:Int)*q*(xwI p q k).1:Int):Rat)
   rw[Ta,Rm,Rm,Rm,Rq,← h1,← h,Rat.pow_succ]
   have:(xwQ m k).1*((q:Rat) ^ k*(q:Rat))=(q:Rat)*(q:Rat)*((xwI p q k).1:Rat):=by
    rw[show(xwQ m k).1*((q:Rat) ^ k*(q:Rat))=(xwQ m k).1*(q:Rat) ^ k*(q:Rat)by grind,h2];grind
   generalize (q:Rat) ^ k=Q at *
   grind
  ·show _=(q:Rat)*((xwI p q k).2:Rat)
   rw[← h1,Rat.pow_succ]
   grind
theorem zF{m:Q4}{k:Nat}(h:(xwQ m (k+1)).1=0):(trQ m).den=1:=by
 have e:=v8 (trQ m)
 have h1:=(zy e k).1
 have c:=vD (trQ m).reduced k
 rw[h,show(0:Rat)*((trQ m).den:Rat) ^ k=0 by grind]at h1
 have:(xwI (trQ m).num (trQ m).den k).2=0:=by exact_mod_cast h1.symm
 rw[this]at c
 unfold Nat.Coprime at c
 simpa using c
theorem aF(a b:Rat):f6 (a*b)=f6 a*f6 b:=by
 have h1:=er (a*b)
 have h2:0≤f6 a*f6 b:=RU (er a) (er b)
 have h3:=pk (a*b)
 have h4:=pk a
 have h5:=pk b
 have e:f6 (a*b)*f6 (a*b)=(f6 a*f6 b)*(f6 a*f6 b):=by grind
 have f:(f6 (a*b) - f6 a*f6 b)*(f6 (a*b)+f6 a*f6 b)=0:=by grind
 rcases RR.mp f with z|z<;>grind
theorem JB(a b:Rat):f6 a - f6 b≤f6 (a - b):=by
 unfold f6
 split<;>split<;>split<;>grind
theorem vC{m:Q4}(h:2≤f6 (trQ m)):∀ k,f6 (xwQ m k).1+1≤f6 (xwQ m (k+1)).1
 | 0=>by
  show f6 0+1≤f6 ((m.1+m.2.2.2)*0 - -1)
  rw[show(m.1+m.2.2.2)*0 - -1=1 by grind]
  decide +kernel
 | k+1=>by
  have ih:=vC h k
  show _≤f6 (trQ m*(xwQ m (k+1)).1 - (xwQ m k).1)
  generalize (xwQ m (k+1)).1=x at *
  generalize (xwQ m k).1=y at *
  generalize trQ m=t at *
  have h1:=JB (t*x) y
  rw[aF]at h1
  have h2:2*f6 x≤f6 t*f6 x:=Tc h (er x)
  grind
theorem KO{m:Q4}(h:2≤f6 (trQ m))(k:Nat):(xwQ m (k+1)).1≠0:=by
 intro e
 have g:=vC h k
 rw[e]at g
 have:=er (xwQ m k).1
 have z:f6 0=0:=by decide +kernel
 grind
theorem vV{m:Q4}(hd:X3 m=1){k:Nat}(h:pwQ m (k+1)=(1,0,0,1)):p8 m:=by
 have e:=vU hd (k+1)
 rw[h]at e
 have hd':m.1*m.2.2.2 - m.2.1*m.2.2.1=1:=hd
 by_cases hx:(xwQ m (k+1)).1=0
 ·have w:=zF hx
  by_cases h2:2≤f6 (trQ m)
  ·exact absurd hx (KO h2 k)
  ·have en:=v8 (trQ m)
   rw[w]at en
   have en:trQ m=((trQ m).num:Rat):=by
    have:((1:Nat):Rat)=1:=rfl
    rw[this]at en
    grind
   generalize (trQ m).num=z at *
   have b1:(z:Rat)<2:=by rw[← en];unfold f6 at h2;split at h2<;>grind
   have b2:(-2:Rat)<z:=by rw[← en];unfold f6 at h2;split at h2<;>grind
   have b1:z<2:=by exact_mod_cast b1
   have b2:-2<z:=by rw[show(-2:Rat)=((-2:Int):Rat)from rfl]at b2;exact_mod_cast b2
   have:z = -1∨z=0∨z=1:=by omega
   rcases this with rfl|rfl|rfl
   ·exact .inr (.inr (.inl en))
   ·exact .inr (.inr (.inr (.inl en)))
   ·exact .inr (.inr (.inr (.inr en)))
 ·generalize (xwQ m (k+1)).1=x at *
  generalize (xwQ m (k+1)).2=w at *
  injection e with e1 e
  injection e with e2 e
  injection e with e3 e4
  have b0:m.2.1=0:=by
   rcases RR.mp e2.symm with z|z
   ·exact z
   ·exact absurd z hx
  have c0:m.2.2.1=0:=by
   rcases RR.mp e3.symm with z|z
   ·exact z
   ·exact absurd z hx
  have ad:m.1=m.2.2.2:=by
   have:(m.1 - m.2.2.2)*x=0:=by grind
   rcases RR.mp this with z|z
   ·grind
   ·exact absurd z hx
  have:(m.1 - 1)*(m.1+1)=0:=by grind
  rcases RR.mp this with z|z
  ·exact .inl (fV (by show m.1=1;grind) b0 c0 (by show m.2.2.2=1;grind))
  ·exact .inr (.inl (fV (by show m.1 = -1;grind) b0 c0 (by show m.2.2.2 = -1;grind)))
theorem eJ{m:Q4}(hd:X3 m=1)(h:p8 m):∃ n:Nat,eK m = .int (n:Int)∧(n=1∨n=2∨n=3∨n=4∨n=6)∧pwQ m n=(1,0,0,1):=by
 have e:=vU hd
 unfold eK
 by_cases h1:m=(1,0,0,1)
 ·exact⟨1,by rw[if_pos h1];rfl,by decide,by rw[h1];decide +kernel⟩
 ·rw[if_neg h1]
  by_cases h2:m=(-1,0,0,-1)
  ·exact⟨2,by rw[if_pos h2];rfl,by decide,by rw[h2];decide +kernel⟩
  ·rw[if_neg h2]
   by_cases h3:trQ m = -1
   ·refine⟨3,by rw[if_pos h3];rfl,by decide,?_⟩
    have h3':m.1+m.2.2.2 = -1:=h3
    rw[e 3]
    simp only[xwQ,h3']
    exact fV (by grind) (by grind) (by grind) (by grind)
   ·rw[if_neg h3]
    by_cases h4:trQ m=0
    ·refine⟨4,by rw[if_pos h4];rfl,by decide,?_⟩
     have h3':m.1+m.2.2.2=0:=h4
     rw[e 4]
     simp only[xwQ,h3']
     exact fV (by grind) (by grind) (by grind) (by grind)
    ·rw[if_neg h4]
     by_cases h5:trQ m=1
     ·refine⟨6,by rw[if_pos h5];rfl,by decide,?_⟩
      have h3':m.1+m.2.2.2=1:=h5
      rw[e 6]
      simp only[xwQ,h3']
      exact fV (by grind) (by grind) (by grind) (by grind)
     ·rcases h with h|h|h|h|h<;>contradiction
theorem HJ{t r:Rat}(h:¬ f6 t<2)(h2:¬ f6 t=2)(r0:0≤r)(r1:r*r=t*t - 4):∀ k,k=(t - (if t<0 then -r else r)) / 2→k<1∧-1<k∧k*k - t*k+1=0:=by
 intro k hk
 unfold f6 at h h2
 by_cases ht:t<0
 ·rw[if_pos ht]at hk
  rw[if_neg (by grind)]at h h2
  have e:k+k=t+r:=by grind
  have hr:r < -t:=by
   rcases Um (a:=r) (b:=(-t))with z|z
   ·rcases Decidable.em (r = -t)with y|y
    ·exfalso;rw[y]at r1;grind
    ·grind
   ·exfalso
    have:-t * -t≤r*r:=Rat.le_trans (TV z (by grind)) (Tc z r0)
    grind
  have kk:k*k - t*k+1=0:=by grind
  refine⟨by grind,?_,kk⟩
  rcases Um (a:=k) (b:=(-1))with z|z
  ·exfalso
   have e2:(k+1)*(k - t - 1)=k*k - t*k - t - 1:=by grind
   have e3:k - t - 1≥0:=by grind
   have:0≤(-1 - k)*(k - t - 1):=RU (by grind) (by grind)
   grind
  ·rcases Decidable.em (k = -1)with y|y
   ·exfalso;rw[y]at kk;grind
   ·grind
 ·rw[if_neg ht]at hk
  rw[if_pos (by grind)]at h h2
  have e:k+k=t - r:=by grind
  have kk:k*k - t*k+1=0:=by grind
  have hr:r<t:=by
   rcases Um (a:=r) (b:=t)with z|z
   ·rcases Decidable.em (r=t)with y|y
    ·exfalso;rw[y]at r1;grind
    ·grind
   ·exfalso
    have:t*t≤r*r:=Rat.le_trans (TV z (by grind)) (Tc z r0)
    grind
  refine⟨?_,by grind,kk⟩
  rcases Um (a:=1) (b:=k)with z|z
  ·exfalso
   have:0≤(k - 1)*(t - 1 - k):=RU (by grind) (by grind)
   grind
  ·rcases Decidable.em (k=1)with y|y
   ·exfalso;rw[y]at kk;grind
   ·grind
theorem lz(a y b u:Rat):sz (a*y+b*u)≤sz a+sz y+sz b+sz u+1:=by
 have h1:=RM.u5 a y
 have h2:=RM.u5 b u
 have h3:=RM.U4 (a*y) (b*u)
 omega
theorem Q7(m:Q4):(p8 m∧kwS m=Str.ofString "same")∨(¬ p8 m∧f6 (trQ m)=2∧kwS m=Str.ofString "shear")∨(¬ p8 m∧¬ f6 (trQ m)=2∧f6 (trQ m)<2∧kwS m=Str.ofString "turns")∨(¬ p8 m∧¬ f6 (trQ m)=2∧¬ f6 (trQ m)<2∧kwS m=Str.ofString "off"):=by
 unfold kwS
 by_cases h1:p8 m
 ·exact .inl ⟨h1,if_pos h1⟩
 ·rw[if_neg h1]
  by_cases h2:f6 (trQ m)=2
  ·exact .inr (.inl ⟨h1,h2,if_pos h2⟩)
  ·rw[if_neg h2]
   by_cases h3:f6 (trQ m)<2
   ·exact .inr (.inr (.inl ⟨h1,h2,h3,if_pos h3⟩))
   ·exact .inr (.inr (.inr ⟨h1,h2,h3,if_neg h3⟩))
noncomputable def hD(h:Rat × List (Str × Rat) × Rat):D:=.tup [d8 h.1,.vl (h.2.1.map g6),d8 h.2.2]
abbrev mx(near:Rat)(bs:List (Str × Rat))(far:Rat)(w:D)(M:Mem)(R:DK)(Y:DXK):Prop:=B6 near bs far∧∃ v,w = .tup [.str (kwS (tbQ (e6 near bs far))),v]∧Cv (tbQ (e6 near bs far)) v∧R (.bl true) M
abbrev ak(xs:List D)(M:Mem)(R:DK)(Y:DXK):Prop:=R (.vl xs.reverse) M
def nF:DSp:=fun ds M R Y=>∃(x0:D) (xs:List D),ds=[x0]∧(x0 = .vl (xs)∨x0 = .tup (xs))∧ak xs M R Y
theorem pJ{xs:List D}{M:Mem}{R:DK}{Y:DXK}:nF [.vl (xs)] M R Y=(ak xs M R Y):=propext ⟨fun z=>by obtain⟨_,_,_,_,_⟩:=z;walk_at "injs",fun h=>⟨_,xs,rfl,.inl rfl,h⟩⟩
theorem gO{xs:List D}{M:Mem}{R:DK}{Y:DXK}:nF [.tup (xs)] M R Y=(ak xs M R Y):=propext ⟨fun z=>by obtain⟨_,_,_,_,_⟩:=z;walk_at "injs",fun h=>⟨_,xs,rfl,.inr rfl,h⟩⟩
abbrev ao(near:Rat)(bs:List (Str × Rat))(far:Rat)(M:Mem)(R:DK)(Y:DXK):Prop:=bs.length≤9∧R (.vl ((e6 near bs far).map g6)) M
def iX:DSp:=fun ds M R Y=>∃(x0:D) (near:Rat) (bs:List (Str × Rat)) (far:Rat),ds=[.tup [d8 near,x0,d8 far]]∧(x0 = .vl (bs.map g6)∨x0 = .tup (bs.map g6))∧ao near bs far M R Y
theorem pL{near:Rat}{bs:List (Str × Rat)}{far:Rat}{M:Mem}{R:DK}{Y:DXK}:iX [.tup [d8 near,.vl (bs.map g6),d8 far]] M R Y=(ao near bs far M R Y):=propext ⟨fun z=>by obtain⟨_,_,_,_,_,_,_⟩:=z;walk_at "injs",fun h=>⟨_,near,bs,far,rfl,.inl rfl,h⟩⟩
theorem gQ{near:Rat}{bs:List (Str × Rat)}{far:Rat}{M:Mem}{R:DK}{Y:DXK}:iX [.tup [d8 near,.tup (bs.map g6),d8 far]] M R Y=(ao near bs far M R Y):=propext ⟨fun z=>by obtain⟨_,_,_,_,_,_,_⟩:=z;walk_at "injs",fun h=>⟨_,near,bs,far,rfl,.inr rfl,h⟩⟩
noncomputable def rtN(m:Q4):Nat:=if m=(1,0,0,1)then 1 else if m=(-1,0,0,-1)then 2 else if trQ m = -1 then 3 else if trQ m=0 then 4 else if trQ m=1 then 6 else 0
theorem cF(m:Q4)(h:p8 m):eK m = .int (rtN m:Int):=by
 unfold eK rtN
 by_cases h1:m=(1,0,0,1)
 ·rw[if_pos h1,if_pos h1];rfl
 ·rw[if_neg h1,if_neg h1]
  by_cases h2:m=(-1,0,0,-1)
  ·rw[if_pos h2,if_pos h2];rfl
  ·rw[if_neg h2,if_neg h2]
   by_cases h3:trQ m = -1
   ·rw[if_pos h3,if_pos h3];rfl
   ·rw[if_neg h3,if_neg h3]
    by_cases h4:trQ m=0
    ·rw[if_pos h4,if_pos h4];rfl
    ·rw[if_neg h4,if_neg h4]
     by_cases h5:trQ m=1
     ·rw[if_pos h5,if_pos h5];rfl
     ·rcases h with h|h|h|h|h<;>contradiction
theorem gD{m:Q4}(h:¬ p8 m):rtN m=0:=by
 unfold p8 at h
 unfold rtN
 rw[if_neg (fun e=>h (.inl e)),if_neg (fun e=>h (.inr (.inl e))),if_neg (fun e=>h (.inr (.inr (.inl e)))),if_neg (fun e=>h (.inr (.inr (.inr (.inl e))))),if_neg (fun e=>h (.inr (.inr (.inr (.inr e)))))]
theorem Lm{m:Q4}(hd:X3 m=1)(k:Nat):trQ (pwQ m k)=trQ m*(xwQ m k).1 - 2*(xwQ m k).2:=by
 rw[vU hd];simp only[trQ];grind
theorem HS{m:Q4}(hd:X3 m=1){j:Nat}(h0:0<j)(h1:j<rtN m):pwQ m j≠(1,0,0,1):=by
 intro e
 have ht:=Lm hd j
 rw[e,show trQ (1,0,0,1)=2 by decide +kernel]at ht
 unfold rtN at h1
 by_cases g1:m=(1,0,0,1)
 ·rw[if_pos g1]at h1;omega
 ·rw[if_neg g1]at h1
  by_cases g2:m=(-1,0,0,-1)
  ·rw[if_pos g2]at h1
   have:j=1:=by omega
   subst this
   rw[g2]at e
   exact absurd e (by decide +kernel)
  ·rw[if_neg g2]at h1
   by_cases g3:trQ m = -1
   ·rw[if_pos g3]at h1
    have g:m.1+m.2.2.2 = -1:=g3
    have:j=1∨j=2:=by omega
    rcases this with rfl|rfl
    all_goals (rw[g3]at ht;simp only[xwQ,g]at ht;grind)
   ·rw[if_neg g3]at h1
    by_cases g4:trQ m=0
    ·rw[if_pos g4]at h1
     have g:m.1+m.2.2.2=0:=g4
     have:j=1∨j=2∨j=3:=by omega
     rcases this with rfl|rfl|rfl
     all_goals (rw[g4]at ht;simp only[xwQ,g]at ht;grind)
    ·rw[if_neg g4]at h1
     by_cases g5:trQ m=1
     ·rw[if_pos g5]at h1
      have g:m.1+m.2.2.2=1:=g5
      have:j=1∨j=2∨j=3∨j=4∨j=5:=by omega
      rcases this with rfl|rfl|rfl|rfl|rfl
      all_goals (rw[g5]at ht;simp only[xwQ,g]at ht;grind)
     ·rw[if_neg g5]at h1;omega
theorem Ao{m:Q4}(hd:X3 m=1){i:Nat}(h0:0<i)(h:pwQ m i=(1,0,0,1))(hb:∀ j,0<j→j<i→pwQ m j≠(1,0,0,1)):rtN m=i:=by
 obtain⟨k,rfl⟩:∃ k,i=k+1:=⟨i - 1,by omega⟩
 have hs:=vV hd h
 obtain⟨n,e1,e2,e3⟩:=eJ hd hs
 have e4:=cF m hs
 rw[e1]at e4
 injection e4 with e4
 have e4:n=rtN m:=by omega
 rw[e4]at e2 e3
 rcases SN (k+1) (rtN m)with z|z|z
 ·exact absurd h (HS hd (by omega) z)
 ·exact z.symm
 ·exact absurd e3 (hb _ (by omega) z)
theorem DW{m:Q4}(hd:X3 m=1)(hb:∀ j,0<j→j≤12→pwQ m j≠(1,0,0,1)):rtN m=0:=by
 by_cases hs:p8 m
 ·obtain⟨n,e1,e2,e3⟩:=eJ hd hs
  exact absurd e3 (hb n (by omega) (by omega))
 ·exact gD hs
theorem tO{m:Q4}:p8 m↔0<rtN m:=by
 constructor
 ·intro h
  have e:=cF m h
  unfold rtN
  rcases h with h|h|h|h|h
  ·rw[if_pos h];decide
  all_goals (repeat' split)
  all_goals first|decide|contradiction
 ·intro h
  by_cases hs:p8 m
  ·exact hs
  ·rw[gD hs]at h;omega
theorem vX(k:Nat):∀{bs:List (Str × Rat)},(∀ x∈bs,x.1 = "gap" ∨ x.1 = "glass" ∨ x.1 = "stop")→clL (k+2) (bs.map g6)=true
 | [],_=>rfl
 | x :: r,h=>by
  have c:PyData.canLay0 (.str x.1)=true:=by
   rcases h x RX with e|e|e<;>(rw[e];decide +kernel)
  have ih:=vX k (bs:=r) fun y hy=>h y (RH _ hy)
  rw[Sh]
  show((PyData.canLay0 (.str x.1) && (cl (k+1) (d8 x.2) && true)) && clL (k+2) (r.map g6))=true
  rw[c,ih];rfl
theorem B6.cl{near far:Rat}{bs:List (Str × Rat)}(h:B6 near bs far):clL 58 (bs.map g6)=true:=vX 56 fun x hx=>by
 rcases(h.part x hx).2 with⟨e,_⟩|e|⟨e,_⟩
 ·exact .inl e
 ·exact .inr (.inl e)
 ·exact .inr (.inr e)
theorem cdA:CD 1 1 0 0 0:=⟨1,0,0,0,1,by decide,by decide,⟨by decide,by decide,by decide,by decide⟩,by grind,by grind,by grind,by grind⟩
theorem cdB:CD 1 0 0 1 0:=⟨0,0,1,0,1,by decide,by decide,⟨by decide,by decide,by decide,by decide⟩,by grind,by grind,by grind,by grind⟩
theorem mz(m:Q4)(i:Nat):B9 m (1,0) i=((pwQ m i).1,(pwQ m i).2.2.1)∧B9 m (0,1) i=((pwQ m i).2.1,(pwQ m i).2.2.2):=by
 constructor
 ·rw[je];exact Prod.ext (by show _*(1:Rat)+_*0=_;grind) (by show _*(1:Rat)+_*0=_;grind)
 ·rw[je];exact Prod.ext (by show _*(0:Rat)+_*1=_;grind) (by show _*(0:Rat)+_*1=_;grind)
theorem si{m:Q4}{i:Nat}:D.vl [u3 (B9 m (1,0) i).1 (B9 m (1,0) i).2,u3 (B9 m (0,1) i).1 (B9 m (0,1) i).2] = .vl [.tup [d8 1,d8 0],.tup [d8 0,d8 1]]↔pwQ m i=(1,0,0,1):=by
 rw[(mz m i).1,(mz m i).2]
 constructor
 ·intro h
  injection h with h
  injection h with h1 h
  injection h with h2 _
  have h1:D.tup [d8 (pwQ m i).1,d8 (pwQ m i).2.2.1] = .tup [d8 1,d8 0]:=h1
  have h2:D.tup [d8 (pwQ m i).2.1,d8 (pwQ m i).2.2.2] = .tup [d8 0,d8 1]:=h2
  injection h1 with h1
  injection h1 with h1 h3
  injection h3 with h3 _
  injection h2 with h2
  injection h2 with h2 h4
  injection h4 with h4 _
  exact fV (A9 h1) (A9 h2) (A9 h3) (A9 h4)
 ·intro h
  rw[h]
theorem J7{t:Rat}:f6 t<2 ↔ -2<t∧t<2:=by
 unfold f6;split<;>constructor<;>grind
noncomputable def M0(t x f:Rat):Rat:=4*(x*x - t*(x*f)+f*f) / (4 - t*t)
theorem qw{t:Rat}(h1:-2<t)(h2:t<2):0<4 - t*t:=by
 have:0<(2 - t)*(2+t):=Sm (by grind) (by grind)
 grind
theorem DZ{D V B n:Rat}(h1:n≠0)(h2:B≠0)(h3:D≠0):4*(n*V*B)*n / (B*(D*(n*n)))=4*V / D:=by
 have nz:B*(D*(n*n))≠0:=by
  intro z
  rcases RR.mp z with z|z
  ·exact h2 z
  ·rcases RR.mp z with z|z
   ·exact h3 z
   ·rcases RR.mp z with z|z<;>exact h1 z
 have e1:4*(n*V*B)*n / (B*(D*(n*n)))*(B*(D*(n*n)))=4*(n*V*B)*n:=by grind
 have e2:4*V / D*D=4*V:=by grind
 have:(4*(n*V*B)*n / (B*(D*(n*n))) - 4*V / D)*(B*(D*(n*n)))=0:=by
  generalize 4*(n*V*B)*n / (B*(D*(n*n)))=L at *
  generalize 4*V / D=W at *
  grind
 rcases RR.mp this with z|z
 ·grind
 ·exact absurd z nz
theorem L1{q:Rat}{b:Nat}(h:q.den ∣ b):((q.num*((b:Int).fdiv (q.den:Int)):Int):Rat)=q*(b:Rat)∧(q.num*((b:Int).fdiv (q.den:Int))).natAbs≤q.num.natAbs*b:=by
 obtain⟨k,rfl⟩:=h
 have e:((q.den*k:Nat):Int).fdiv (q.den:Int)=(k:Int):=by
  rw[L0 (by omega) (by omega),Sj]
  exact TB _ (by have:=q.den_pos;omega)
 rw[e]
 constructor
 ·rw[Rm,RK,← v8 q,Rq];grind
 ·rw[RL,Rb]
  exact Tx _ (UI k q.den_pos)
theorem Co{a b:Int}{k:Nat}(h1:a.natAbs<2 ^ k)(h2:b.natAbs<2 ^ k):(a+b).natAbs<2 ^ (k+1):=A4 h1 h2
theorem Z0{a b:Int}{k:Nat}(h1:a.natAbs<2 ^ k)(h2:b.natAbs<2 ^ k):(a - b).natAbs<2 ^ (k+1):=by
 rw[Int.sub_eq_add_neg];exact A4 h1 (by rw[SM];exact h2)
theorem q9{n k l:Nat}(h:n<2 ^ k)(hk:k≤l):n<2 ^ l:=Rk h (RE (by decide) hk)
abbrev dq(p q y u:Rat)(M:Mem)(R:DK)(Y:DXK):Prop:=sz p+sz y+(sz q+sz u)≤8900∧R (d8 (p*y+q*u)) M
def nQ:DSp:=fun ds M R Y=>∃(p q y u:Rat),ds=[d8 p,d8 q,u3 y u]∧dq p q y u M R Y
theorem pP{p q y u:Rat}{M:Mem}{R:DK}{Y:DXK}:nQ [d8 p,d8 q,u3 y u] M R Y=(dq p q y u M R Y):=propext ⟨fun z=>by obtain⟨_,_,_,_,_,_⟩:=z;walk_at "inj",fun h=>⟨p,q,y,u,rfl,h⟩⟩
noncomputable def B3(L:List (Str × Rat)):Nat→List (Rat × Rat × Rat)
 | 0=>[]
 | i+1=>B3 L i++(match L[i]? with|some x=>if x.1 = "stop" then[((h8 (L.take i) (1,0)).1,(h8 (L.take i) (0,1)).1,x.2)]else[]|none=>[])
noncomputable def A8(T:List (D × D × (Str × Rat))):Nat→List (D × D)
 | 0=>[]
 | i+1=>A8 T i++(match T[i]? with|some x=>if x.2.2.1 = "stop" then[(x.1,x.2.1)]else[]|none=>[])
noncomputable def hlD(w:D × D)(l:Rat × Rat × Rat):D:=.tup [w.1,w.2,r9 l]
noncomputable def hlN(T:List (D × D × (Str × Rat)))(i:Nat):List D:=List.zipWith hlD (A8 T i) (B3 (T.map fun z=>z.2.2) i)
theorem K7(T:List (D × D × (Str × Rat))):∀ i,(A8 T i).length=(B3 (T.map fun z=>z.2.2) i).length
 | 0=>rfl
 | i+1=>by
  have ih:=K7 T i
  unfold A8 B3
  rw[RD,RD,ih,Rj]
  cases T[i]? with
  | none=>rfl
  | some x =>
   show _+(if x.2.2.1 = "stop" then[(x.1,x.2.1)]else[]).length=_+(if x.2.2.1 = "stop" then _ else[]).length
   split<;>rfl
theorem O7(L:List (Str × Rat)):∀ i,(B3 L i).length≤i
 | 0=>Rx _
 | i+1=>by
  have ih:=O7 L i
  unfold B3
  rw[RD]
  cases L[i]? with
  | none=>exact VB ih
  | some x =>
   show _+(if x.1 = "stop" then _ else[]).length≤_
   split
   ·exact Nat.succ_le_succ ih
   ·exact VB ih
theorem fZ{L:List (Str × Rat)}{i:Nat}{x:Str × Rat}(h:L[i]? = some x):B3 L (i+1)=if x.1 = "stop" then B3 L i++[((h8 (L.take i) (1,0)).1,(h8 (L.take i) (0,1)).1,x.2)]else B3 L i:=by
 show B3 L i++(match L[i]? with|some x=>if x.1 = "stop" then[((h8 (L.take i) (1,0)).1,(h8 (L.take i) (0,1)).1,x.2)]else[]|none=>[])=_
 rw[h]
 show B3 L i++(if x.1 = "stop" then _ else[])=_
 split
 ·rfl
 ·exact SE _
theorem Je{T:List (D × D × (Str × Rat))}{i:Nat}{w n:D}{x:Str × Rat}(h:T[i]? = some (w,n,x)):hlN T (i+1)=if x.1 = "stop" then hlN T i++[.tup [w,n,r9 ((h8 ((T.map fun z=>z.2.2).take i) (1,0)).1,(h8 ((T.map fun z=>z.2.2).take i) (0,1)).1,x.2)]]else hlN T i:=by
 have hl:=K7 T i
 unfold hlN
 have h2:(T.map fun z=>z.2.2)[i]? = some x:=by rw[Rj,h];rfl
 rw[fZ h2]
 have e:A8 T (i+1)=if x.1 = "stop" then A8 T i++[(w,n)]else A8 T i:=by
  show A8 T i++(match T[i]? with|some x=>if x.2.2.1 = "stop" then[(x.1,x.2.1)]else[]|none=>[])=_
  rw[h]
  show A8 T i++(if x.1 = "stop" then _ else[])=_
  split
  ·rfl
  ·exact SE _
 rw[e]
 split
 ·rw[List.zipWith_append hl];rfl
 ·rfl
theorem L3(T:List (D × D × (Str × Rat))):∀ i,A8 T i=((T.take i).filter fun z=>z.2.2.1 == Str.ofString "stop").map fun z=>(z.1,z.2.1)
 | 0=>rfl
 | i+1=>by
  have ih:=L3 T i
  unfold A8
  rw[ih,SO,Se,RB]
  cases h:T[i]? with
  | none=>rfl
  | some x =>
   show _++(if x.2.2.1 = "stop" then[(x.1,x.2.1)]else[])=_++((Ux _ [x]).map _)
   by_cases e:x.2.2.1=Str.ofString "stop"
   ·rw[if_pos e,SG,if_pos (by rw[e];exact beq_self_eq_true _)];rfl
   ·rw[if_neg e,SG,if_neg (fun z=>e (eq_of_beq z))];rfl
noncomputable def frW(bs:List (Str × Rat)):List ((Str × Rat) × Nat):=bs.zipIdx.filter fun x=>x.1.1 == Str.ofString "stop"
theorem xl(near far:Rat)(bs:List (Str × Rat)):A8 (g8 near bs far) (g8 near bs far).length=((frW bs).map fun x=>(D.str "forth",D.int (x.2:Int)))++((frW bs).reverse.map fun x=>(D.str "back",D.int (x.2:Int))):=by
 rw[L3,RG]
 unfold g8 frW
 rw[Se,Se,Se,VV,VV,RB,RB,RB,Sg,Sg]
 have g:∀ q:Rat,Ux (fun z:D × D × (Str × Rat)=>z.2.2.1 == Str.ofString "stop") [(D.non,D.non,(Str.ofString "glass",q))]=[]:=fun q=>by
  rw[SG,if_neg (by show ¬ (Str.ofString "glass" == Str.ofString "stop")=true;decide)];rfl
 rw[g,g,SV,SE,SE,Vh]
 rfl
theorem G3(near far:Rat)(bs:List (Str × Rat)):(g8 near bs far).map (fun z=>z.2.2)=e6 near bs far:=(dS near far bs).symm
theorem C3(near far:Rat)(bs:List (Str × Rat)):(g8 near bs far).length=(e6 near bs far).length:=by rw[dS,Rh]
theorem EV(T:List (D × D × (Str × Rat)))(i:Nat):(hlN T i).length≤i:=by
 unfold hlN
 rw[Vj,← K7,Nat.min_self,K7]
 exact O7 _ i
theorem ur{near far:Rat}{bs:List (Str × Rat)}{i:Nat}{d:D}(h:(mL near bs far)[i]? = some d):∃(w n:D) (x:Str × Rat),d = .tup [w,n,g6 x]∧(g8 near bs far)[i]? = some (w,n,x)∧(e6 near bs far)[i]? = some x:=by
 rw[oX,Rj]at h
 rw[dS,Rj]
 cases e:(g8 near bs far)[i]? with
 | none=>rw[e]at h;cases h
 | some z =>
  rw[e]at h
  exact⟨z.1,z.2.1,z.2.2,(Option.some.inj h).symm,rfl,rfl⟩
noncomputable def fwD(x:(Str × Rat) × Nat):D:=.tup [.str "forth",.int (x.2:Int)]
noncomputable def bwD(x:(Str × Rat) × Nat):D:=.tup [.str "back",.int (x.2:Int)]
noncomputable def prD(w:D × D):D:=.tup [w.1,w.2]
theorem Jm(near far:Rat)(bs:List (Str × Rat)):(frW bs).map fwD++(frW bs).reverse.map bwD=(A8 (g8 near bs far) (g8 near bs far).length).map prD:=by
 rw[xl,RB,Sg,Sg];rfl
theorem Jc(near far:Rat)(bs:List (Str × Rat)):((A8 (g8 near bs far) (g8 near bs far).length).zip (B3 (e6 near bs far) (e6 near bs far).length)).map (fun z=>hlD z.1 z.2)=hlN (g8 near bs far) (g8 near bs far).length:=by
 unfold hlN
 rw[G3,C3,Ui,UG]
theorem Hm(ws:List (D × D))(ls:List (Rat × Rat × Rat)):bx (ws.map prD) (ls.map r9)=(ws.zip ls).map fun z=>D.tup [prD z.1,r9 z.2]:=by
 unfold bx
 rw[Ui,UG]
 rw[List.zipWith_map]
theorem wA(bs:List (Str × Rat)):(frW bs).length≤bs.length:=by
 unfold frW
 have:=To (fun x:(Str × Rat) × Nat=>x.1.1 == Str.ofString "stop") bs.zipIdx
 rw[RO]at this
 exact this
theorem Cb{k:Nat}{ds:List D}(h:∀ d∈ds,cl k d=true):clL k ds=true:=by
 induction ds with
 | nil=>rfl
 | cons d r ih=>show(cl k d && clL k r)=true;rw[h d RX,ih fun x hx=>h x (RH _ hx)];rfl
theorem zV{T:List (D × D × (Str × Rat))}{i:Nat}{w:D × D}(h:w∈A8 T i):∃ z∈T,z.1=w.1∧z.2.1=w.2:=by
 rw[L3]at h
 obtain⟨z,hz,rfl⟩:=RP.mp h
 exact⟨z,Ua (SX.mp hz).1,rfl,rfl⟩
theorem dR{near far:Rat}{bs:List (Str × Rat)}{z:D × D × (Str × Rat)}(h:z∈g8 near bs far)(k:Nat):cl (k+1) z.1=true∧cl (k+1) z.2.1=true:=by
 have f:cl (k+1) (D.str (Str.ofString "forth"))=true:=by show PyData.canLay0 (.str (Str.ofString "forth"))=true;decide +kernel
 have b:cl (k+1) (D.str (Str.ofString "back"))=true:=by show PyData.canLay0 (.str (Str.ofString "back"))=true;decide +kernel
 unfold g8 at h
 rcases RI.mp h with h|h
 ·rcases RI.mp h with h|h
  ·rcases RI.mp h with h|h
   ·obtain⟨x,_,rfl⟩:=RP.mp h
    exact⟨f,rfl⟩
   ·rw[Ry.mp h];exact⟨rfl,rfl⟩
  ·obtain⟨x,_,rfl⟩:=RP.mp h
   exact⟨b,rfl⟩
 ·rw[Ry.mp h];exact⟨rfl,rfl⟩
theorem vH{L:List (Str × Rat)}(h:∀ i,CDQ 230 (tbQ (L.take i))):∀ i,∀ l∈B3 L i,sz l.1≤230∧sz l.2.1≤230
 | 0,l,hl=>by cases hl
 | i+1,l,hl=>by
  unfold B3 at hl
  rcases RI.mp hl with hl|hl
  ·exact vH h i l hl
  ·cases e:L[i]? with
   | none=>rw[e]at hl;cases hl
   | some x =>
    rw[e]at hl
    have hl:l∈(if x.1 = "stop" then[((h8 (L.take i) (1,0)).1,(h8 (L.take i) (0,1)).1,x.2)]else[]):=hl
    split at hl
    ·rw[Ry.mp hl]
     have t4:=CD.t4 (h i)
     exact⟨t4.a,t4.b⟩
    ·cases hl
theorem oV(near far:Rat)(bs:List (Str × Rat)):hlN (g8 near bs far) (g8 near bs far).length=((A8 (g8 near bs far) (g8 near bs far).length).zip (B3 (e6 near bs far) (g8 near bs far).length)).map (fun z=>hlD z.1 z.2):=by
 unfold hlN
 rw[G3,Ui,UG]
structure C6(near:Rat)(bs:List (Str × Rat))(far:Rat):Prop where
 cd:∀ i,CDQ 230 (tbQ ((e6 near bs far).take i))
 szs:∀ x∈e6 near bs far,sz x.2≤3000
 len:bs.length≤9
 part:∀ x∈bs,(x.1 = "gap" ∨ x.1 = "glass")∨(x.1 = "stop" ∧ 0<x.2)
theorem B6.w{near far:Rat}{bs:List (Str × Rat)}(h:B6 near bs far):C6 near bs far :=
 ⟨h.cd,fun x hx=>Ro (h.szs x hx) (by decide),h.len,fun x hx=>by
  rcases(h.part x hx).2 with h|h|h
  ·exact .inl (.inl h.1)
  ·exact .inl (.inr h)
  ·exact .inr h⟩
theorem Ap{S:Nat}{L:List (Str × Rat)}{y u:Rat}(h:∀ i,CDQ 230 (tbQ (L.take i)))(g:CD S y 0 u 0)(i:Nat):sz ((h8 (L.take i) (1,0)).1*y+(h8 (L.take i) (0,1)).1*u)≤231+S∧sz ((h8 (L.take i) (1,0)).1*(h8 L (y,u)).1+(h8 (L.take i) (0,1)).1*(h8 L (y,u)).2)≤462+S:=by
 have c1:=aw (h i) g
 have cL:=h L.length
 rw[RG]at cL
 have c2:=aw cL g
 have c3:=aw (h i) c2
 have e1:=(N4 (L.take i) y u).1
 have e2:=(N4 (L.take i) (h8 L (y,u)).1 (h8 L (y,u)).2).1
 have t1:=c1.t2.y
 have t3:=c3.t2.y
 rw[e1]at t1
 rw[e2]at t3
 exact⟨by omega,by omega⟩
theorem T0{L:List (Str × Rat)}:∀ i,∀ l∈B3 L i,∃(j:Nat) (x:Str × Rat),L[j]? = some x∧x.1 = "stop" ∧ l=((h8 (L.take j) (1,0)).1,(h8 (L.take j) (0,1)).1,x.2)
 | 0,l,hl=>by cases hl
 | i+1,l,hl=>by
  cases e:L[i]? with
  | none =>
   have:B3 L (i+1)=B3 L i++[]:=by
    show B3 L i++_=_
    rw[e]
   rw[this,SE]at hl
   exact T0 i l hl
  | some x =>
   rw[fZ e]at hl
   by_cases hx:x.1 = "stop"
   ·rw[if_pos hx]at hl
    rcases RI.mp hl with hl|hl
    ·exact T0 i l hl
    ·exact⟨i,x,e,hx,Ry.mp hl⟩
   ·rw[if_neg hx]at hl
    exact T0 i l hl
theorem Be{q:Rat}{T B:Int}(b0:0<B):q.num*B<T*(q.den:Int)↔q<RZ T B:=by
 have hB:(0:Rat)<(B:Rat):=by exact_mod_cast b0
 have hd:(0:Rat)<(q.den:Rat):=by
  have:=q.den_pos
  exact_mod_cast this
 rw[Sv,Vb hB]
 have e:=v8 q
 have e1:(q.num*B<T*(q.den:Int))↔((q.num:Rat)*(B:Rat)<(T:Rat)*(q.den:Rat)):=by
  rw[← Rm,← Rq,← Rm,UJ]
 rw[e1,← e]
 constructor
 ·intro h
  apply RA
  intro n
  have h1:=RU (a:=q*(B:Rat) - (T:Rat)) (b:=(q.den:Rat)) (by grind) (by grind)
  grind
 ·intro h
  have h1:=Sm (a:=(T:Rat) - q*(B:Rat)) (b:=(q.den:Rat)) (by grind) hd
  grind
noncomputable def swQ(t x f:Rat):Rat:=x*x - t*(x*f)+f*f
noncomputable def u7(m:Q4)(x f r:Rat):Bool :=
 if p8 m then false else if f6 (trQ m)<2 then decide (r*r<M0 (trQ m) x f)else if swQ (trQ m) x f≠0 then true else if f6 (trQ m)=2 then false else decide (f6 x<f6 f∨r<f6 x)
theorem Jd(T:List (D × D × (Str × Rat)))(i:Nat):(hlN T i).length=(B3 (T.map fun z=>z.2.2) i).length:=by
 unfold hlN
 rw[Vj,K7];omega
theorem CD.ray2{y u:Rat}{k l:Nat}(h1:sz y≤k)(h2:sz u≤l):CD (k+l) y 0 u 0:=by
 have n1:=u0 y h1
 have d1:=o9 y h1
 have n2:=u0 u h2
 have d2:=o9 u h2
 have d1':(y.den:Int).natAbs<2 ^ k:=by rw[Rb];exact d1
 have d2':(u.den:Int).natAbs<2 ^ l:=by rw[Rb];exact d2
 have e1:=v8 y
 have e2:=v8 u
 refine⟨y.num*(u.den:Int),0,u.num*(y.den:Int),0,y.den*u.den,Sy y.den_nz u.den_nz,o6 d1 d2,⟨e8 n1 d2',Sx _,by rw[Nat.add_comm k l];exact e8 n2 d1',Sx _⟩,?_,?_,?_,?_⟩
 ·rw[RK,Rm,Rq,← e1];grind
 ·show(0:Rat)*_=((0:Int):Rat);grind
 ·rw[RK,Rm,Rq,← e2];grind
 ·show(0:Rat)*_=((0:Int):Rat);grind
theorem Ni{t k:Rat}(h:k*k - t*k+1=0):sz k≤sz t:=by
 have e1:=v8 k
 have e2:=v8 t
 have kd:(k.den:Rat)≠0:=by intro z;exact k.den_nz (by exact_mod_cast z)
 have tdn:(t.den:Rat)≠0:=by intro z;exact t.den_nz (by exact_mod_cast z)
 have main:(k.num*k.num+(k.den:Int)*(k.den:Int))*(t.den:Int)=t.num*(k.num*(k.den:Int)):=by
  have:(((k.num*k.num+(k.den:Int)*(k.den:Int))*(t.den:Int):Int):Rat)=((t.num*(k.num*(k.den:Int)):Int):Rat):=by
   rw[Rm,SF,Rm,Rm,Rm,Rm,Rq,Rq,← e1,← e2]
   grind
  exact_mod_cast this
 have cop:Nat.Coprime k.num.natAbs k.den:=k.reduced
 have main':(k.num.natAbs*k.num.natAbs+k.den*k.den)*t.den=t.num.natAbs*(k.num.natAbs*k.den):=by
  have hm:=congrArg Int.natAbs main
  rw[RL,RL,RL,Rb,Rb]at hm
  rw[← hm]
  congr 1
  have a1:0≤k.num*k.num:=by
   rcases Int.le_total 0 k.num with h|h
   ·exact Int.mul_nonneg h h
   ·exact Int.mul_nonneg_of_nonpos_of_nonpos h h
  have a2:(k.num.natAbs*k.num.natAbs:Nat)=(k.num*k.num).natAbs:=(RL _ _).symm
  have a3:((k.den:Int)*(k.den:Int))=((k.den*k.den:Nat):Int):=by rw[Sj]
  rw[a2,a3]
  omega
 have d0:=t.den_pos
 have key:∀{P Q d n:Nat},Nat.Coprime P Q→(P*P+Q*Q)*d=n*(P*Q)→P ∣ d∧Q ∣ d:=fun{P Q d n} hc he=>by
  have h1:P ∣ Q*Q*d:=by
   have:P ∣ (P*P+Q*Q)*d:=by rw[he];exact⟨n*Q,by rw[Ur]⟩
   rw[Vk]at this
   exact(VC ⟨P*d,by rw[Vq]⟩).mp this
  have h2:Q ∣ P*P*d:=by
   have:Q ∣ (P*P+Q*Q)*d:=by rw[he];exact⟨n*P,by rw[VG P Q,Ur]⟩
   rw[Nat.add_comm,Vk]at this
   exact(VC ⟨Q*d,by rw[Vq]⟩).mp this
  exact⟨(Nat.Coprime.mul_right hc hc).dvd_of_dvd_mul_left h1,(Nat.Coprime.mul_right hc.symm hc.symm).dvd_of_dvd_mul_left h2⟩
 obtain⟨p1,p2⟩:=key cop main'
 exact RM.qx (Ro (RM.X8 (Uy d0 p1)) (RM.D7 t)) (Ro (RM.X8 (Uy d0 p2)) (RM.D7 t))
theorem HI{t k:Rat}(h:¬ f6 t<2)(h2:¬ f6 t=2)(hs:wN t (d8 k)):k≠0∧sz k≤sz t:=by
 rcases hs with⟨r,r0,r1,e⟩|⟨_,e⟩
 ·have e:k=(t - (if t<0 then -r else r)) / 2:=j8.mp e
  obtain⟨_,_,q⟩:=HJ h h2 r0 r1 k e
  exact⟨fun z=>by rw[z]at q;grind,Ni q⟩
 ·cases e
theorem Mq:sG 10 20:=⟨by decide,by decide,by decide⟩
theorem Hb:sG 10 40:=⟨by decide,by decide,by decide⟩
theorem Mp:sG 10 25:=⟨by decide,by decide,by decide⟩
theorem AN{N k:Nat}(h0:0<N)(h:N<2 ^ k):∃ q:Rat,D.tup [D.int 1,D.int (N:Int)]=d8 q∧sz q≤k+1:=by
 have hn:(0:Int)<(((N:Int):Rat)).num:=by show(0:Int)<(N:Int);omega
 refine⟨(((N:Int):Rat))⁻¹,LI hn,?_⟩
 have hne:((N:Int):Rat)≠0:=by intro z;exact absurd (show(N:Int)=0 by exact_mod_cast z) (by omega)
 have e:(((N:Int):Rat))⁻¹=1 / ((N:Int):Rat):=by grind
 rw[e]
 have s:=RM.G8 1 ((N:Int):Rat) hne
 have s1:sz (1:Rat)=1:=RM.R9
 have hk:0<k:=by
  rcases Th k with z|z
  ·rw[z]at h;omega
  ·exact z
 have s2:sz ((N:Int):Rat)≤k:=RM.qx (RM.U3 (by show(N:Int).natAbs<_;rw[Rb];exact h) hk) (RM.U3 (show 1<2 ^ k from Vp (by omega)) hk)
 omega
theorem Jz(q:Rat):(f6 q).num=(q.num.natAbs:Int)∧(f6 q).den=q.den:=by
 have h:=Cp q
 unfold d8 at h
 injection h with h
 injection h with h1 h2
 injection h1 with h1
 injection h2 with h2 _
 injection h2 with h2
 exact⟨h1,by omega⟩
theorem EU{T:List (D × D × (Str × Rat))}{i k:Nat}{d:D}(h:(hlN T i)[k]? = some d):∃ w l,d=hlD w l∧(B3 (T.map fun z=>z.2.2) i)[k]? = some l:=by
 unfold hlN at h
 rw[Su]at h
 cases h1:(A8 T i)[k]? with
 | none=>rw[h1]at h;simp at h
 | some w =>
  cases h2:(B3 (T.map fun z=>z.2.2) i)[k]? with
  | none=>rw[h1,h2]at h;simp at h
  | some l=>rw[h1,h2]at h;exact⟨w,l,(Option.some.inj h).symm,rfl⟩
theorem Bt{T:List (D × D × (Str × Rat))}{i k:Nat}{d:D}(h:(hlN T i)[k]? = some d):∃ w l,d=hlD w l∧(B3 (T.map fun z=>z.2.2) i)[k]? = some l∧w∈A8 T i:=by
 unfold hlN at h
 rw[Su]at h
 cases h1:(A8 T i)[k]? with
 | none=>rw[h1]at h;simp at h
 | some w =>
  cases h2:(B3 (T.map fun z=>z.2.2) i)[k]? with
  | none=>rw[h1,h2]at h;simp at h
  | some l=>rw[h1,h2]at h;exact⟨w,l,(Option.some.inj h).symm,rfl,Rg h1⟩
theorem An{m:Q4}(hd:X3 m=1)(hb:∀ j,0<j→j≤6→pwQ m j≠(1,0,0,1)):rtN m=0:=by
 by_cases hs:p8 m
 ·obtain⟨n,e1,e2,e3⟩:=eJ hd hs
  exact absurd e3 (hb n (by omega) (by omega))
 ·exact DW hd fun j j0 _ e=>by
   obtain⟨i,rfl⟩:∃ i,j=i+1:=⟨j - 1,by omega⟩
   exact hs (vV hd e)
theorem C6.line{near far:Rat}{bs:List (Str × Rat)}(hw:C6 near bs far){y u:Rat}(cd:CD 1000 y 0 u 0){l:Rat × Rat × Rat}(hl:l∈B3 (e6 near bs far) (e6 near bs far).length) :
  (sz l.1≤230∧sz l.2.1≤230)∧(sz l.2.2≤3000∧0<l.2.2)∧sz (l.1*y+l.2.1*u)≤1231∧sz (l.1*(h8 (e6 near bs far) (y,u)).1+l.2.1*(h8 (e6 near bs far) (y,u)).2)≤1462:=by
 obtain⟨j,px,hj,hpx,el⟩:=T0 _ l hl
 obtain⟨z1,z2⟩:=Ap hw.cd cd j
 have hpz:=hw.szs px (Rg hj)
 have hp0:0<px.2:=by
  have hm:=Rg hj
  unfold e6 at hm
  have inb:px∈bs→0<px.2:=fun h=>by
   rcases hw.part px h with h|h
   ·rw[hpx]at h;exact absurd h (by decide)
   ·exact h.2
  rcases RI.mp hm with hm|hm
  ·rcases RI.mp hm with hm|hm
   ·rcases RI.mp hm with hm|hm
    ·exact inb hm
    ·rw[Ry.mp hm]at hpx;exact absurd hpx (show ¬ Str.ofString "glass" = Str.ofString "stop" by decide)
   ·exact inb (SU.mp hm)
  ·rw[Ry.mp hm]at hpx;exact absurd hpx (show ¬ Str.ofString "glass" = Str.ofString "stop" by decide)
 have lj:=CD.t4 (hw.cd j)
 have lj1:sz (h8 ((e6 near bs far).take j) (1,0)).1≤230:=lj.a
 have lj2:sz (h8 ((e6 near bs far).take j) (0,1)).1≤230:=lj.b
 rw[el]
 exact⟨⟨lj1,lj2⟩,⟨hpz,hp0⟩,by omega,by omega⟩
theorem Bi{m:Q4}(hs:¬ p8 m){x f r:Rat}(ht:trQ m=2):u7 m x f r = !decide (f=x):=by
 have a2:f6 (trQ m)=2:=by rw[ht];decide +kernel
 have a3:¬ f6 (trQ m)<2:=by rw[a2];decide
 unfold u7
 rw[if_neg hs,if_neg a3]
 have e:swQ (trQ m) x f=(x - f)*(x - f):=by unfold swQ;rw[ht];grind
 by_cases h:f=x
 ·rw[if_neg (by rw[e,h];grind),if_pos a2,decide_eq_true h];rfl
 ·rw[if_pos (by rw[e];grind),decide_eq_false h];rfl
theorem xQ{m:Q4}(hs:¬ p8 m){x f r:Rat}(ht:trQ m = -2):u7 m x f r = !decide (f=0 - x):=by
 have a2:f6 (trQ m)=2:=by rw[ht];decide +kernel
 have a3:¬ f6 (trQ m)<2:=by rw[a2];decide
 unfold u7
 rw[if_neg hs,if_neg a3]
 have e:swQ (trQ m) x f=(x+f)*(x+f):=by unfold swQ;rw[ht];grind
 by_cases h:f=0 - x
 ·rw[if_neg (by rw[e,h];grind),if_pos a2,decide_eq_true h];rfl
 ·rw[if_pos (by rw[e];grind),decide_eq_false h];rfl
theorem Fu{t:Rat}(h1:¬ t=2)(h2:¬ t = -2):¬ f6 t=2:=by
 unfold f6
 split<;>grind
theorem jD{m:Q4}(hs:¬ p8 m)(h3:¬ f6 (trQ m)<2)(h2:¬ f6 (trQ m)=2)(x f r:Rat):u7 m x f r=if swQ (trQ m) x f≠0 then true else decide (f6 x<f6 f∨r<f6 x):=by
 unfold u7
 rw[if_neg hs,if_neg h3,if_neg h2]
theorem rM{m:Q4}(hs:¬ p8 m)(h3:¬ f6 (trQ m)<2)(h2:¬ f6 (trQ m)=2){f r:Rat}(r0:0<r):u7 m 0 f r = !decide (f=0):=by
 rw[jD hs h3 h2]
 have e:swQ (trQ m) 0 f=f*f:=by unfold swQ;grind
 have a0:f6 (0:Rat)=0:=by decide +kernel
 by_cases h:f=0
 ·rw[if_neg (by rw[e,h];grind),h,a0,decide_eq_true rfl]
  exact decide_eq_false fun z=>by rcases z with z|z<;>grind
 ·rw[if_pos (by rw[e];grind),decide_eq_false h];rfl
theorem vG{t x f:Rat}(hx:x≠0):swQ t x f=x*x*(1 - t*(f / x)+(f / x)*(f / x)):=by
 unfold swQ
 have:f=(f / x)*x:=by grind
 generalize f / x=p at *
 rw[this];grind
theorem wM{x f:Rat}(hx:x≠0):f6 f=f6 (f / x)*f6 x:=by
 rw[← aF]
 congr 1
 grind
theorem eY{x:Rat}(hx:x≠0):0<f6 x:=by unfold f6;split<;>grind
theorem cO{m:Q4}(hs:¬ p8 m)(h3:¬ f6 (trQ m)<2)(h2:¬ f6 (trQ m)=2){x f r:Rat}(hx:x≠0)(hp:f / x=0∨1<f6 (f / x) ∨ ¬ f / x+1 / (f / x)=trQ m):u7 m x f r=true:=by
 rw[jD hs h3 h2]
 by_cases h:swQ (trQ m) x f≠0
 ·rw[if_pos h]
 ·rw[if_neg h]
  have h:swQ (trQ m) x f=0:=RA h
  rw[vG hx]at h
  have h1:1 - trQ m*(f / x)+(f / x)*(f / x)=0:=by
   rcases RR.mp h with z|z
   ·rcases RR.mp z with z|z<;>exact absurd z hx
   ·exact z
  refine decide_eq_true (.inl ?_)
  rcases hp with z|z|z
  ·rw[z]at h1;grind
  ·rw[wM (f:=f) hx]
   have:=Sm (a:=f6 (f / x) - 1) (b:=f6 x) (by grind) (eY hx)
   grind
  ·exfalso
   apply z
   have:f / x≠0:=fun e=>by rw[e]at h1;grind
   generalize f / x=p at *
   grind
theorem xR{m:Q4}(hs:¬ p8 m)(h3:¬ f6 (trQ m)<2)(h2:¬ f6 (trQ m)=2){x f r:Rat}(hx:x≠0)(h0:¬ f / x=0)(h1:¬ 1<f6 (f / x))(he:f / x+1 / (f / x)=trQ m):u7 m x f r=decide (r<f6 x):=by
 rw[jD hs h3 h2]
 have e:swQ (trQ m) x f=0:=by
  rw[vG hx,← he]
  generalize f / x=p at *
  have:(1 / p)*p=1:=by grind
  grind
 rw[if_neg (fun z=>z e)]
 refine decide_eq_decide.mpr ⟨fun z=>z.resolve_left fun z=>?_,.inr⟩
 rw[wM (f:=f) hx]at z
 have:=RU (a:=1 - f6 (f / x)) (b:=f6 x) (by grind) (by have:=eY hx;grind)
 grind
theorem tR{t x f:Rat}(ht:sz t≤231)(hx:sz x≤1231)(hf:sz f≤1462)(t1:-2<t)(t2:t<2):sz (M0 t x f)≤8800:=by
 have h4:=qw t1 t2
 have m1:=RM.u5 x x
 have m2:=RM.u5 x f
 have m3:=RM.u5 t (x*f)
 have m4:=RM.G7 (x*x) (t*(x*f))
 have m5:=RM.u5 f f
 have m6:=RM.U4 (x*x - t*(x*f)) (f*f)
 have m7:=RM.u5 4 (x*x - t*(x*f)+f*f)
 have m8:=RM.u5 t t
 have m9:=RM.G7 4 (t*t)
 have s4:sz (4:Rat)≤3:=by decide +kernel
 have d:=RM.G8 (4*(x*x - t*(x*f)+f*f)) (4 - t*t) (fun z=>by rw[z]at h4;exact absurd h4 (by decide))
 unfold M0
 omega
theorem Au{S:Nat}{L:List (Str × Rat)}{y u:Rat}(h:CDQ 230 (tbQ L))(g:CD S y 0 u 0):CD (230+S+1) y (h8 L (y,u)).1 u (h8 L (y,u)).2:=by
 have h:CD 230 (h8 L (1,0)).1 (h8 L (0,1)).1 (h8 L (1,0)).2 (h8 L (0,1)).2:=h
 have l:=N4 L y u
 rw[l.1,l.2]
 generalize (h8 L (1,0)).1=a at *
 generalize (h8 L (0,1)).1=b at *
 generalize (h8 L (1,0)).2=c at *
 generalize (h8 L (0,1)).2=d at *
 obtain⟨A,B,C,E,D0,h0,hd,⟨h1,h2,h3,h4⟩,e1,e2,e3,e4⟩:=h.ex
 obtain⟨Y,_,U,_,D1,k0,kd,⟨k1,_,k3,_⟩,f1,_,f3,_⟩:=g.ex
 have hd':(D0:Int).natAbs<2 ^ 230:=by rw[Rb];exact hd
 have up:∀{n:Nat},n<2 ^ (230+S)→n<2 ^ (230+S+1):=fun h=>Rk h (RE (by decide) (by omega))
 refine⟨(D0:Int)*Y,A*Y+B*U,(D0:Int)*U,C*Y+E*U,D0*D1,Sy h0 k0,up (o6 hd kd),⟨up (e8 hd' k1),A4 (e8 h1 k1) (e8 h2 k3),up (e8 hd' k3),A4 (e8 h3 k1) (e8 h4 k3)⟩,?_,?_,?_,?_⟩
 ·rw[RK,Rm,Rq,← f1];grind
 ·rw[RK,SF,Rm,Rm,← f1,← f3,← e1,← e2];grind
 ·rw[RK,Rm,Rq,← f3];grind
 ·rw[RK,SF,Rm,Rm,← f1,← f3,← e3,← e4];grind
theorem Fl{A Z q:Rat}(hz:Z≠0)(hq:q≠0):A / Z=A*q / (Z*q):=by grind
theorem DY{t x f a b:Rat}{S:Nat}(ht:sz t≤231)(h:CD S x f a b)(t1:-2<t)(t2:t<2):(M0 t x f).num.natAbs<2 ^ (2*S+480):=by
 obtain⟨X,F,_,_,D0,h0,_,⟨h1,h2,_,_⟩,e1,e2,_,_⟩:=h.ex
 have td:=o9 t ht
 have tn:=u0 t ht
 have td':(t.den:Int).natAbs<2 ^ 231:=by rw[Rb];exact td
 have e:=v8 t
 have h4:=qw t1 t2
 have d0:(t.den:Rat)≠0:=by intro z;exact t.den_nz (by exact_mod_cast z)
 have D0n:(D0:Rat)≠0:=by intro z;exact h0 (by exact_mod_cast z)
 have key:M0 t x f=RZ (4*((t.den:Int)*((t.den:Int)*(X*X+F*F) - t.num*(X*F)))) ((4*((t.den:Int)*(t.den:Int)) - t.num*t.num)*((D0:Int)*(D0:Int))):=by
  rw[Sv]
  simp only[Rm,Ta,SF,Rq]
  rw[← e1,← e2,← e,show((4:Int):Rat)=4 from rfl]
  unfold M0
  generalize (t.den:Rat)=n at *
  generalize (D0:Rat)=w at *
  have hz:4 - t*t≠0:=fun z=>by rw[z]at h4;exact absurd h4 (by decide)
  rw[show 4*(n*(n*(x*w*(x*w)+f*w*(f*w)) - t*n*(x*w*(f*w))))=(4*(x*x - t*(x*f)+f*f))*((n*n)*(w*w))by grind,show(4*(n*n) - t*n*(t*n))*(w*w)=(4 - t*t)*((n*n)*(w*w))by grind]
  have nz:n*n*(w*w)≠0:=by grind
  exact Fl hz nz
 rw[key]
 refine Rv (RM.AW _ _) ?_
 have xx:=e8 h1 h1
 have ff:=e8 h2 h2
 have xf:=e8 h1 h2
 have s1:=e8 td' (A4 xx ff)
 have s2:=e8 tn xf
 have s3:=e8 td' (Z0 s1 (q9 s2 (show 231+(S+S)≤231+(S+S+1)by omega)))
 exact q9 (e8 (show(4:Int).natAbs<2 ^ 3 by decide) s3) (by omega)
theorem Bd{near far:Rat}{bs:List (Str × Rat)}(hw:C6 near bs far){y u:Rat}(cd:CD 1000 y 0 u 0){l:Rat × Rat × Rat}(hl:l∈B3 (e6 near bs far) (e6 near bs far).length)(t1:-2<trQ (tbQ (e6 near bs far)))(t2:trQ (tbQ (e6 near bs far))<2) :
  (M0 (trQ (tbQ (e6 near bs far))) (l.1*y+l.2.1*u) (l.1*(h8 (e6 near bs far) (y,u)).1+l.2.1*(h8 (e6 near bs far) (y,u)).2)).num.natAbs<2 ^ 3500:=by
 have cL:=hw.cd (e6 near bs far).length
 rw[RG]at cL
 have zt:sz (trQ (tbQ (e6 near bs far)))≤231:=CD.tr cL
 obtain⟨j,px,hj,hpx,el⟩:=T0 _ l hl
 have c:=CD.mul (k:=(y,(h8 (e6 near bs far) (y,u)).1,u,(h8 (e6 near bs far) (y,u)).2)) (hw.cd j) (Au cL cd)
 have n:=DY zt c t1 t2
 rw[el]
 exact q9 n (by omega)
theorem yd{ds:List D}{n:Nat}:Y5 ds (some (n:Int)) none=ds.drop n:=by
 unfold Y5
 rw[HT.DT,HT.Ak]
 by_cases h:n≤ds.length
 ·rw[VW h,SR (by rw[Te];omega)]
 ·rw[Nat.min_eq_right (by omega),UK (by omega),UK (by omega),List.take_nil]
theorem BY{bs:List (Str × Rat)}{k:Nat}(h:k<bs.length)(x:Str × Rat):Y5 (bs.map g6) none (some (k:Int))++[g6 x]++Y5 (bs.map g6) (some ((k:Int)+1)) none=(bs.set k x).map g6:=by
 rw[BX,show(k:Int)+1=((k+1:Nat):Int)by omega,yd,List.set_eq_take_append_cons_drop,if_pos h,RB,Sh,Uz,Wh,List.append_assoc]
 rfl
theorem Nt:sG 10 9:=⟨by decide,by decide,by decide⟩
noncomputable def erS(x:Str × Rat):Str × Rat:=if x.1 = "stop" then(Str.ofString "stop",0)else x
theorem IS(x:Str × Rat)(y u:Rat):B5 (erS x) y u=B5 x y u:=by
 unfold erS
 split
 ·rename_i h
  obtain⟨w,q⟩:=x
  have h:w=Str.ofString "stop" := h
  subst h
  unfold B5
  rfl
 ·rfl
theorem ow(xs:List (Str × Rat)):∀ r:Rat × Rat,h8 (xs.map erS) r=h8 xs r:=by
 induction xs with
 | nil=>intro r;rfl
 | cons x xs ih =>
  intro r
  show h8 (xs.map erS) (B5 (erS x) r.1 r.2)=h8 xs (B5 x r.1 r.2)
  rw[IS,ih]
theorem KP{xs ys:List (Str × Rat)}(h:xs.map erS=ys.map erS):tbQ xs=tbQ ys:=by
 unfold tbQ
 rw[← ow xs,← ow xs,← ow ys,← ow ys,h]
theorem EW(near far:Rat){bs cs:List (Str × Rat)}(h:bs.map erS=cs.map erS):(e6 near bs far).map erS=(e6 near cs far).map erS:=by
 unfold e6
 simp only[RB,Tw,h]
theorem B6.set{near far:Rat}{bs:List (Str × Rat)}(h:B6 near bs far){at':Nat}{q0 q:Rat}(hat:bs[at']? = some (Str.ofString "stop",q0))(hq:0<q)(hz:sz q≤3000):C6 near (bs.set at' (Str.ofString "stop",q)) far:=by
 have hl:=(Rc.mp hat).1
 have hm:(bs.set at' (Str.ofString "stop",q)).map erS=bs.map erS:=by
  apply List.ext_getElem?
  intro i
  rw[Rj,Rj,VA]
  by_cases e:at'=i
  ·subst e
   rw[if_pos rfl,if_pos hl,hat];rfl
  ·rw[if_neg e]
 refine⟨fun i=>?_,fun x hx=>?_,by rw[UM];exact h.len,fun x hx=>?_⟩
 ·rw[KP (ys:=(e6 near bs far).take i) (by rw[Uz,Uz,EW near far hm])]
  exact h.cd i
 ·have inb:∀ x∈bs.set at' (Str.ofString "stop",q),sz x.2≤3000:=fun x hx=>by
   rcases Tt hx with hx|rfl
   ·exact Ro (h.part x hx).1 (by decide)
   ·exact hz
  unfold e6 at hx
  rcases RI.mp hx with hx|hx
  ·rcases RI.mp hx with hx|hx
   ·rcases RI.mp hx with hx|hx
    ·exact inb x hx
    ·rw[Ry.mp hx];exact Ro h.zf (by decide)
   ·exact inb x (SU.mp hx)
  ·rw[Ry.mp hx];exact Ro h.zn (by decide)
 ·rcases Tt hx with hx|rfl
  ·exact h.w.part x hx
  ·exact .inr ⟨rfl,hq⟩
abbrev gi(bs:List (Str × Rat))(M:Mem)(R:DK)(Y:DXK):Prop:=(((∀ x∈bs,sz x.2≤3000)∧bs.length≤40)∧∀ i,CDQ 230 (tbQ (bs.take i)))∧R (J9 (tbQ bs)) M
def Ag:DSp:=fun ds M R Y=>∃(bs:List (Str × Rat)),ds=[.vl (bs.map g6)]∧gi bs M R Y
theorem uH{bs:List (Str × Rat)}{M:Mem}{R:DK}{Y:DXK}:Ag [.vl (bs.map g6)] M R Y=(gi bs M R Y):=propext ⟨fun z=>by obtain⟨_,_,_⟩:=z;walk_at "inj",fun h=>⟨bs,rfl,h⟩⟩
abbrev di(near:Rat)(bs:List (Str × Rat))(far:Rat)(M:Mem)(R:DK)(Y:DXK):Prop:=C6 near bs far∧R (J9 (tbQ (e6 near bs far))) M
def iW:DSp:=fun ds M R Y=>∃(x0:D) (near:Rat) (bs:List (Str × Rat)) (far:Rat),ds=[.tup [d8 near,x0,d8 far]]∧(x0 = .vl (bs.map g6)∨x0 = .tup (bs.map g6))∧di near bs far M R Y
theorem uI{near:Rat}{bs:List (Str × Rat)}{far:Rat}{M:Mem}{R:DK}{Y:DXK}:iW [.tup [d8 near,.vl (bs.map g6),d8 far]] M R Y=(di near bs far M R Y):=propext ⟨fun z=>by obtain⟨_,_,_,_,_,_,_⟩:=z;walk_at "injs",fun h=>⟨_,near,bs,far,rfl,.inl rfl,h⟩⟩
theorem lC{near:Rat}{bs:List (Str × Rat)}{far:Rat}{M:Mem}{R:DK}{Y:DXK}:iW [.tup [d8 near,.tup (bs.map g6),d8 far]] M R Y=(di near bs far M R Y):=propext ⟨fun z=>by obtain⟨_,_,_,_,_,_,_⟩:=z;walk_at "injs",fun h=>⟨_,near,bs,far,rfl,.inr rfl,h⟩⟩
abbrev aV(bs:List (Str × Rat))(M:Mem)(R:DK)(Y:DXK):Prop:=(((∀ x∈bs,sz x.2≤3000)∧bs.length≤40)∧∀ i,CDQ 230 (tbQ (bs.take i)))∧R (.vl ((B3 bs bs.length).map r9)) M
def nV:DSp:=fun ds M R Y=>∃(bs:List (Str × Rat)),ds=[.vl (bs.map g6)]∧aV bs M R Y
theorem lL{bs:List (Str × Rat)}{M:Mem}{R:DK}{Y:DXK}:nV [.vl (bs.map g6)] M R Y=(aV bs M R Y):=propext ⟨fun z=>by obtain⟨_,_,_⟩:=z;walk_at "inj",fun h=>⟨bs,rfl,h⟩⟩
abbrev Q0(near:Rat)(bs:List (Str × Rat))(far:Rat)(M:Mem)(R:DK)(Y:DXK):Prop:=C6 near bs far∧∀ p,M p=none→R (.ref p) (B2 M p (.lst (hlN (g8 near bs far) (g8 near bs far).length)))
def ar:DSp:=fun ds M R Y=>∃(x0:D) (near:Rat) (bs:List (Str × Rat)) (far:Rat),ds=[.tup [d8 near,x0,d8 far]]∧(x0 = .vl (bs.map g6)∨x0 = .tup (bs.map g6))∧Q0 near bs far M R Y
theorem gZ{near:Rat}{bs:List (Str × Rat)}{far:Rat}{M:Mem}{R:DK}{Y:DXK}:ar [.tup [d8 near,.vl (bs.map g6),d8 far]] M R Y=(Q0 near bs far M R Y):=propext ⟨fun z=>by obtain⟨_,_,_,_,_,_,_⟩:=z;walk_at "injs",fun h=>⟨_,near,bs,far,rfl,.inl rfl,h⟩⟩
theorem cU{near:Rat}{bs:List (Str × Rat)}{far:Rat}{M:Mem}{R:DK}{Y:DXK}:ar [.tup [d8 near,.tup (bs.map g6),d8 far]] M R Y=(Q0 near bs far M R Y):=propext ⟨fun z=>by obtain⟨_,_,_,_,_,_,_⟩:=z;walk_at "injs",fun h=>⟨_,near,bs,far,rfl,.inr rfl,h⟩⟩
abbrev W9(near:Rat)(bs:List (Str × Rat))(far:Rat)(y u:Rat)(M:Mem)(R:DK)(Y:DXK):Prop:=(C6 near bs far∧∃ S,CD S y 0 u 0∧S≤2000)∧R (u3 (h8 (e6 near bs far) (y,u)).1 (h8 (e6 near bs far) (y,u)).2) M
def au:DSp:=fun ds M R Y=>∃(near:Rat) (bs:List (Str × Rat)) (far:Rat) (y u:Rat),ds=[.tup [d8 near,.vl (bs.map g6),d8 far],u3 y u]∧W9 near bs far y u M R Y
theorem hE{near:Rat}{bs:List (Str × Rat)}{far:Rat}{y u:Rat}{M:Mem}{R:DK}{Y:DXK}:au [.tup [d8 near,.vl (bs.map g6),d8 far],u3 y u] M R Y=(W9 near bs far y u M R Y):=propext ⟨fun z=>by obtain⟨_,_,_,_,_,_,_⟩:=z;walk_at "inj",fun h=>⟨near,bs,far,y,u,rfl,h⟩⟩
abbrev dD(q:Rat)(T B:Int)(M:Mem)(R:DK)(Y:DXK):Prop:=(0<B∧sz q≤9000∧B.natAbs<2 ^ 9000∧T.natAbs<2 ^ 20000)∧R (.bl (decide (q<RZ T B))) M
def eI:DSp:=fun ds M R Y=>∃(q:Rat) (T B:Int),ds=[d8 q,.tup [.int T,.int B]]∧dD q T B M R Y
theorem pR{q:Rat}{T B:Int}{M:Mem}{R:DK}{Y:DXK}:eI [d8 q,.tup [.int T,.int B]] M R Y=(dD q T B M R Y):=propext ⟨fun z=>by obtain⟨_,_,_,_,_⟩:=z;walk_at "inj",fun h=>⟨q,T,B,rfl,h⟩⟩
abbrev aI(N:Nat)(M:Mem)(R:DK)(Y:DXK):Prop:=N<2 ^ 20000∧∀ a:Nat,a*a≤N→N<(a+1)*(a+1)→R (.int (a:Int)) M
def nE:DSp:=fun ds M R Y=>∃(N:Nat),ds=[.int (N:Int)]∧aI N M R Y
theorem lp{N:Nat}{M:Mem}{R:DK}{Y:DXK}:nE [.int (N:Int)] M R Y=(aI N M R Y):=propext ⟨fun z=>by obtain⟨_,_,_⟩:=z;walk_at "inj",fun h=>⟨N,rfl,h⟩⟩
abbrev aN(y u g:Rat)(M:Mem)(R:DK)(Y:DXK):Prop:=(sz y+sz g≤8900∧sz u+sz g≤8900)∧R (u3 (y*g) (u*g)) M
def nL:DSp:=fun ds M R Y=>∃(y u g:Rat),ds=[u3 y u,d8 g]∧aN y u g M R Y
theorem lB{y u g:Rat}{M:Mem}{R:DK}{Y:DXK}:nL [u3 y u,d8 g] M R Y=(aN y u g M R Y):=propext ⟨fun z=>by obtain⟨_,_,_,_,_⟩:=z;walk_at "inj",fun h=>⟨y,u,g,rfl,h⟩⟩
abbrev bc(near:Rat)(bs:List (Str × Rat))(far:Rat)(b:Bool)(M:Mem)(R:DK)(Y:DXK):Prop:=B6 near bs far∧∀(y u:Rat),(sz y≤463∧sz u≤463∧sz y+sz u≤700)→R (u3 y u) M
def oh:DSp:=fun ds M R Y=>∃(near:Rat) (bs:List (Str × Rat)) (far:Rat) (b:Bool),ds=[.tup [d8 near,.vl (bs.map g6),d8 far],.bl b]∧bc near bs far b M R Y
theorem lQ{near:Rat}{bs:List (Str × Rat)}{far:Rat}{b:Bool}{M:Mem}{R:DK}{Y:DXK}:oh [.tup [d8 near,.vl (bs.map g6),d8 far],.bl b] M R Y=(bc near bs far b M R Y):=propext ⟨fun z=>by obtain⟨_,_,_,_,_,_⟩:=z;walk_at "inj",fun h=>⟨near,bs,far,b,rfl,h⟩⟩
abbrev dk(p:Addr)(x y:D)(M:Mem)(R:DK)(Y:DXK):Prop:=E3 M p∧∃(ts bs:List Int) (P:Rat→Prop),x = .vl (ts.map D.int)∧y = .vl (bs.map D.int)∧((0<ts.length∧ts.length≤100)∧(0<bs.length∧bs.length≤100)∧(∀ b∈bs,0<b∧b.natAbs<2 ^ 133)∧∀ t∈ts,∀ b∈bs,P (RZ t b))∧∀(q:Rat) M',P q→y7 p M M'→R (d8 q) M'
def tH:DSp:=fun ds M R Y=>∃(p:Addr) (x y:D),ds=[.ref p,x,y]∧dk p x y M R Y
theorem pN{p:Addr}{x y:D}{M:Mem}{R:DK}{Y:DXK}:tH [.ref p,x,y] M R Y=(dk p x y M R Y):=propext ⟨fun z=>by obtain⟨_,_,_,_,_⟩:=z;walk_at "inj",fun h=>⟨p,x,y,rfl,h⟩⟩
abbrev gq(p:Addr)(near:Rat)(bs:List (Str × Rat))(far:Rat)(M:Mem)(R:DK)(Y:DXK):Prop:=E3 M p∧B6 near bs far∧∀(y u:Rat) M',CD 1000 y 0 u 0→y7 p M M'→R (u3 y u) M'
def Ai:DSp:=fun ds M R Y=>∃(p:Addr) (near:Rat) (bs:List (Str × Rat)) (far:Rat),ds=[.ref p,.tup [d8 near,.vl (bs.map g6),d8 far]]∧gq p near bs far M R Y
theorem uK{p:Addr}{near:Rat}{bs:List (Str × Rat)}{far:Rat}{M:Mem}{R:DK}{Y:DXK}:Ai [.ref p,.tup [d8 near,.vl (bs.map g6),d8 far]] M R Y=(gq p near bs far M R Y):=propext ⟨fun z=>by obtain⟨_,_,_,_,_,_⟩:=z;walk_at "inj",fun h=>⟨p,near,bs,far,rfl,h⟩⟩
abbrev W7(near:Rat)(bs:List (Str × Rat))(far:Rat)(M:Mem)(R:DK)(Y:DXK):Prop:=C6 near bs far∧R (.vl (hlN (g8 near bs far) (g8 near bs far).length)) M
def dA:DSp:=fun ds M R Y=>∃(near:Rat) (bs:List (Str × Rat)) (far:Rat),ds=[.tup [d8 near,.vl (bs.map g6),d8 far]]∧W7 near bs far M R Y
theorem gW{near:Rat}{bs:List (Str × Rat)}{far:Rat}{M:Mem}{R:DK}{Y:DXK}:dA [.tup [d8 near,.vl (bs.map g6),d8 far]] M R Y=(W7 near bs far M R Y):=propext ⟨fun z=>by obtain⟨_,_,_,_,_⟩:=z;walk_at "inj",fun h=>⟨near,bs,far,rfl,h⟩⟩
abbrev nT(near:Rat)(bs:List (Str × Rat))(far:Rat)(M:Mem)(R:DK)(Y:DXK):Prop:=C6 near bs far∧R (d8 (trQ (tbQ (e6 near bs far)))) M
def tJ:DSp:=fun ds M R Y=>∃(near:Rat) (bs:List (Str × Rat)) (far:Rat),ds=[.tup [d8 near,.vl (bs.map g6),d8 far]]∧nT near bs far M R Y
theorem yt{near:Rat}{bs:List (Str × Rat)}{far:Rat}{M:Mem}{R:DK}{Y:DXK}:tJ [.tup [d8 near,.vl (bs.map g6),d8 far]] M R Y=(nT near bs far M R Y):=propext ⟨fun z=>by obtain⟨_,_,_,_,_⟩:=z;walk_at "inj",fun h=>⟨near,bs,far,rfl,h⟩⟩
noncomputable def vY(L:List (Str × Rat))(y u:Rat)(l:Rat × Rat × Rat):D:=.tup [d8 (l.1*y+l.2.1*u),d8 (l.1*(h8 L (y,u)).1+l.2.1*(h8 L (y,u)).2),d8 l.2.2]
abbrev W5(t x f:Rat)(M:Mem)(R:DK)(Y:DXK):Prop:=(sz t≤231∧sz x≤1231∧sz f≤1462∧-2<t∧t<2)∧R (d8 (M0 t x f)) M
def dz:DSp:=fun ds M R Y=>∃(t x f:Rat),ds=[d8 t,d8 x,d8 f]∧W5 t x f M R Y
theorem gR{t x f:Rat}{M:Mem}{R:DK}{Y:DXK}:dz [d8 t,d8 x,d8 f] M R Y=(W5 t x f M R Y):=propext ⟨fun z=>by obtain⟨_,_,_,_,_⟩:=z;walk_at "inj",fun h=>⟨t,x,f,rfl,h⟩⟩
abbrev aS(near:Rat)(bs:List (Str × Rat))(far:Rat)(M:Mem)(R:DK)(Y:DXK):Prop:=C6 near bs far∧R (.int (rtN (tbQ (e6 near bs far)):Int)) M
def dw:DSp:=fun ds M R Y=>∃(near:Rat) (bs:List (Str × Rat)) (far:Rat),ds=[.tup [d8 near,.vl (bs.map g6),d8 far]]∧aS near bs far M R Y
theorem lI{near:Rat}{bs:List (Str × Rat)}{far:Rat}{M:Mem}{R:DK}{Y:DXK}:dw [.tup [d8 near,.vl (bs.map g6),d8 far]] M R Y=(aS near bs far M R Y):=propext ⟨fun z=>by obtain⟨_,_,_,_,_⟩:=z;walk_at "inj",fun h=>⟨near,bs,far,rfl,h⟩⟩
abbrev aR(near:Rat)(bs:List (Str × Rat))(far:Rat)(t:Rat)(M:Mem)(R:DK)(Y:DXK):Prop:=(C6 near bs far∧t=trQ (tbQ (e6 near bs far)))∧R (.bl (decide (f6 t<2∧rtN (tbQ (e6 near bs far))=0))) M
def gu:DSp:=fun ds M R Y=>∃(near:Rat) (bs:List (Str × Rat)) (far:Rat) (t:Rat),ds=[.tup [d8 near,.vl (bs.map g6),d8 far],d8 t]∧aR near bs far t M R Y
theorem lH{near:Rat}{bs:List (Str × Rat)}{far:Rat}{t:Rat}{M:Mem}{R:DK}{Y:DXK}:gu [.tup [d8 near,.vl (bs.map g6),d8 far],d8 t] M R Y=(aR near bs far t M R Y):=propext ⟨fun z=>by obtain⟨_,_,_,_,_,_⟩:=z;walk_at "inj",fun h=>⟨near,bs,far,t,rfl,h⟩⟩
abbrev aT(near:Rat)(bs:List (Str × Rat))(far:Rat)(y u:Rat)(n:Nat)(M:Mem)(R:DK)(Y:DXK):Prop:=(C6 near bs far∧CD 1000 y 0 u 0)∧∃ l,(B3 (e6 near bs far) (e6 near bs far).length)[n]? = some l∧R (.bl (u7 (tbQ (e6 near bs far)) (l.1*y+l.2.1*u) (l.1*(h8 (e6 near bs far) (y,u)).1+l.2.1*(h8 (e6 near bs far) (y,u)).2) l.2.2)) M
def nU:DSp:=fun ds M R Y=>∃(near:Rat) (bs:List (Str × Rat)) (far:Rat) (y u:Rat) (n:Nat),ds=[.tup [d8 near,.vl (bs.map g6),d8 far],u3 y u,.int (n:Int)]∧aT near bs far y u n M R Y
theorem lJ{near:Rat}{bs:List (Str × Rat)}{far:Rat}{y u:Rat}{n:Nat}{M:Mem}{R:DK}{Y:DXK}:nU [.tup [d8 near,.vl (bs.map g6),d8 far],u3 y u,.int (n:Int)] M R Y=(aT near bs far y u n M R Y):=propext ⟨fun z=>by obtain⟨_,_,_,_,_,_,_,_⟩:=z;walk_at "inj",fun h=>⟨near,bs,far,y,u,n,rfl,h⟩⟩
abbrev T1(near:Rat)(bs:List (Str × Rat))(far:Rat)(y u p q:Rat)(M:Mem)(R:DK)(Y:DXK):Prop:=(C6 near bs far∧CD 1000 y 0 u 0∧(sz p≤230∧sz q≤230)∧sz (p*y+q*u)≤1231∧sz (p*(h8 (e6 near bs far) (y,u)).1+q*(h8 (e6 near bs far) (y,u)).2)≤1462∧-2<trQ (tbQ (e6 near bs far))∧trQ (tbQ (e6 near bs far))<2)∧R (d8 (M0 (trQ (tbQ (e6 near bs far))) (p*y+q*u) (p*(h8 (e6 near bs far) (y,u)).1+q*(h8 (e6 near bs far) (y,u)).2))) M
def gk:DSp:=fun ds M R Y=>∃(x0:D) (near:Rat) (bs:List (Str × Rat)) (far:Rat) (y u p q:Rat),ds=[.tup [d8 near,x0,d8 far],u3 y u,d8 p,d8 q]∧(x0 = .vl (bs.map g6)∨x0 = .tup (bs.map g6))∧T1 near bs far y u p q M R Y
theorem lD{near:Rat}{bs:List (Str × Rat)}{far:Rat}{y u p q:Rat}{M:Mem}{R:DK}{Y:DXK}:gk [.tup [d8 near,.vl (bs.map g6),d8 far],u3 y u,d8 p,d8 q] M R Y=(T1 near bs far y u p q M R Y):=propext ⟨fun z=>by obtain⟨_,_,_,_,_,_,_,_,_,_,_⟩:=z;walk_at "injs",fun h=>⟨_,near,bs,far,y,u,p,q,rfl,.inl rfl,h⟩⟩
theorem fh{near:Rat}{bs:List (Str × Rat)}{far:Rat}{y u p q:Rat}{M:Mem}{R:DK}{Y:DXK}:gk [.tup [d8 near,.tup (bs.map g6),d8 far],u3 y u,d8 p,d8 q] M R Y=(T1 near bs far y u p q M R Y):=propext ⟨fun z=>by obtain⟨_,_,_,_,_,_,_,_,_,_,_⟩:=z;walk_at "injs",fun h=>⟨_,near,bs,far,y,u,p,q,rfl,.inr rfl,h⟩⟩
end GM
namespace DL
open PySem PySem.Spec L2
theorem Ca{e0:Ev}{g:DTG}{te:DTE}{ds:List D}{stay:Mem→Prop}{M1:Mem}{E:List D→Mem→Prop}{β:Type}(out:β→D)(Rl:Nat→β→Prop)(hn:ds.length≤1000)(hst:stay M1)
  (step:∀ i d,ds[i]? = some d→∀ Q:DK,(∀ b,Rl i b→Q (out b) M1)→g d e0 M1 fun e2 M2=>te e2 M2 Q) (h:∀ bs:List β,bs.length=ds.length→(∀ i b,bs[i]? = some b→Rl i b)→E (bs.map out) M1):∃ W,mU e0 g Fm te ds stay M1 E W:=by
 refine⟨fun i ys M=>M=M1∧∃ bs:List β,bs.length=i∧(∀ j b,bs[j]? = some b→Rl j b)∧ys=bs.map out,⟨⟨rfl,[],rfl,(fun j b z=>by simp at z),rfl⟩,fun i ys M _ w=>by rw[w.1];exact hst,fun i d ys M hd w=>?_,fun ys M w=>?_⟩⟩
 ·obtain⟨rfl,bs,hl,hok,rfl⟩:=w
  have hi:i<ds.length:=(Rc.mp hd).1
  refine step i d hd _ fun b hb=>⟨?_,rfl,bs++[b],by simp[hl],fun j c hc=>?_,by simp⟩
  ·rw[Rh,hl];exact Rk (Rk hi hn) (show 1000≤sizeLine by decide)
  ·rcases Sk j bs.length with z|z
   ·rw[Ts z]at hc;exact hok j c hc
   ·rw[Tq z]at hc
    have hj:j - bs.length=0:=by
     have:=(Rc.mp hc).1
     simp at this;omega
    rw[hj]at hc
    have e:b=c:=by simpa using hc
    have ej:j=i:=by omega
    rw[ej,← e];exact hb
 ·obtain⟨rfl,bs,hl,hok,rfl⟩:=w
  exact h bs hl hok
end DL
namespace GM
open PySem PySem.Spec L2 DL
open RM (sz)
noncomputable def stQ(t:Rat)(p:Rat × Rat):Nat→Rat × Rat
 | 0=>p
 | n+1=>((stQ t p n).2,t*(stQ t p n).2 - (stQ t p n).1)
def C5(t:Rat)(l:Rat × Rat × Rat)(n:Nat):Prop:=l.2.2<f6 (stQ t (l.1,l.2.1) n).1
instance Ms(t:Rat)(l:Rat × Rat × Rat)(n:Nat):Decidable (C5 t l n):=by unfold C5;infer_instance
noncomputable def S9(t:Rat)(l:Rat × Rat × Rat)(N:Nat):Option Nat:=(Sl N).find? fun n=>decide (C5 t l n)
theorem jz{t:Rat}{l:Rat × Rat × Rat}{N:Nat}(h:∀ n,n<N→¬ C5 t l n):S9 t l N=none:=by
 unfold S9
 rw[Tn]
 intro n hn
 rw[decide_eq_true_eq]
 exact h n (Sq.mp hn)
theorem uh{t:Rat}{l:Rat × Rat × Rat}{N n:Nat}(hn:n<N)(hb:C5 t l n)(h:∀ j,j<n→¬ C5 t l j):S9 t l N=some n:=by
 unfold S9
 rw[Tb]
 refine⟨decide_eq_true hb,Sq.mpr hn,fun j hj=>?_⟩
 rw[decide_eq_false (h j hj)];rfl
noncomputable def IC:Option Nat→D
 | none=>.non
 | some n=>.int (n:Int)
noncomputable def y8(t:Rat)(ls:List (Rat × Rat × Rat))(k n:Nat):Bool:=match ls[k]? with|some l=>decide (C5 t l n)|none=>false
noncomputable def Z4(t:Rat)(ls:List (Rat × Rat × Rat))(ws:List Nat)(N:Nat):Option (Nat × Nat) :=
 match (Sl N).find? fun n=>ws.any fun k=>y8 t ls k n with
 | none=>none
 | some n=>(ws.find? fun k=>y8 t ls k n).map fun k=>(n,k)
theorem sS{t:Rat}{ls:List (Rat × Rat × Rat)}{ws:List Nat}{N:Nat}(h:∀ n,n<N→∀ k∈ws,y8 t ls k n=false):Z4 t ls ws N=none:=by
 unfold Z4
 rw[Tn.mpr fun n hn=>?_]
 rw[TX,Tp]
 exact fun k hk=>by rw[h n (Sq.mp hn) k hk];decide
theorem sR{t:Rat}{ls:List (Rat × Rat × Rat)}{ws:List Nat}{N n i k:Nat}(hn:n<N)(hi:ws[i]? = some k)(hb:y8 t ls k n=true)(h1:∀ j,j<n→∀ k∈ws,y8 t ls k j=false)
  (h2:∀ j,j<i→∀ k',ws[j]? = some k'→y8 t ls k' n=false):Z4 t ls ws N=some (n,k):=by
 unfold Z4
 have hk:=Rg hi
 have e:(Sl N).find? (fun n=>ws.any fun k=>y8 t ls k n)=some n:=by
  rw[Tb]
  refine⟨VP.mpr ⟨k,hk,hb⟩,Sq.mpr hn,fun j hj=>?_⟩
  have:(ws.any fun k=>y8 t ls k j)=false:=Tp.mpr fun k hk=>by rw[h1 j hj k hk];decide
  rw[this];rfl
 rw[e]
 have hl:=(Rc.mp hi).1
 have e2:ws.find? (fun k=>y8 t ls k n)=some k:=by
  rw[TN]
  refine⟨hb,i,hl,(Rc.mp hi).2,fun j hj=>?_⟩
  rw[h2 j hj _ (Rr (Nat.lt_trans hj hl))];rfl
 show(ws.find? fun k=>y8 t ls k n).map (fun k=>(n,k))=_
 rw[e2];rfl
noncomputable def vI:Option (Nat × Nat)→D
 | none=>.non
 | some z=>.tup [.int (z.1:Int),.int (z.2:Int)]
theorem wL(a:Int):f6 (a:Rat)=((a.natAbs:Nat):Rat):=by
 rw[← Rq]
 unfold f6
 split
 ·rename_i h
  have h:0≤a:=by exact_mod_cast h
  rw[show((a.natAbs:Nat):Int)=a by omega]
 ·rename_i h
  have h:¬ 0≤a:=fun z=>h (by exact_mod_cast z)
  rw[show((a.natAbs:Nat):Int) = -a by omega,UR]
structure kX(t:Rat)(l:Rat × Rat × Rat)(n:Nat)(s:Int × Int × Int):Prop where
 ex:∃ W:Nat,0<W∧(s.1:Rat)=(stQ t (l.1,l.2.1) n).1*(W:Rat)∧(s.2.1:Rat)=(stQ t (l.1,l.2.1) n).2*((W:Rat)*(t.den:Rat))∧(s.2.2:Rat)=l.2.2*(W:Rat)
 b1:s.1.natAbs<2 ^ (12000+470*n)
 b2:s.2.1.natAbs<2 ^ (12000+470*n)
 b3:s.2.2.natAbs<2 ^ (12000+470*n)
noncomputable def stD(s:Int × Int × Int):D:=.tup [.int s.1,.int s.2.1,.int s.2.2]
theorem kX.bey{t:Rat}{l:Rat × Rat × Rat}{n:Nat}{s:Int × Int × Int}(h:kX t l n s):(s.2.2<(s.1.natAbs:Int))↔C5 t l n:=by
 obtain⟨W,W0,e1,_,e3⟩:=h.ex
 have W0:(0:Rat)<(W:Rat):=by exact_mod_cast W0
 unfold C5
 have e4:=wL s.1
 rw[e1,aF,show f6 (W:Rat)=(W:Rat)by unfold f6;rw[if_pos (by grind)]]at e4
 generalize (stQ t (l.1,l.2.1) n).1=x at *
 have c:(s.2.2<(s.1.natAbs:Int))↔((s.2.2:Rat)<((s.1.natAbs:Nat):Rat)):=by
  rw[← Rq,UJ]
 rw[c,e3,← e4]
 generalize f6 x=a at *
 constructor
 ·intro z
  apply RA
  intro nz
  have:=RU (a:=l.2.2 - a) (b:=(W:Rat)) (by grind) (by grind)
  grind
 ·intro z
  have:=Sm (a:=a - l.2.2) (b:=(W:Rat)) (by grind) W0
  grind
theorem kX.next{t:Rat}{l:Rat × Rat × Rat}{n:Nat}{s:Int × Int × Int}(ht:sz t≤231)(h:kX t l n s):kX t l (n+1) (s.2.1,t.num*s.2.1 - (t.den:Int)*(t.den:Int)*s.1,s.2.2*(t.den:Int)):=by
 obtain⟨W,W0,e1,e2,e3⟩:=h.ex
 have td:=o9 t ht
 have tn:=u0 t ht
 have td':(t.den:Int).natAbs<2 ^ 231:=by rw[Rb];exact td
 have e:=v8 t
 refine⟨⟨W*t.den,Tz W0 t.den_pos,?_,?_,?_⟩,?_,?_,?_⟩
 ·show(s.2.1:Rat)=(stQ t (l.1,l.2.1) n).2*((W*t.den:Nat):Rat)
  rw[e2,RK]
 ·show((t.num*s.2.1 - (t.den:Int)*(t.den:Int)*s.1:Int):Rat)=(t*(stQ t (l.1,l.2.1) n).2 - (stQ t (l.1,l.2.1) n).1)*(((W*t.den:Nat):Rat)*(t.den:Rat))
  rw[Ta,Rm,Rm,Rm,Rq,e1,e2,← e,RK]
  grind
 ·show((s.2.2*(t.den:Int):Int):Rat)=l.2.2*((W*t.den:Nat):Rat)
  rw[Rm,e3,Rq,RK]
  grind
 ·exact q9 h.b2 (by omega)
 ·have m1:=e8 tn h.b2
  have m2:=e8 (e8 td' td') h.b1
  exact q9 (Z0 (q9 m1 (show _≤462+(12000+470*n)by omega)) (q9 m2 (by omega))) (by omega)
 ·exact q9 (e8 h.b3 td') (by omega)
noncomputable def szs(qs:List Rat):Nat:=(qs.map sz).sum
theorem fY{qs:List Rat}{q:Rat}(h:q∈qs):sz q≤szs qs:=by
 induction qs with
 | nil=>cases h
 | cons a r ih =>
  show sz q≤sz a+szs r
  rcases RC.mp h with rfl|h
  ·omega
  ·have:=ih h;omega
theorem zS{qs:List Rat}{i:Nat}{q:Rat}(h:qs[i]? = some q):szs (qs.take (i+1))=szs (qs.take i)+sz q:=by
 rw[SO,h]
 unfold szs
 rw[RB,VX];rfl
theorem HD(qs:List Rat)(i:Nat):szs (qs.take i)≤szs qs:=by
 have h:=congrArg szs (TM i qs)
 unfold szs at h ⊢
 rw[RB,VX]at h
 omega
abbrev og(x:D)(M:Mem)(R:DK)(Y:DXK):Prop:=∃ qs:List Rat,(x = .tup (qs.map d8)∨x = .vl (qs.map d8))∧szs qs≤8500∧∀ B:Nat,0<B→B≤2 ^ szs qs→(∀ q∈qs,q.den ∣ B)→B ∣ (qs.map fun q:Rat=>q.den).prod→R (.int (B:Int)) M
def Am:DSp:=fun ds M R Y=>∃(x:D),ds=[x]∧og x M R Y
theorem yw{x:D}{M:Mem}{R:DK}{Y:DXK}:Am [x] M R Y=(og x M R Y):=propext ⟨fun z=>by obtain⟨_,_,_⟩:=z;walk_at "inj",fun h=>⟨x,rfl,h⟩⟩
abbrev nI(x:D)(b:Nat)(M:Mem)(R:DK)(Y:DXK):Prop:=∃ qs:List Rat,(x = .tup (qs.map d8)∨x = .vl (qs.map d8))∧(qs.length≤1000∧b≤2 ^ 8500∧0<b∧(∀ q∈qs,q.den ∣ b∧sz q≤8900))∧R (.vl (qs.map fun q=>.int (q.num*(b:Int).fdiv (q.den:Int)))) M
def Ah:DSp:=fun ds M R Y=>∃(x:D) (b:Nat),ds=[x,.int (b:Int)]∧nI x b M R Y
theorem yp{x:D}{b:Nat}{M:Mem}{R:DK}{Y:DXK}:Ah [x,.int (b:Int)] M R Y=(nI x b M R Y):=propext ⟨fun z=>by obtain⟨_,_,_,_⟩:=z;walk_at "inj",fun h=>⟨x,b,rfl,h⟩⟩
abbrev X0(t x f r:Rat)(M:Mem)(R:DK)(Y:DXK):Prop:=(sz t≤231∧sz x+sz f+sz r≤8400∧sz x≤3000∧sz f≤3000∧sz r≤3000)∧∀ s:Int × Int × Int,kX t (x,f,r) 0 s→R (stD s) M
def jb:DSp:=fun ds M R Y=>∃(t x f r:Rat),ds=[d8 t,d8 x,d8 f,d8 r]∧X0 t x f r M R Y
theorem hJ{t x f r:Rat}{M:Mem}{R:DK}{Y:DXK}:jb [d8 t,d8 x,d8 f,d8 r] M R Y=(X0 t x f r M R Y):=propext ⟨fun z=>by obtain⟨_,_,_,_,_,_⟩:=z;walk_at "inj",fun h=>⟨t,x,f,r,rfl,h⟩⟩
abbrev aQ(t:Rat)(x:D)(M:Mem)(R:DK)(Y:DXK):Prop:=∃ s:Int × Int × Int,x=stD s∧(sz t≤231∧∃ k,s.1.natAbs<2 ^ k∧s.2.1.natAbs<2 ^ k∧s.2.2.natAbs<2 ^ k∧k≤60000)∧R (stD (s.2.1,t.num*s.2.1 - (t.den:Int)*(t.den:Int)*s.1,s.2.2*(t.den:Int))) M
def nR:DSp:=fun ds M R Y=>∃(t:Rat) (x:D),ds=[d8 t,x]∧aQ t x M R Y
theorem lG{t:Rat}{x:D}{M:Mem}{R:DK}{Y:DXK}:nR [d8 t,x] M R Y=(aQ t x M R Y):=propext ⟨fun z=>by obtain⟨_,_,_,_⟩:=z;walk_at "inj",fun h=>⟨t,x,rfl,h⟩⟩
abbrev gw(a b:Int)(M:Mem)(R:DK)(Y:DXK):Prop:=(b≠0∧RW a.natAbs b.natAbs<2 ^ 9000)∧R (d8 (RZ a b)) M
def vO:DSp:=fun ds M R Y=>∃(a b:Int),ds=[.int a,.int b]∧gw a b M R Y
theorem uN{a b:Int}{M:Mem}{R:DK}{Y:DXK}:vO [.int a,.int b] M R Y=(gw a b M R Y):=propext ⟨fun z=>by obtain⟨_,_,_,_⟩:=z;walk_at "inj",fun h=>⟨a,b,rfl,h⟩⟩
abbrev aJ(q r:Rat)(M:Mem)(R:DK)(Y:DXK):Prop:=(sz q+sz r≤40000∧RW (q.num*r.num).natAbs ((q.den:Int)*(r.den:Int)).natAbs<2 ^ 9000)∧R (d8 (q*r)) M
def gh:DSp:=fun ds M R Y=>∃(q r:Rat),ds=[d8 q,d8 r]∧aJ q r M R Y
theorem lq{q r:Rat}{M:Mem}{R:DK}{Y:DXK}:gh [d8 q,d8 r] M R Y=(aJ q r M R Y):=propext ⟨fun z=>by obtain⟨_,_,_,_⟩:=z;walk_at "inj",fun h=>⟨q,r,rfl,h⟩⟩
abbrev dm(q r:Rat)(M:Mem)(R:DK)(Y:DXK):Prop:=(sz q+sz r≤40000∧RW (q.num*(r.den:Int)+r.num*(q.den:Int)).natAbs ((q.den:Int)*(r.den:Int)).natAbs<2 ^ 9000)∧R (d8 (q+r)) M
def tI:DSp:=fun ds M R Y=>∃(q r:Rat),ds=[d8 q,d8 r]∧dm q r M R Y
theorem pO{q r:Rat}{M:Mem}{R:DK}{Y:DXK}:tI [d8 q,d8 r] M R Y=(dm q r M R Y):=propext ⟨fun z=>by obtain⟨_,_,_,_⟩:=z;walk_at "inj",fun h=>⟨q,r,rfl,h⟩⟩
abbrev dE(x:D)(M:Mem)(R:DK)(Y:DXK):Prop:=((∃ q:Rat,x=d8 q∧R (.bl true) M) ∨ ∃ n:Int,x = .int n∧R (.bl false) M)
def tK:DSp:=fun ds M R Y=>∃(x:D),ds=[x]∧dE x M R Y
theorem pT{x:D}{M:Mem}{R:DK}{Y:DXK}:tK [x] M R Y=(dE x M R Y):=propext ⟨fun z=>by obtain⟨_,_,_⟩:=z;walk_at "inj",fun h=>⟨x,rfl,h⟩⟩
abbrev aL(t x f:Rat)(M:Mem)(R:DK)(Y:DXK):Prop:=(sz t≤231∧sz x+sz f≤4200)∧∀(T B:Int),0<B→B.natAbs<2 ^ 8402→T.natAbs<2 ^ 17100→(T:Rat)=t.den*(x*x - t*(x*f)+f*f)*B→R (.tup [.int T,.int B]) M
def gj:DSp:=fun ds M R Y=>∃(t x f:Rat),ds=[d8 t,d8 x,d8 f]∧aL t x f M R Y
theorem lu{t x f:Rat}{M:Mem}{R:DK}{Y:DXK}:gj [d8 t,d8 x,d8 f] M R Y=(aL t x f M R Y):=propext ⟨fun z=>by obtain⟨_,_,_,_,_⟩:=z;walk_at "inj",fun h=>⟨t,x,f,rfl,h⟩⟩
abbrev gm(t x f:Rat)(M:Mem)(R:DK)(Y:DXK):Prop:=(sz t≤231∧-2<t∧t<2∧sz x+sz f≤4200)∧∀(T B:Int),0<B→B.natAbs<2 ^ 8870→T.natAbs<2 ^ 17400→RZ T B=M0 t x f→R (.tup [.int T,.int B]) M
def qP:DSp:=fun ds M R Y=>∃(t x f:Rat),ds=[d8 t,d8 x,d8 f]∧gm t x f M R Y
theorem uJ{t x f:Rat}{M:Mem}{R:DK}{Y:DXK}:qP [d8 t,d8 x,d8 f] M R Y=(gm t x f M R Y):=propext ⟨fun z=>by obtain⟨_,_,_,_,_⟩:=z;walk_at "inj",fun h=>⟨t,x,f,rfl,h⟩⟩
abbrev aM(w:D)(t x f r:Rat)(M:Mem)(R:DK)(Y:DXK):Prop:=∃ m:Q4,w = .str (kwS m)∧t=trQ m∧(CDQ 230 m∧X3 m=1∧sz x+sz f≤4200∧sz r≤3000∧0<r)∧R (.bl (u7 m x f r)) M
def nK:DSp:=fun ds M R Y=>∃(w:D) (t x f r:Rat),ds=[w,d8 t,d8 x,d8 f,d8 r]∧aM w t x f r M R Y
theorem lA{w:D}{t x f r:Rat}{M:Mem}{R:DK}{Y:DXK}:nK [w,d8 t,d8 x,d8 f,d8 r] M R Y=(aM w t x f r M R Y):=propext ⟨fun z=>by obtain⟨_,_,_,_,_,_,_⟩:=z;walk_at "inj",fun h=>⟨w,t,x,f,r,rfl,h⟩⟩
structure jN(l:Rat × Rat × Rat):Prop where
 xf:sz l.1+sz l.2.1≤4200
 x:sz l.1≤3000
 f:sz l.2.1≤3000
 r:sz l.2.2≤3000
 p:0<l.2.2
abbrev dg(t:Rat)(x y:D)(N:Nat)(M:Mem)(R:DK)(Y:DXK):Prop:=∃(ls:List (Rat × Rat × Rat)) (ws:List Nat),x = .vl (ls.map r9)∧y = .vl (ws.map fun k:Nat=>D.int (k:Int))∧(sz t≤231∧(ls.length≤40∧ws.length≤40)∧N≤60∧(∀ l∈ls,jN l)∧∀ k∈ws,k<ls.length)∧R (vI (Z4 t ls ws N)) M
def tD:DSp:=fun ds M R Y=>∃(t:Rat) (x y:D) (N:Nat),ds=[d8 t,x,y,.int (N:Int)]∧dg t x y N M R Y
theorem cT{t:Rat}{x y:D}{N:Nat}{M:Mem}{R:DK}{Y:DXK}:tD [d8 t,x,y,.int (N:Int)] M R Y=(dg t x y N M R Y):=propext ⟨fun z=>by obtain⟨_,_,_,_,_,_⟩:=z;walk_at "inj",fun h=>⟨t,x,y,N,rfl,h⟩⟩
inductive En where
 | one (w:Str)
 | int (w:Str) (n:Int)
 | rat (w:Str) (q:Rat)
noncomputable def enD:En→D
 | .one w=>.tup [.str w]
 | .int w n=>.tup [.str w,.int n]
 | .rat w q=>.tup [.str w,d8 q]
noncomputable def Cu(m:Q4)(l:Rat × Rat × Rat):En→Prop
 | .one w=>w = "nought" ∧ l.1=0∧l.2.1=0
 | .int w n=>w = "round" ∧ p8 m∧n=(rtN m:Int)∧∀ j,j<rtN m→¬ C5 (trQ m) l j
 | .rat w q=>(w = "reach" ∧ (¬ p8 m∧f6 (trQ m)<2)∧M0 (trQ m) l.1 l.2.1=q∧¬ l.2.2*l.2.2<q)∨(w = "kept" ∧ ¬ 1<f6 q∧q*q+1=trQ m*q∧q*l.1=l.2.1∧¬ l.2.2<f6 l.1)
theorem Ji{q r:Rat}(hq:sz q≤4000)(hr:sz r≤8990):RW (q.num*r.num).natAbs ((q.den:Int)*(r.den:Int)).natAbs<2 ^ 9000:=by
 rw[RL,← Sj,Rb]
 have h1:Nat.Coprime q.num.natAbs q.den:=q.reduced
 have h2:Nat.Coprime r.num.natAbs r.den:=r.reduced
 by_cases z:q.num=0
 ·have qd:q.den=1:=by rw[z]at h1;simpa using h1
  rw[z,qd]
  show RW (0*_) (1*r.den)<_
  rw[Nat.zero_mul,Nat.gcd_zero_left,VY]
  exact q9 (o9 r hr) (by decide)
 ·have d1:RW (q.num.natAbs*r.num.natAbs) (q.den*r.den) ∣ RW (q.num.natAbs*r.num.natAbs) q.den*RW (q.num.natAbs*r.num.natAbs) r.den:=Nat.gcd_mul_right_dvd_mul_gcd _ _ _
  have e1:RW (q.num.natAbs*r.num.natAbs) q.den=RW r.num.natAbs q.den:=Nat.Coprime.gcd_mul_left_cancel _ h1
  have e2:RW (q.num.natAbs*r.num.natAbs) r.den=RW q.num.natAbs r.den:=Nat.Coprime.gcd_mul_right_cancel _ h2
  rw[e1,e2]at d1
  have p1:RW r.num.natAbs q.den≤q.den:=TU _ q.den_pos
  have p2:RW q.num.natAbs r.den≤q.num.natAbs:=Nat.gcd_le_left _ (Va.mpr z)
  have p3:=o6 (o9 q hq) (u0 q hq)
  have p4:0<RW r.num.natAbs q.den*RW q.num.natAbs r.den:=Tz (SY _ q.den_pos) (SY _ r.den_pos)
  exact q9 (Rv (Ro (Uy p4 d1) (Tg p1 p2)) p3) (by decide)
noncomputable def JN:En→Prop
 | .one w=>cl 57 (.str w)=true
 | .int w n=>cl 57 (.str w)=true∧n.natAbs<2 ^ 20
 | .rat w q=>cl 57 (.str w)=true∧sz q≤8890
noncomputable def M7(L:List (Str × Rat))(y u:Rat)(l:Rat × Rat × Rat):Rat × Rat × Rat:=(l.1*y+l.2.1*u,l.1*(h8 L (y,u)).1+l.2.1*(h8 L (y,u)).2,l.2.2)
noncomputable def t9(near:Rat)(bs:List (Str × Rat))(far:Rat)(y u:Rat):List (Rat × Rat × Rat):=(B3 (e6 near bs far) (e6 near bs far).length).map (M7 (e6 near bs far) y u)
theorem C6.ln{near far:Rat}{bs:List (Str × Rat)}(hw:C6 near bs far){y u:Rat}{S:Nat}(cd:CD S y 0 u 0)(hS:S≤1700){l:Rat × Rat × Rat}(hl:l∈B3 (e6 near bs far) (e6 near bs far).length):jN (M7 (e6 near bs far) y u l)∧sz l.1≤230∧sz l.2.1≤230:=by
 obtain⟨⟨a1,a2⟩,⟨a3,a4⟩,_,_⟩:=hw.line (y:=0) (u:=0) ((CD.ray2 (k:=1) (l:=1) (by rw[RM.F9];decide) (by rw[RM.F9];decide)).mono (by decide)) hl
 obtain⟨j,px,hj,hpx,el⟩:=T0 _ l hl
 obtain⟨z1,z2⟩:=Ap hw.cd cd j
 have e1:(h8 ((e6 near bs far).take j) (1,0)).1=l.1:=by rw[el]
 have e2:(h8 ((e6 near bs far).take j) (0,1)).1=l.2.1:=by rw[el]
 rw[e1,e2]at z1 z2
 have w1:sz (M7 (e6 near bs far) y u l).1≤231+S:=z1
 have w2:sz (M7 (e6 near bs far) y u l).2.1≤462+S:=z2
 exact⟨⟨by omega,by omega,by omega,a3,a4⟩,a1,a2⟩
theorem aA{near far:Rat}{bs:List (Str × Rat)}(hw:C6 near bs far){y u:Rat}{S:Nat}(cd:CD S y 0 u 0)(hS:S≤1700):∀ l∈t9 near bs far y u,jN l:=fun l hl=>by
 obtain⟨l0,h0,rfl⟩:=RP.mp hl
 exact(hw.ln cd hS h0).1
theorem O4(near far:Rat)(bs:List (Str × Rat))(y u:Rat):(t9 near bs far y u).length≤2*bs.length+2:=by
 have:=O7 (e6 near bs far) (e6 near bs far).length
 have:=U0 near far bs
 unfold t9
 rw[Rh];omega
theorem wR(near far:Rat)(bs:List (Str × Rat)):(((A8 (g8 near bs far) (g8 near bs far).length).zip (B3 (e6 near bs far) (g8 near bs far).length)).map fun z=>r9 z.2)=(B3 (e6 near bs far) (e6 near bs far).length).map r9:=by
 have h:=K7 (g8 near bs far) (g8 near bs far).length
 rw[G3]at h
 rw[show(fun z:(D × D) × (Rat × Rat × Rat)=>r9 z.2)=r9 ∘ Prod.snd from rfl,← Sg,List.map_snd_zip (by omega),C3]
abbrev N3(x:D)(y u:Rat)(z:D)(M:Mem)(R:DK)(Y:DXK):Prop:=∃(L:List (Str × Rat)) (ls:List (Rat × Rat × Rat)),x=J9 (tbQ L)∧z = .vl (ls.map r9)∧(∃ S,CDQ 230 (tbQ L)∧CD S y 0 u 0∧S≤1700∧ls.length≤40∧∀ l∈ls,sz l.1≤230∧sz l.2.1≤230)∧R (.vl ((ls.map (M7 L y u)).map r9)) M
def cE:DSp:=fun ds M R Y=>∃(x:D) (y u:Rat) (z:D),ds=[x,u3 y u,z]∧N3 x y u z M R Y
theorem cV{x:D}{y u:Rat}{z:D}{M:Mem}{R:DK}{Y:DXK}:cE [x,u3 y u,z] M R Y=(N3 x y u z M R Y):=propext ⟨fun z=>by obtain⟨_,_,_,_,_,_⟩:=z;walk_at "inj",fun h=>⟨x,y,u,z,rfl,h⟩⟩
theorem Fb{q r:Rat}(hq:sz q≤8990)(hr:sz r≤4000):RW (q.num*r.num).natAbs ((q.den:Int)*(r.den:Int)).natAbs<2 ^ 9000:=by
 rw[Int.mul_comm q.num,Int.mul_comm (q.den:Int)];exact Ji hr hq
noncomputable def LZ:En→Prop
 | .rat _ q=>sz q≤100
 | _=>True
abbrev W6(near:Rat)(bs:List (Str × Rat))(far:Rat)(y u:Rat)(M:Mem)(R:DK)(Y:DXK):Prop:=(C6 near bs far∧CD 1000 y 0 u 0)∧R (.vl ((t9 near bs far y u).map r9)) M
def T5:DSp:=fun ds M R Y=>∃(near:Rat) (bs:List (Str × Rat)) (far:Rat) (y u:Rat),ds=[.tup [d8 near,.vl (bs.map g6),d8 far],u3 y u]∧W6 near bs far y u M R Y
theorem gT{near:Rat}{bs:List (Str × Rat)}{far:Rat}{y u:Rat}{M:Mem}{R:DK}{Y:DXK}:T5 [.tup [d8 near,.vl (bs.map g6),d8 far],u3 y u] M R Y=(W6 near bs far y u M R Y):=propext ⟨fun z=>by obtain⟨_,_,_,_,_,_,_⟩:=z;walk_at "inj",fun h=>⟨near,bs,far,y,u,rfl,h⟩⟩
abbrev du(t x f r:Rat)(N:Nat)(M:Mem)(R:DK)(Y:DXK):Prop:=(sz t≤231∧jN (x,f,r)∧N≤100)∧R (IC (S9 t (x,f,r) N)) M
def nS:DSp:=fun ds M R Y=>∃(t x f r:Rat) (N:Nat),ds=[d8 t,d8 x,d8 f,d8 r,.int (N:Int)]∧du t x f r N M R Y
theorem pQ{t x f r:Rat}{N:Nat}{M:Mem}{R:DK}{Y:DXK}:nS [d8 t,d8 x,d8 f,d8 r,.int (N:Int)] M R Y=(du t x f r N M R Y):=propext ⟨fun z=>by obtain⟨_,_,_,_,_,_,_⟩:=z;walk_at "inj",fun h=>⟨t,x,f,r,N,rfl,h⟩⟩
end GM
namespace L2
open PySem PySem.Spec PyProof.Rows
theorem yf(a d:Value):argsOk "min" ⟨[a],[(Str.ofString "default",d)]⟩:=by unfold argsOk;kernel_rfl
def D5(h0 h:Heap):Prop:=∀ b o,h0.get? b=some o→h.get? b=some o
def wQ(prog:Program)(w:World)(A:Around)(h0:Heap)(P:Nat→Value→Prop)(bt:Nat→Nat→Bool):Prop :=
 ∀ i j x y (s:Shared) (Q:Value→Shared→Prop) (E:Value→Shared→Prop),D5 h0 s.heap→P i x→P j y→Q (.bool (bt i j)) s→wpAny (model prog w) A (richCompare .Lt x y) Q E s
section
variable {prog:Program} {w:World} {A:Around} {R:Result→Shared→Prop} {I S:Addr} {fp wr:List Addr} {n:Nat} {P:Nat→Value→Prop} {St:Nat→Heap→Prop} {bt:Nat→Nat→Bool} {h0:Heap}
theorem vZ:(toString "min" ++ toString ".loop" : String) = "min.loop" := by decide
noncomputable abbrev dfl:List (Str × Value):=[(Str.ofString "default",.none)]
theorem uf(W:Walks prog w A.in1 I fp wr n P St)(cmp:wQ prog w A.in1 h0 P bt)(nf:S∉fp)(n0:h0.get? S=none)(w0:∀ b∈wr,h0.get? b=none) :
  ∀(k j:Nat) (s:Shared) (x:Value) (c:Nat),j+1+k=n→D5 h0 s.heap→St (j+1) s.heap→P (argBest bt j) x→s.heap.get? S=some { cls:=.type "list",dict:=none,data:=.seq #[x,x] c,slots:=#[] } →
  (∀ v h2 tk,P (argBest bt (n - 1)) v→D5 h0 h2→R (.ok (.ret v)) { s with heap:=h2,toks:=tk })→codeAny (model prog w) A (.builtin "min.loop" ⟨[.ref I,.none,.ref S],dfl⟩) R s:=by
 have nw:S∉wr:=fun z=>nf (W.sub _ z)
 have onw:∀{h h2:Heap},D5 h0 h→(∀ b o,b∉wr→h.get? b=some o→h2.get? b=some o)→D5 h0 h2:=fun st kp b o e=>kp b o (fun z=>by rw[w0 b z]at e;cases e) (st b o e)
 have onS:∀{h:Heap} {g:Obj→Obj},D5 h0 h→D5 h0 (h.update S g):=fun st b o e=>(RT _ _ (fun z:S=b=>by rw[← z,n0]at e;cases e)).trans (st b o e)
 intro k
 induction k with
 | zero =>
  intro j s x c ej st hst px oS fin
  refine codeAny_builtin F.entry_min_loop ?_
  rw[Around.under_plainId F.plain_min_loop _]
  show wpAny _ A.in1 (seqItems? (.ref S) >>= _) _ _ s
  refine QZ (wpAny_seqItems oS rfl ?_)
  show wpAny _ A.in1 (tryCatch (pyNext (.ref I)) _ >>= _) _ _ s
  have ej:j+1=n:=by omega
  refine QZ (wpAny_tryCatch (W.done s _ _ (ej▸hst) fun h2 tk kp=>?_))
  have oS2:=kp S _ nw oS
  show wpAny _ A.in1 (updateSeq S (fun _=>#[]) >>= _) _ _ _
  refine QZ ?_
  refine wpAny_updateSeq oS2 rfl (QZ (wpAny_letGo (Rn ?_)))
  exact fin x _ tk (by rw[← ej];exact px) (onS (onw st kp))
 | succ k ih =>
  intro j s x c ej st hst px oS fin
  refine codeAny_builtin F.entry_min_loop ?_
  rw[Around.under_plainId F.plain_min_loop _]
  show wpAny _ A.in1 (seqItems? (.ref S) >>= _) _ _ s
  refine QZ (wpAny_seqItems oS rfl ?_)
  show wpAny _ A.in1 (tryCatch (pyNext (.ref I)) _ >>= _) _ _ s
  refine QZ (wpAny_tryCatch (W.item (j+1) s _ _ (by omega) hst fun y h2 tk py hst2 kp=>?_))
  have oS2:=kp S _ nw oS
  have st2:=onw st kp
  show wpAny _ A.in1 (tryCatch (holding [y,y] (richCompare .Lt y x >>= _)) _ >>= _) _ _ _
  refine QZ (wpAny_tryCatch (wpAny_holding (QZ (cmp (j+1) (argBest bt j) y x _ _ _ st2 py px ?_))))
  refine QZ (wpAny_holding (wpAny_truthy_bool ?_))
  refine QZ (wpAny_letGo (Rn ?_))
  cases hb:bt (j+1) (argBest bt j)with
  | true =>
   simp only[if_true]
   refine QZ ?_
   refine wpAny_updateSeq oS2 rfl (QZ (wpAny_letGo ?_))
   rw[vZ]
   refine Rn ⟨plainId_quiet F.plain_min_loop _,ih (j+1) _ y _ (by omega) (onS st2) (W.frame _ _ _ hst2 fun b bf o e=>?_) (by simp only[argBest,hb,if_true];exact py) (Sd _ oS2 rfl) fin⟩
   exact(RT _ _ (fun z:S=b=>nf (by rw[z];exact bf))).trans e
  | false =>
   simp only[So,if_false]
   refine QZ (wpAny_letGo ?_)
   rw[vZ]
   exact Rn ⟨plainId_quiet F.plain_min_loop _,ih (j+1) _ x c (by omega) st2 hst2 (by simp only[argBest,hb,So,if_false];exact px) oS2 fin⟩
theorem ug(W:Walks prog w A.in1 I fp wr n P St)(cmp:wQ prog w A.in1 h0 P bt)(nf:S∉fp)(n0:h0.get? S=none)(w0:∀ b∈wr,h0.get? b=none){s:Shared}{c:Nat}(st:D5 h0 s.heap)(hst:St 0 s.heap)
  (oS:s.heap.get? S=some { cls:=.type "list",dict:=none,data:=.seq #[] c,slots:=#[] })
  (fin0:n=0→∀ h2 tk,D5 h0 h2→R (.ok (.ret .none)) { s with heap:=h2,toks:=tk })
  (fin:0<n→∀ v h2 tk,P (argBest bt (n - 1)) v→D5 h0 h2→R (.ok (.ret v)) { s with heap:=h2,toks:=tk }):codeAny (model prog w) A (.builtin "min.loop" ⟨[.ref I,.none,.ref S],dfl⟩) R s:=by
 have nw:S∉wr:=fun z=>nf (W.sub _ z)
 have onw:∀{h h2:Heap},D5 h0 h→(∀ b o,b∉wr→h.get? b=some o→h2.get? b=some o)→D5 h0 h2:=fun st kp b o e=>kp b o (fun z=>by rw[w0 b z]at e;cases e) (st b o e)
 have onS:∀{h:Heap} {g:Obj→Obj},D5 h0 h→D5 h0 (h.update S g):=fun st b o e=>(RT _ _ (fun z:S=b=>by rw[← z,n0]at e;cases e)).trans (st b o e)
 refine codeAny_builtin F.entry_min_loop ?_
 rw[Around.under_plainId F.plain_min_loop _]
 show wpAny _ A.in1 (seqItems? (.ref S) >>= _) _ _ s
 refine QZ (wpAny_seqItems oS rfl ?_)
 show wpAny _ A.in1 (tryCatch (pyNext (.ref I)) _ >>= _) _ _ s
 rcases Th n with z|z
 ·subst z
  refine QZ (wpAny_tryCatch (W.done s _ _ hst fun h2 tk kp=>?_))
  show wpAny _ A.in1 (rule _ >>= _) _ _ _
  exact QZ (wpAny_rule (Rn (fin0 rfl h2 tk (onw st kp))))
 ·refine QZ (wpAny_tryCatch (W.item 0 s _ _ z hst fun y h2 tk py hst2 kp=>?_))
  have oS2:=kp S _ nw oS
  show wpAny _ A.in1 (updateSeq S (fun _=>#[y,y]) >>= _) _ _ _
  refine QZ ?_
  refine wpAny_updateSeq oS2 rfl ?_
  rw[vZ]
  refine Rn ⟨plainId_quiet F.plain_min_loop _,uf W cmp nf n0 w0 (n - 1) 0 _ y _ (by omega) (onS (onw st kp)) (W.frame _ _ _ hst2 fun b bf o e=>?_) py (Sd _ oS2 rfl) (fin z)⟩
  exact(RT _ _ (fun z:S=b=>nf (by rw[z];exact bf))).trans e
theorem uz{l:Addr}{vs:Array Value}{s:Shared}{Q:Value→Shared→Prop}{E:Value→Shared→Prop}(hh:A.handled=none)(hl:s.heap.IsList l vs)(cmp:wQ prog w A.in1 s.heap (fun i v=>vs[i]? = some v) bt)
  (fin0:vs.size=0→∀ h2 tk,D5 s.heap h2→Q .none { s with heap:=h2,toks:=tk })
  (fin:0<vs.size→∀ v h2 tk,vs[argBest bt (vs.size - 1)]? = some v→D5 s.heap h2→Q v { s with heap:=h2,toks:=tk }) :
  wpAny (model prog w) A (call (.builtin "min") [.ref l] dfl) Q E s:=by
 have lt:l<s.heap.objs.size:=by obtain⟨o,ho,_⟩:=hl;exact Rt ho
 refine kmb_tree F.kind_min F.plain_min F.entry_min (yf _ _) ?_
 show wpAny _ A.in1 (Builtin.Builtins.bindParams "min" ["key","default"] 0 ⟨[],dfl⟩ >>= _) _ _ s
 refine QZ (wpAny_of_eq (a:=[none,some .none]) rfl ?_)
 refine QZ (Rn ?_)
 refine QZ (wpAny_pyIter_list hl ?_)
 refine QZ (wpAny_newObj_type ?_)
 rw[vZ]
 have z1:(s.heap.push { cls:=.type "list_iterator",data:=.fields #[.ref l,.int 0 0] }).objs.size=s.heap.objs.size+1:=Sr ..
 have fr:∀ b,s.heap.objs.size≤b→s.heap.get? b=none:=fun b hb=>UX hb
 refine Rn ⟨plainId_quiet F.plain_min_loop _,?_⟩
 refine ug (Walks.list (A:=A.in1) hh s.heap.objs.size l (RY lt) vs) cmp (fun hm=>?_) (fr _ (by rw[z1];omega)) (fun b hb=>by rw[Ry.mp hb];exact fr _ (Rx _)) (fun b o e=>Rf _ (Rf _ e)) ⟨⟨_,Rf _ (Rp _ rfl),rfl,rfl⟩,(hl.push _).push _⟩ (Rp _ rfl) (fun z h2 tk st=>fin0 z h2 tk st) (fun z v h2 tk pv st=>fin z v h2 tk pv st)
 rcases RC.mp hm with hm|hm
 ·rw[z1]at hm;exact Sz (Nat.lt_succ_self _) hm
 ·have e:=Ry.mp hm
  rw[z1]at e
  rw[← e]at lt
  exact SJ _ (Nat.lt_of_succ_lt lt)
end
theorem D5.tup{h h2:Heap}{a:Addr}{its:Array Value}(st:D5 h h2)(t:IsTup h a its):IsTup h2 a its:=by
 obtain⟨o,ho,r⟩:=t
 exact⟨o,st a o ho,r⟩
theorem EK{a b c d:Int}:HT.D2 [a,b] [c,d]=true↔a<c∨(a=c∧b<d):=by
 rw[HT.cN]
 by_cases h:a=c
 ·rw[if_pos h,HT.cN]
  by_cases h2:b=d
  ·rw[if_pos h2,HT.bP];simp;omega
  ·rw[if_neg h2,decide_eq_true_eq];omega
 ·rw[if_neg h,decide_eq_true_eq];omega
theorem Hf(p:Nat→Int × Int):∀ k,argBest (fun i j=>HT.D2 [(p i).1,(p i).2] [(p j).1,(p j).2]) k≤k∧∀ j,j≤k→¬ HT.D2 [(p j).1,(p j).2] [(p (argBest (fun i j=>HT.D2 [(p i).1,(p i).2] [(p j).1,(p j).2]) k)).1,(p (argBest (fun i j=>HT.D2 [(p i).1,(p i).2] [(p j).1,(p j).2]) k)).2]=true
 | 0=>⟨Rx _,fun j hj=>by
  obtain rfl:j=0:=by omega
  show ¬ HT.D2 [(p 0).1,(p 0).2] [(p 0).1,(p 0).2]=true
  rw[EK];omega⟩
 | k+1=>by
  obtain⟨h1,h2⟩:=Hf p k
  generalize hb:argBest (fun i j=>HT.D2 [(p i).1,(p i).2] [(p j).1,(p j).2]) k=b at *
  have e:argBest (fun i j=>HT.D2 [(p i).1,(p i).2] [(p j).1,(p j).2]) (k+1)=if HT.D2 [(p (k+1)).1,(p (k+1)).2] [(p b).1,(p b).2]=true then k+1 else b:=by
   rw[← hb];rfl
  rw[e]
  by_cases h:HT.D2 [(p (k+1)).1,(p (k+1)).2] [(p b).1,(p b).2]=true
  ·rw[if_pos h]
   refine⟨Rx _,fun j hj=>?_⟩
   rcases Sk k j with z|z
   ·obtain rfl:j=k+1:=by omega
    rw[EK];omega
   ·have:=h2 j z
    rw[EK]at *;omega
  ·rw[if_neg h]
   refine⟨by omega,fun j hj=>?_⟩
   rcases Sk k j with z|z
   ·obtain rfl:j=k+1:=by omega
    exact h
   ·exact h2 j z
section
variable {X:Cx} {e:Expr} {p pos:Pos} {t:TA}
def Lk(K:Ra)(xs:List V)(H:Hp)(Q:VK):Prop:=∃(l:Addr) (as:List Addr) (ps:List (Int × Int)),xs=[.ref l]∧SqL K H l (as.map V.ref)∧as.length=ps.length∧(∀(i:Nat) (a:Addr) (p:Int × Int),as[i]? = some a→ps[i]? = some p→SqT K H a ([p.1,p.2].map V.int)) ∧
 (ps=[]→Q .non H)∧∀(i:Nat) (a:Addr) (p:Int × Int),as[i]? = some a→ps[i]? = some p→(∀ q∈ps,¬ HT.D2 [q.1,q.2] [p.1,p.2]=true)→Q (.ref a) H
theorem qr:∀{as:List Addr} {us:List Value},p0 (as.map V.ref) us→us=as.map Value.ref
 | [],us,h=>by cases h;rfl
 | a :: as,us,h=>by
  cases h with
  | cons r t=>rw[qr t];cases r;rfl
theorem Em{kj kp kq}(hu:X.A.units+64<cLine)(hc:X.calm=true)(hg:Gl X "min")(hm:X.mg "min" = none)(hv:bootBuiltins "min" = some (.builtin "min"))(ha:PA X [e] t)(he:backTo pos (starEach [e] X.env)=(false,eval e X.env) :: backTo pos (starEach [] X.env):=by rfl)
  (hpl:(backTo pos (starEach [e] X.env)).any (·.1)=false:=by rfl):PE X (.Call (.Name "min" p) [e] [⟨some "default",.Constant .none kj kp,kq⟩] pos) (tCB (Lk X.K) t):=by
 intro pins s σ H Q I h
 refine wpAny_Call_Name_kw (K4 I hg hm hv ?_ (by decide) (by decide))
 refine callWith_kw (thn (ha pos pins s σ H _ I h) fun us s1 ⟨vs,H1,I1,r1,q1⟩=>kws_cons (Constant_none (kws_nil ?_))) he hpl
 obtain⟨l,as,ps,rfl,hS,hlen,hT,q0,q⟩:=q1
 obtain⟨u,rfl,ru⟩:=Y8 r1
 cases ru
 obtain⟨its,rv,pl,_⟩:=I1.list hS
 have ei:=qr rv
 subst ei
 have hl:s1.heap.IsList l (as.map Value.ref).toArray:=pl.isList
 have sz:(as.map Value.ref).toArray.size=ps.length:=by rw[Rw,Rh,hlen]
 let pp:Nat→Int × Int:=fun i=>ps.getD i (0,0)
 have cmp:wQ X.prog X.w X.A.in1 s1.heap (fun i v=>(as.map Value.ref).toArray[i]? = some v) (fun i j=>HT.D2 [(pp i).1,(pp i).2] [(pp j).1,(pp j).2]):=by
  intro i j x y s2 Q2 E2 st hx hy q2
  have one:∀{i:Nat} {x:Value},(as.map Value.ref).toArray[i]? = some x→∃ a its,x = .ref a∧IsTup s2.heap a its∧IntsAre its.toList [(pp i).1,(pp i).2]:=fun{i x} hx=>by
   rw[UT,Rj]at hx
   obtain⟨a,hai,rfl⟩:=Ru.mp hx
   have hi:i<ps.length:=by rw[← hlen];exact(Rc.mp hai).1
   have hpi:=Rr hi
   obtain⟨its,r2,p2,_⟩:=I1.tuple (hT i a _ hai hpi)
   refine⟨a,its.toArray,rfl,st.tup p2,?_⟩
   have:pp i=ps[i]:=by show ps.getD i (0,0)=_;rw[Sf,hpi];rfl
   rw[this]
   exact uo r2
  obtain⟨a,i1,rfl,t1,n1⟩:=one hx
  obtain⟨b,i2,rfl,t2,n2⟩:=one hy
  exact HT.uj t1 t2 n1 n2 (by show X.A.units+1<cLine;omega) q2
 refine uz (I1.ok.hd hc) hl cmp (fun z h2 tk st=>?_) (fun z v h2 tk hv2 st=>?_)
 ·rw[sz]at z
  exact⟨.non,H1,I1.kept st,rfl,q0 (TY z)⟩
 ·rw[sz]at z hv2
  obtain⟨b1,b2⟩:=Hf pp (ps.length - 1)
  generalize argBest (fun i j=>HT.D2 [(pp i).1,(pp i).2] [(pp j).1,(pp j).2]) (ps.length - 1)=b at *
  rw[UT,Rj]at hv2
  obtain⟨a,hab,rfl⟩:=Ru.mp hv2
  have hb:b<ps.length:=by omega
  have hpb:=Rr hb
  have eb:pp b=ps[b]:=by show ps.getD b (0,0)=_;rw[Sf,hpb];rfl
  rw[eb]at b2
  refine⟨.ref a,H1,I1.kept st,rfl,q b a _ hab hpb fun r hr=>?_⟩
  obtain⟨j,hj⟩:=Sa hr
  have ej:pp j=r:=by show ps.getD j (0,0)=_;rw[Sf,hj];rfl
  have:=b2 j (by have:=(Rc.mp hj).1;omega)
  rw[ej]at this
  exact this
end
end L2
namespace DL
open PySem PySem.Spec L2
open PyProof.Rows hiding St
section
variable {X:Cx} {e:Expr} {p pos:Pos} {t:DTA}
noncomputable def eO(p:Int × Int):D:=.tup [.int p.1,.int p.2]
def GG:DRC:=fun ds M R=>∃ ps:List (Int × Int),ds=[.vl (ps.map eO)]∧(ps=[]→R .non M)∧∀ p∈ps,(∀ q∈ps,¬ (q.1<p.1∨(q.1=p.1∧q.2<p.2)))→R (eO p) M
theorem HasL.prs2{K:Ra}{H:Hp}:∀{ps:List (Int × Int)} {xs:List V},HasL K H xs (ps.map eO)→∃ as:List Addr,xs=as.map V.ref∧as.length=ps.length∧∀(i:Nat) (a:Addr) (p:Int × Int),as[i]? = some a→ps[i]? = some p→SqT K H a ([p.1,p.2].map V.int)
 | [],xs,h=>by cases h;exact⟨[],rfl,rfl,fun i a p h=>by simp at h⟩
 | p :: ps,xs,h=>by
  cases h with
  | cons h1 h2 =>
   obtain⟨as,rfl,hl,ht⟩:=HasL.prs2 h2
   unfold eO at h1
   cases h1 with
   | tup sq hi =>
    rename_i a xs
    cases hi with
    | cons i1 hi=>cases hi with
     | cons i2 hi =>
      cases hi;cases i1;cases i2
      refine⟨a :: as,rfl,by rw[RV,RV,hl],fun i b q hb hq=>?_⟩
      cases i with
      | zero=>cases hb;cases hq;exact sq
      | succ i=>exact ht i b q hb hq
theorem wg{kj kp kq}(hu:X.A.units+64<cLine)(hc:X.calm=true)(hg:Gl X "min")(hm:X.mg "min" = none)(hv:bootBuiltins "min" = some (.builtin "min"))(ha:JA X [e] t)(he:backTo pos (starEach [e] X.env)=(false,eval e X.env) :: backTo pos (starEach [] X.env):=by rfl)
  (hpl:(backTo pos (starEach [e] X.env)).any (·.1)=false:=by rfl):JE X (.Call (.Name "min" p) [e] [⟨some "default",.Constant .none kj kp,kq⟩] pos) (dCB GG t):=by
 refine⟨(Em hu hc hg hm hv ha.out he hpl).imp fun σ H Q ⟨e,M,R,ok,am,t,f⟩=>⟨e,M,_,ok,am,t,fun ds M1 ⟨ps,z,r0,r⟩ vs H1 k1 a1 hl=>?_⟩⟩
 subst z
 obtain⟨v,rfl,hv⟩:=hl.one
 obtain⟨a,xs,rfl,hS,hL⟩:=K5 a1 hv (show az M1 (.vl (ps.map eO))=some (ps.map eO)from rfl)
 obtain⟨as,rfl,hlen,hT⟩:=hL.prs2
 refine⟨a,as,ps,rfl,hS,hlen,hT,fun z=>f _ _ (r0 z) _ _ k1 a1 .non,fun i b q hb hq hm=>?_⟩
 refine f _ _ (r q (Rg hq) fun x hx=>by rw[← EK];exact hm x hx) _ _ k1 a1 ?_
 exact .tup (hT i b q hb hq) (.cons (.int _) (.cons (.int _) .nil))
end
end DL
namespace DL
theorem yZ{ps:List (Int × Int)}{M:Mem}{R:DK}:GG [.vl (ps.map eO)] M R=((ps=[]→R .non M)∧∀ p∈ps,(∀ q∈ps,¬ (q.1<p.1∨(q.1=p.1∧q.2<p.2)))→R (eO p) M):=propext ⟨fun⟨qs,e,h⟩=>by
 have inj:∀{x y:Int × Int},eO x=eO y→x=y:=fun{x y} h=>by
  unfold eO at h
  injection h with h;injection h with h1 h;injection h with h2 _
  injection h1 with h1;injection h2 with h2
  exact Prod.ext h1 h2
 have e:ps=qs:=by
  injection e with e _
  injection e with e
  exact(Ul (fun _ _=>inj)).mp e
 subst e;exact h,fun h=>⟨_,rfl,h⟩⟩
end DL
namespace L2
open PySem PySem.Spec PyProof.Rows
noncomputable def qR(n:Nat):List V:=(Sl n).map fun i:Nat=>V.int (i:Int)
def tLr(ta:TA):TE:=fun σ H Q=>ta σ H fun vs H1=>∃ n:Nat,vs=[.int (n:Int)]∧n≤1000∧∀ l,H1 l=none→Q (.ref l) (upd H1 l (.lst (qR n)))
theorem xm(n:Nat):Builtin.Range.rangeSize 0 (n:Int) 1=n:=by
 unfold Builtin.Range.rangeSize
 rw[if_pos (by decide)]
 by_cases h:(0:Int)<(n:Int)
 ·rw[if_pos h,Int.ediv_one];omega
 ·rw[if_neg h];omega
theorem wZ{n:Nat}{acc:Array Value}(h:ItemsOf (fun i v=>∃ t,v=Value.int (0+(i:Int)*1) t) acc n):p0 (qR n) acc.toList:=by
 obtain⟨hs,hv⟩:=h
 have key:∀(k:Nat) (us:List Value),(∀(j:Nat) v,us[j]? = some v→∃ t,v=Value.int ((k+j:Nat):Int) t)→p0 ((Sl us.length).map fun i:Nat=>V.int ((k+i:Nat):Int)) us:=by
  intro k us
  induction us generalizing k with
  | nil=>intro _;exact .nil
  | cons u us ih =>
   intro h
   rw[RV,List.range_succ_eq_map,Sh,Sg]
   obtain⟨t,rfl⟩:=h 0 u rfl
   refine .cons ⟨t,rfl⟩ ?_
   have:=ih (k+1) fun j v hj=>by
    obtain⟨t,e⟩:=h (j+1) v hj
    exact⟨t,by rw[e];congr 1;omega⟩
   have e:((fun i:Nat=>V.int ((k+i:Nat):Int)) ∘ Nat.succ)=fun i:Nat=>V.int ((k+1+i:Nat):Int):=by
    funext i;show V.int ((k+(i+1):Nat):Int)=_;congr 1;omega
   rw[e];exact this
 have:=key 0 acc.toList fun j v hj=>by
  rw[Array.getElem?_toList]at hj
  obtain⟨t,e⟩:=hv j v hj
  exact⟨t,by rw[e];congr 1;omega⟩
 rw[Array.length_toList,hs]at this
 have e:qR n=(Sl n).map fun i:Nat=>V.int ((0+i:Nat):Int):=by
  unfold qR;congr 1;funext i;congr 1;omega
 rw[e];exact this
theorem oq{X:Cx}{a:Expr}{ta:TA}{p1 p2 pos1 pos2:Pos}(hc:X.calm=true)(g1:Gl X "list")(n1:X.mg "list" = none)(v1:bootBuiltins "list" = some (.type "list"))(g2:Gl X "range")(n2:X.mg "range" = none)(ha:PA X [a] ta)
  (hs:starEach [a] X.env=[(false,eval a X.env)]:=by rfl) (hs3:starEach [.Call (.Name "range" p2) [a] [] pos2] X.env=[(false,eval (.Call (.Name "range" p2) [a] [] pos2) X.env)]:=by rfl) :
  PE X (.Call (.Name "list" p1) [.Call (.Name "range" p2) [a] [] pos2] [] pos1) (tLr ta):=by
 intro pins s σ H Q I h
 refine wpAny_Call_Name_kw (K4 I g1 n1 v1 ?_ (by decide) (by decide))
 refine PyProof.Rows.callWith_type1 ?_ (by rw[hs3];rfl) (by rfl)
 rw[hs3]
 show wpAny _ _ (spliced ((false,eval (.Call (.Name "range" p2) [a] [] pos2) X.env) :: backTo pos1 (starEach [] X.env))) _ _ s
 refine Calls.spliced_cons ?_
 refine wpAny_Call_Name_kw (K4 I g2 n2 boot_range (PyProof.Rows.callWith_type1 (thn (ha pos2 pins s σ H _ I h) fun us s1 ⟨vs,H1,I1,r1,q1⟩=>?_) (by rw[hs];rfl) (by rfl)) (by decide) (by decide))
 obtain⟨n,rfl,hn,q⟩:=q1
 obtain⟨u,rfl,ru⟩:=Y8 r1
 obtain⟨t,rfl⟩:=ru
 refine call_range_1 ?_
 refine Calls.spliced_nil ?_
 refine call_list_range (n:=n) (I1.ok.hd hc) (Rp _ rfl) (small_one (by omega) (by omega) (by omega) (by omega)) (xm n) (by omega) fun h' tk acc c kk e2 e3=>?_
 have k0:∀ b o,s1.heap.get? b=some o→h'.get? b=some o:=fun b o e=>kk b o (Rf _ e)
 have big:s1.heap.objs.size≤(s1.heap.push { cls:=.type "range",data:=.fields #[.int 0 s1.toks,.int (n:Int) t,.int 1 (s1.toks+1)] }).objs.size:=by rw[Sr];exact Nat.le_succ _
 refine⟨.ref _,_,I1.laid (t':=tk) (o:=.lst (qR n)) k0 big ?_,rfl,q _ (I1.hok.fresh big)⟩
 refine⟨?_,acc.toList,c,wZ e3,?_⟩
 ·unfold qR
  rw[Rh,Us]
  exact Ro hn (by decide)
 ·rw[Array.toArray_toList];exact e2
end L2
namespace DL
open PySem PySem.Spec L2
open PyProof.Rows hiding St
section
variable {X:Cx} {a:Expr} {ta:DTA} {p1 p2 pos1 pos2:Pos}
def dLr(ta:DTA):DTE:=fun e M R=>ta e M fun ds M1=>∃ n:Nat,ds=[.int (n:Int)]∧n≤1000∧R (.vl ((Sl n).map fun i:Nat=>D.int (i:Int))) M1
theorem DX{K:Ra}{H:Hp}(n:Nat):HasL K H (qR n) ((Sl n).map fun i:Nat=>D.int (i:Int)):=by
 unfold qR
 induction (Sl n)with
 | nil=>exact .nil
 | cons i r ih=>exact .cons (.int _) ih
theorem oT(hc:X.calm=true)(g1:Gl X "list")(n1:X.mg "list" = none)(v1:bootBuiltins "list" = some (.type "list"))(g2:Gl X "range")(n2:X.mg "range" = none)(ha:JA X [a] ta)
  (hs:starEach [a] X.env=[(false,eval a X.env)]:=by rfl) (hs3:starEach [.Call (.Name "range" p2) [a] [] pos2] X.env=[(false,eval (.Call (.Name "range" p2) [a] [] pos2) X.env)]:=by rfl) :
  JE X (.Call (.Name "list" p1) [.Call (.Name "range" p2) [a] [] pos2] [] pos1) (dLr ta):=by
 refine⟨(cG (oq hc g1 n1 v1 g2 n2 ha.out hs hs3)).imp fun σ H Q ⟨e,M,R,ok,am,t,f⟩=>⟨e,M,_,ok,am,t,fun ds M1 ⟨n,z,hn,r⟩ vs H1 k1 a1 r1=>?_⟩⟩
 subst z
 obtain⟨v,rfl,hv⟩:=r1.one
 cases hv
 exact⟨n,rfl,hn,fun p hp=>bq f k1 a1 (DX n) r p hp⟩
theorem ME{ta:DTA}{e:Ev}{M:Mem}{R:DK}:dLr ta e M R=ta e M fun ds M1=>∃ n:Nat,ds=[.int (n:Int)]∧n≤1000∧R (.vl ((Sl n).map fun i:Nat=>D.int (i:Int))) M1:=rfl
end
end DL
namespace GM
open PySem PySem.Spec L2 DL
open RM (sz)
theorem DI(t x f:Rat):swQ t f (t*f - x)=swQ t x f:=by unfold swQ;grind
theorem Gy(t:Rat)(p:Rat × Rat):∀ n,swQ t (stQ t p n).1 (stQ t p n).2=swQ t p.1 p.2
 | 0=>rfl
 | n+1=>by
  show swQ t (stQ t p n).2 (t*(stQ t p n).2 - (stQ t p n).1)=_
  rw[DI,Gy t p n]
theorem HG{a r:Rat}(hr:0≤r)(h:a*a≤r*r):¬ r<f6 a:=by
 intro z
 have h1:f6 a*f6 a=a*a:=by unfold f6;split<;>grind
 have:=Sm (a:=f6 a - r) (b:=f6 a+r) (by grind) (by grind)
 grind
theorem iF{t x f r:Rat}(t1:-2<t)(t2:t<2)(hr:0<r)(h:¬ r*r<M0 t x f)(n:Nat):¬ C5 t (x,f,r) n:=by
 have h4:=qw t1 t2
 unfold C5
 have e:=Gy t (x,f) n
 have e:swQ t (stQ t (x,f) n).1 (stQ t (x,f) n).2=swQ t x f:=e
 generalize (stQ t (x,f) n).1=a at *
 generalize (stQ t (x,f) n).2=b at *
 refine HG (by grind) ?_
 have r1:M0 t x f=4*swQ t x f / (4 - t*t):=rfl
 rw[r1,← e]at h
 have p:(0:Rat)≤(2*b - t*a)*(2*b - t*a):=by
  rcases Um (a:=0) (b:=2*b - t*a)with z|z
  ·exact RU z z
  ·have:=RU (a:=-(2*b - t*a)) (b:=-(2*b - t*a)) (by grind) (by grind)
   grind
 apply RA
 intro nz
 apply h
 rw[Vb h4]
 have m1:=Sm (a:=a*a - r*r) (b:=4 - t*t) (by grind) h4
 unfold swQ
 grind
theorem Mr{t k x:Rat}(hk:k*k - t*k+1=0):∀ n,(stQ t (x,k*x) n).2=k*(stQ t (x,k*x) n).1
 | 0=>rfl
 | n+1=>by
  show t*(stQ t (x,k*x) n).2 - (stQ t (x,k*x) n).1=k*(stQ t (x,k*x) n).2
  rw[Mr hk n]
  generalize (stQ t (x,k*x) n).1=a
  have:(k*k - t*k+1)*a=0:=by rw[hk];grind
  grind
theorem wd{t k x r:Rat}(hk:k*k - t*k+1=0)(h1:f6 k≤1)(h:¬ r<f6 x):∀ n,¬ r<f6 (stQ t (x,k*x) n).1
 | 0=>h
 | n+1=>by
  show ¬ r<f6 (stQ t (x,k*x) n).2
  rw[Mr hk n,aF]
  have ih:=wd hk h1 h n
  generalize (stQ t (x,k*x) n).1=a at *
  have a0:0≤f6 a:=by unfold f6;split<;>grind
  have:=RU (a:=1 - f6 k) (b:=f6 a) (by grind) a0
  grind
theorem bS{t r:Rat}(hr:0<r):∀ n,(stQ t (0,0) n)=(0,0)
 | 0=>rfl
 | n+1=>by
  show((stQ t (0,0) n).2,t*(stQ t (0,0) n).2 - (stQ t (0,0) n).1)=_
  rw[bS hr n]
  show((0:Rat),t*0 - 0)=(0,0)
  congr 1;grind
theorem jC{m:Q4}(hs:¬ p8 m){l:Rat × Rat × Rat}(hr:0<l.2.2)(hl:u7 m l.1 l.2.1 l.2.2=false)(h0:¬ l.2.2<f6 l.1)(n:Nat):¬ C5 (trQ m) l n:=by
 obtain⟨x,f,r⟩:=l
 have hr:0<r:=hr
 have h0:¬ r<f6 x:=h0
 have hl:u7 m x f r=false:=hl
 unfold u7 at hl
 rw[if_neg hs]at hl
 by_cases h2:f6 (trQ m)<2
 ·rw[if_pos h2]at hl
  obtain⟨t1,t2⟩:=J7.mp h2
  exact iF t1 t2 hr (of_decide_eq_false hl) n
 ·rw[if_neg h2]at hl
  by_cases hw:swQ (trQ m) x f≠0
  ·rw[if_pos hw]at hl;cases hl
  ·rw[if_neg hw]at hl
   have hw:swQ (trQ m) x f=0:=RA hw
   unfold C5
   show ¬ r<f6 (stQ (trQ m) (x,f) n).1
   by_cases hx:x=0
   ·have hf:f=0:=by
     rw[hx]at hw
     unfold swQ at hw
     grind
    rw[hx,hf,bS hr n]
    have:f6 (0:Rat)=0:=by decide +kernel
    rw[this];grind
   ·have hk:(f / x)*(f / x) - trQ m*(f / x)+1=0:=by
     rw[vG hx]at hw
     have:=RR.mp hw
     rcases this with z|z
     ·rcases RR.mp z with z|z<;>exact absurd z hx
     ·grind
    have ef:f=(f / x)*x:=by grind
    have h1:f6 (f / x)≤1:=by
     by_cases h3:f6 (trQ m)=2
     ·have ht:trQ m=2∨trQ m = -2:=by
       unfold f6 at h3;split at h3
       ·exact .inl h3
       ·exact .inr (by grind)
      rcases ht with ht|ht
      ·rw[ht]at hk
       have z:(f / x - 1)*(f / x - 1)=0:=by grind
       have:f / x=1:=by rcases RR.mp z with z|z<;>grind
       rw[this];decide +kernel
      ·rw[ht]at hk
       have z:(f / x+1)*(f / x+1)=0:=by grind
       have:f / x = -1:=by rcases RR.mp z with z|z<;>grind
       rw[this];decide +kernel
     ·rw[if_neg h3]at hl
      have hl:=of_decide_eq_false hl
      have h4:¬ f6 x<f6 f:=fun z=>hl (.inl z)
      rw[wM (f:=f) hx]at h4
      have p:=eY hx
      apply RA
      intro nz
      have:=Sm (a:=f6 (f / x) - 1) (b:=f6 x) (by grind) p
      grind
    rw[ef]
    exact wd hk h1 h0 n
def mT(m:Q4)(l:Rat × Rat × Rat):Prop:=∃ p q y u:Rat,l.1=p*y+q*u∧l.2.1=p*(m.1*y+m.2.1*u)+q*(m.2.2.1*y+m.2.2.2*u)
theorem sT{m:Q4}(hd:X3 m=1){p q y u:Rat}:∀ n,stQ (trQ m) (p*y+q*u,p*(m.1*y+m.2.1*u)+q*(m.2.2.1*y+m.2.2.2*u)) n=(p*(B9 m (y,u) n).1+q*(B9 m (y,u) n).2,p*(B9 m (y,u) (n+1)).1+q*(B9 m (y,u) (n+1)).2)
 | 0=>rfl
 | n+1=>by
  show((stQ _ _ n).2,trQ m*(stQ _ _ n).2 - (stQ _ _ n).1)=_
  rw[sT hd n,HV hd (y,u) p q n]
theorem vJ{m:Q4}(hd:X3 m=1)(hs:p8 m){l:Rat × Rat × Rat}(h:mT m l)(n:Nat):stQ (trQ m) (l.1,l.2.1) (n+rtN m)=stQ (trQ m) (l.1,l.2.1) n:=by
 obtain⟨p,q,y,u,e1,e2⟩:=h
 obtain⟨n0,h1,h2,h3⟩:=eJ hd hs
 rw[cF _ hs]at h1
 have h1:rtN m=n0:=by injection h1 with h1;omega
 subst h1
 have key:∀ k,B9 m (y,u) (k+rtN m)=B9 m (y,u) k:=fun k=>by
  have:pwQ m (k+rtN m)=pwQ m k:=by rw[← Av m (rtN m) k,h3,(Bc (pwQ m k)).1]
  rw[je,je,this]
 rw[e1,e2,sT hd,sT hd,key n,show n+rtN m+1=(n+1)+rtN m by omega,key (n+1)]
theorem iT{m:Q4}(hd:X3 m=1)(hs:p8 m){l:Rat × Rat × Rat}(h:mT m l)(hb:∀ n,n<rtN m→¬ C5 (trQ m) l n):∀ n,¬ C5 (trQ m) l n:=fun n=>by
 have hp:=tO.mp hs
 induction n using Nat.strongRecOn with
 | _ n ih =>
  rcases Sk n (rtN m)with z|z
  ·exact hb n z
  ·have:=ih (n - rtN m) (by omega)
   unfold C5 at *
   rw[show n=(n - rtN m)+rtN m by omega,vJ hd hs h]
   exact this
theorem jH{near far:Rat}{bs:List (Str × Rat)}{y u:Rat}:∀ l∈t9 near bs far y u,mT (tbQ (e6 near bs far)) l:=fun l hl=>by
 obtain⟨l0,_,rfl⟩:=RP.mp hl
 have ol:=N4 (e6 near bs far) y u
 refine⟨l0.1,l0.2.1,y,u,rfl,?_⟩
 show l0.1*(h8 (e6 near bs far) (y,u)).1+l0.2.1*(h8 (e6 near bs far) (y,u)).2=_
 rw[ol.1,ol.2];rfl
def mD(m:Q4):Prop:=p8 m∨f6 (trQ m)=2
noncomputable def FS(m:Q4)(ls:List (Rat × Rat × Rat)):Option (Nat × Nat)→Prop
 | none=>∀ n k,(mD m∨n<60)→y8 (trQ m) ls k n=false
 | some z=>y8 (trQ m) ls z.2 z.1=true∧(∀ n,n<z.1→∀ k,y8 (trQ m) ls k n=false)∧(∀ k,k<z.2→y8 (trQ m) ls k z.1=false)∧(mD m∨z.1<60)
theorem FS.uniq{m:Q4}{ls:List (Rat × Rat × Rat)}{a b:Option (Nat × Nat)}(ha:FS m ls a)(hb:FS m ls b):a=b:=by
 cases a with
 | none =>
  cases b with
  | none=>rfl
  | some z=>have:=ha z.1 z.2 hb.2.2.2;rw[hb.1]at this;cases this
 | some z =>
  cases b with
  | none=>have:=hb z.1 z.2 ha.2.2.2;rw[ha.1]at this;cases this
  | some w =>
   have e1:z.1=w.1:=by
    rcases SN z.1 w.1 with h|h|h
    ·have:=hb.2.1 z.1 h z.2;rw[ha.1]at this;cases this
    ·exact h
    ·have:=ha.2.1 w.1 h w.2;rw[hb.1]at this;cases this
   have e2:z.2=w.2:=by
    rcases SN z.2 w.2 with h|h|h
    ·have:=hb.2.2.1 z.2 h;rw[← e1,ha.1]at this;cases this
    ·exact h
    ·have:=ha.2.2.1 w.2 h;rw[e1,hb.1]at this;cases this
   exact congrArg some (Prod.ext e1 e2)
noncomputable def B1(m:Q4)(ls:List (Rat × Rat × Rat)):List Nat:=((ls.zipIdx).filter fun z=>u7 m z.1.1 z.1.2.1 z.1.2.2).map Prod.snd
theorem Q6{m:Q4}{ls:List (Rat × Rat × Rat)}{k:Nat}:k∈B1 m ls ↔ ∃ l,ls[k]? = some l∧u7 m l.1 l.2.1 l.2.2=true:=by
 unfold B1
 rw[RP]
 constructor
 ·rintro⟨z,hz,rfl⟩
  obtain⟨h1,h2⟩:=SX.mp hz
  exact⟨z.1,Si.mp h1,h2⟩
 ·rintro⟨l,h1,h2⟩
  exact⟨(l,k),SX.mpr ⟨Si.mpr h1,h2⟩,rfl⟩
theorem EL(m:Q4)(ls:List (Rat × Rat × Rat)):(B1 m ls).Pairwise (· < ·):=by
 unfold B1
 have h:∀(xs:List (Rat × Rat × Rat)) (k:Nat),((xs.zipIdx k).map Prod.snd).Pairwise (· < ·):=fun xs k=>by
  rw[Vl];exact UA
 have h0:=h ls 0
 rw[Ut]at h0 ⊢
 exact h0.filter _
theorem Bj{m:Q4}{ls:List (Rat × Rat × Rat)}{i j a b:Nat}(hi:(B1 m ls)[i]? = some a)(hj:(B1 m ls)[j]? = some b)(h:a<b):i<j:=by
 have pw:=EL m ls
 rw[Up]at pw
 obtain⟨h1,e1⟩:=Rc.mp hi
 obtain⟨h2,e2⟩:=Rc.mp hj
 rcases SN i j with z|z|z
 ·exact z
 ·subst z;rw[e1]at e2;omega
 ·have:=pw j i h2 h1 z
  rw[e1,e2]at this;omega
theorem E9{t:Rat}{ls:List (Rat × Rat × Rat)}{k n:Nat}:y8 t ls k n=true ↔ ∃ l,ls[k]? = some l∧C5 t l n:=by
 unfold y8
 cases h:ls[k]? with
 | none=>simp
 | some l=>simp
theorem F0{t:Rat}{ls:List (Rat × Rat × Rat)}{k n:Nat}:y8 t ls k n=false ↔ ∀ l,ls[k]? = some l→¬ C5 t l n:=by
 unfold y8
 cases h:ls[k]? with
 | none=>simp
 | some l=>simp
theorem Z3{t:Rat}{ls:List (Rat × Rat × Rat)}{ws:List Nat}{N:Nat}(h:Z4 t ls ws N=none):∀ n,n<N→∀ k∈ws,y8 t ls k n=false:=by
 intro n hn k hk
 unfold Z4 at h
 cases e:(Sl N).find? fun n=>ws.any fun k=>y8 t ls k n with
 | none =>
  have:=Tn.mp e n (Sq.mpr hn)
  rw[TX,Tp]at this
  have:=this k hk
  rwa [TX]at this
 | some n2 =>
  rw[e]at h
  have h5:=List.find?_some e
  obtain⟨k2,h6,h7⟩:=VP.mp h5
  cases e2:ws.find? fun k=>y8 t ls k n2 with
  | none=>exact absurd h7 (Tn.mp e2 k2 h6)
  | some k3 =>
   simp only[e2,VZ]at h
   cases h
theorem Z2{t:Rat}{ls:List (Rat × Rat × Rat)}{ws:List Nat}{N:Nat}{z:Nat × Nat}(h:Z4 t ls ws N=some z):z.1<N∧(∃ i:Nat,ws[i]? = some z.2∧∀ j:Nat,j<i→∀ k,ws[j]? = some k→y8 t ls k z.1=false)∧y8 t ls z.2 z.1=true∧∀ n,n<z.1→∀ k∈ws,y8 t ls k n=false:=by
 unfold Z4 at h
 cases e:(Sl N).find? fun n=>ws.any fun k=>y8 t ls k n with
 | none=>rw[e]at h;cases h
 | some n2 =>
  rw[e]at h
  obtain⟨_,h2,h3⟩:=Tb.mp e
  cases e2:ws.find? fun k=>y8 t ls k n2 with
  | none=>simp only[e2,Option.map_none]at h;cases h
  | some k3 =>
   simp only[e2,VZ]at h
   obtain rfl:=Option.some.inj h
   obtain⟨h4,i,hi,h5,h6⟩:=TN.mp e2
   refine⟨Sq.mp h2,⟨i,by rw[Rr hi,h5],fun j hj k hk=>?_⟩,h4,fun n hn k hk=>?_⟩
   ·have:=h6 j hj
    obtain⟨hl,e3⟩:=Rc.mp hk
    rw[e3]at this
    simpa using this
   ·have:=h3 n hn
    have:(ws.any fun k=>y8 t ls k n)=false:=by simpa using this
    have:=Tp.mp this k hk
    rwa [TX]at this
theorem N9{t x f:Rat}(ht:f6 t=2):∀ n:Nat,f6 (stQ t (x,f) n).1=f6 (x+(n:Rat)*((if 0<t then f else -f) - x)):=by
 have key:∀ n:Nat,∃ e:Rat,(e=1∨e = -1)∧(stQ t (x,f) n).1=e*(x+(n:Rat)*((if 0<t then f else -f) - x))∧(stQ t (x,f) n).2=e*(if 0<t then 1 else -1)*(x+((n:Rat)+1)*((if 0<t then f else -f) - x)):=by
  have h2:t=2∨t = -2:=by
   unfold f6 at ht;split at ht
   ·exact .inl ht
   ·exact .inr (by grind)
  intro n
  induction n with
  | zero =>
   refine⟨1,.inl rfl,?_,?_⟩
   ·show x=1*(x+((0:Nat):Rat)*_)
    rw[show((0:Nat):Rat)=0 from rfl];grind
   ·show f=1*(if 0<t then 1 else -1)*(x+(((0:Nat):Rat)+1)*((if 0<t then f else -f) - x))
    rw[show((0:Nat):Rat)=0 from rfl]
    split<;>grind
  | succ n ih =>
   obtain⟨e,he,e1,e2⟩:=ih
   have c:((n+1:Nat):Rat)=(n:Rat)+1:=by rw[Wa];rfl
   refine⟨e*(if 0<t then 1 else -1),?_,?_,?_⟩
   ·split<;>grind
   ·show(stQ t (x,f) n).2=_
    rw[e2,c]
   ·show t*(stQ t (x,f) n).2 - (stQ t (x,f) n).1=_
    rw[e1,e2,c]
    rcases h2 with h|h
    ·rw[h,if_pos (by decide),if_pos (by decide)];grind
    ·rw[h,if_neg (by decide),if_neg (by decide)];grind
 intro n
 obtain⟨e,he,e1,_⟩:=key n
 rw[e1,aF]
 have:f6 e=1:=by rcases he with rfl|rfl<;>decide +kernel
 rw[this];grind
theorem iK{t x f:Rat}(ht:f6 t=2)(h:swQ t x f≠0):(if 0<t then f else -f) - x≠0:=by
 have h2:t=2∨t = -2:=by
  unfold f6 at ht;split at ht
  ·exact .inl ht
  ·exact .inr (by grind)
 intro z
 apply h
 unfold swQ
 rcases h2 with h|h
 ·rw[h,if_pos (by decide)]at z
  have:f=x:=by grind
  rw[h,this];grind
 ·rw[h,if_neg (by decide)]at z
  have:f = -x:=by grind
  rw[h,this];grind
theorem qC{t x f r:Rat}(ht:f6 t=2)(h0:¬ r<f6 x){d g:Rat}(hd:d=(if 0<t then f else -f) - x)(hdn:d≠0)(hg:g=if 0<d then r - x else r+x){N:Nat}(h1:(N:Rat)*f6 d≤g)(h2:g<((N:Rat)+1)*f6 d) :
  C5 t (x,f,r) (N+1)∧∀ n,n<N+1→¬ C5 t (x,f,r) n:=by
 have xr:x≤r∧-r≤x:=by
  unfold f6 at h0;split at h0<;>exact⟨by grind,by grind⟩
 have c:((N+1:Nat):Rat)=(N:Rat)+1:=by rw[Wa];rfl
 refine⟨?_,fun n hn=>?_⟩
 ·unfold C5
  show r<f6 (stQ t (x,f) (N+1)).1
  rw[N9 ht,← hd,c]
  by_cases p:0<d
  ·rw[if_pos p]at hg
   rw[show f6 d=d by unfold f6;rw[if_pos (by grind)]]at h2
   have:r<x+((N:Rat)+1)*d:=by grind
   unfold f6;split<;>grind
  ·rw[if_neg p]at hg
   rw[show f6 d = -d by unfold f6;rw[if_neg (by grind)]]at h2
   have:x+((N:Rat)+1)*d < -r:=by grind
   unfold f6;split<;>grind
 ·unfold C5
  show ¬ r<f6 (stQ t (x,f) n).1
  rw[N9 ht,← hd]
  have n0:(0:Rat)≤(n:Rat):=by exact_mod_cast Sb n
  have nN:(n:Rat)≤(N:Rat):=by exact_mod_cast Vx hn
  by_cases p:0<d
  ·rw[if_pos p]at hg
   rw[show f6 d=d by unfold f6;rw[if_pos (by grind)]]at h1
   have a1:=RU (a:=(n:Rat)) (b:=d) n0 (by grind)
   have a2:=RU (a:=(N:Rat) - (n:Rat)) (b:=d) (by grind) (by grind)
   unfold f6;split<;>grind
  ·rw[if_neg p]at hg
   rw[show f6 d = -d by unfold f6;rw[if_neg (by grind)]]at h1
   have a1:=RU (a:=(n:Rat)) (b:=-d) n0 (by grind)
   have a2:=RU (a:=(N:Rat) - (n:Rat)) (b:=-d) (by grind) (by grind)
   unfold f6;split<;>grind
theorem gM(bs:List (Rat × Rat × Rat)):U1 (bs.map r9)=bs.zipIdx.map fun x=>D.tup [.int (x.2:Int),r9 x.1]:=by
 unfold U1
 refine TR (by simp) fun i h1 h2=>?_
 simp
theorem vE{q:Rat}{B P k l n:Nat}(h:q.den ∣ B)(hp:B ∣ q.den*P)(hq:q.num.natAbs<2 ^ k)(P0:0<P)(hP:P<2 ^ l)(hn:k+l≤n):(q.num*(B:Int).fdiv (q.den:Int)).natAbs<2 ^ n:=by
 obtain⟨c,rfl⟩:=h
 have e:((q.den*c:Nat):Int).fdiv (q.den:Int)=(c:Int):=by
  rw[L0 (by omega) (by omega),Sj]
  exact TB _ (by have:=q.den_pos;omega)
 rw[e,RL,Rb]
 have hc:c ∣ P:=Nat.dvd_of_mul_dvd_mul_left q.den_pos hp
 exact q9 (Rv (Tx _ (Uy P0 hc)) (o6 hq hP)) hn
abbrev aW(x y:D)(M:Mem)(R:DK)(Y:DXK):Prop:=∃(m:Q4) (ls:List (Rat × Rat × Rat)),x=J9 m∧y = .vl (ls.map r9)∧(CDQ 230 m∧X3 m=1∧ls.length≤40∧∀ l∈ls,jN l)∧R (.vl ((B1 m ls).map fun k:Nat=>D.int (k:Int))) M
def nX:DSp:=fun ds M R Y=>∃(x y:D),ds=[x,y]∧aW x y M R Y
theorem lM{x y:D}{M:Mem}{R:DK}{Y:DXK}:nX [x,y] M R Y=(aW x y M R Y):=propext ⟨fun z=>by obtain⟨_,_,_,_⟩:=z;walk_at "inj",fun h=>⟨x,y,rfl,h⟩⟩
abbrev dh(t x f r:Rat)(M:Mem)(R:DK)(Y:DXK):Prop:=(f6 t=2∧jN (x,f,r)∧¬ r<f6 x∧swQ t x f≠0)∧∀ N:Nat,C5 t (x,f,r) N→(∀ n,n<N→¬ C5 t (x,f,r) n)→R (.int (N:Int)) M
def tE:DSp:=fun ds M R Y=>∃(t x f r:Rat),ds=[d8 t,d8 x,d8 f,d8 r]∧dh t x f r M R Y
theorem pK{t x f r:Rat}{M:Mem}{R:DK}{Y:DXK}:tE [d8 t,d8 x,d8 f,d8 r] M R Y=(dh t x f r M R Y):=propext ⟨fun z=>by obtain⟨_,_,_,_,_,_⟩:=z;walk_at "inj",fun h=>⟨t,x,f,r,rfl,h⟩⟩
abbrev nZ(t:Rat)(x y:D)(M:Mem)(R:DK)(Y:DXK):Prop:=∃(ls:List (Rat × Rat × Rat)) (ws:List Nat),x = .vl (ls.map r9)∧y = .vl (ws.map fun k:Nat=>D.int (k:Int))∧(f6 t=2∧(ls.length≤40∧ws.length≤40)∧(∀ l∈ls,jN l∧¬ l.2.2<f6 l.1)∧∀ k∈ws,∃ l,ls[k]? = some l∧swQ t l.1 l.2.1≠0)∧(ws=[]→R .non M)∧∀ n k:Nat,k∈ws→y8 t ls k n=true→(∀ n',n'<n→∀ k'∈ws,y8 t ls k' n'=false)→(∀ k'∈ws,k'<k→y8 t ls k' n=false)→R (.tup [.int (n:Int),.int (k:Int)]) M
def HQ:DSp:=fun ds M R Y=>∃(t:Rat) (x y:D),ds=[d8 t,x,y]∧nZ t x y M R Y
theorem yv{t:Rat}{x y:D}{M:Mem}{R:DK}{Y:DXK}:HQ [d8 t,x,y] M R Y=(nZ t x y M R Y):=propext ⟨fun z=>by obtain⟨_,_,_,_,_⟩:=z;walk_at "inj",fun h=>⟨t,x,y,rfl,h⟩⟩
abbrev dG(x y z:D)(M:Mem)(R:DK)(Y:DXK):Prop:=∃(m:Q4) (ls:List (Rat × Rat × Rat)),x=J9 m∧y = .vl (ls.map r9)∧z = .vl ((B1 m ls).map fun k:Nat=>D.int (k:Int))∧(CDQ 230 m∧X3 m=1∧ls.length≤40∧∀ l∈ls,jN l∧mT m l)∧∀ o,FS m ls o→R (vI o) M
def tM:DSp:=fun ds M R Y=>∃(x y z:D),ds=[x,y,z]∧dG x y z M R Y
theorem pV{x y z:D}{M:Mem}{R:DK}{Y:DXK}:tM [x,y,z] M R Y=(dG x y z M R Y):=propext ⟨fun z=>by obtain⟨_,_,_,_,_⟩:=z;walk_at "inj",fun h=>⟨x,y,z,rfl,h⟩⟩
noncomputable def F3(m:Q4)(l:Rat × Rat × Rat):En:=if l.1=0∧l.2.1=0 then .one "nought" else if p8 m then .int "round" (rtN m:Int)else if f6 (trQ m)<2 then .rat "reach" (M0 (trQ m) l.1 l.2.1)else .rat "kept" (l.2.1 / l.1)
abbrev W4(w x:D)(a f:Rat)(M:Mem)(R:DK)(Y:DXK):Prop:=∃(m:Q4) (r:Rat),w = .str (kwS m)∧x=J9 m∧(CDQ 230 m∧X3 m=1∧jN (a,f,r)∧(¬ p8 m→¬ f6 (trQ m)<2→a=0→f=0))∧R (enD (F3 m (a,f,r))) M
def iV:DSp:=fun ds M R Y=>∃(w x:D) (a f:Rat),ds=[w,x,d8 a,d8 f]∧W4 w x a f M R Y
theorem gP{w x:D}{a f:Rat}{M:Mem}{R:DK}{Y:DXK}:iV [w,x,d8 a,d8 f] M R Y=(W4 w x a f M R Y):=propext ⟨fun z=>by obtain⟨_,_,_,_,_,_⟩:=z;walk_at "inj",fun h=>⟨w,x,a,f,rfl,h⟩⟩
inductive EvR where
 | stopped (n k:Nat)
 | late (k:Nat)
 | never
noncomputable def pB(m:Q4)(ls:List (Rat × Rat × Rat)):EvR→Prop
 | .stopped n k=>FS m ls (some (n,k))
 | .late k=>FS m ls none∧(B1 m ls).head? = some k
 | .never=>FS m ls none∧B1 m ls=[]
noncomputable def evD(ws:List (D × D))(m:Q4)(ls:List (Rat × Rat × Rat)):EvR→D
 | .stopped n k=>.tup [.str "stopped",.int (n:Int),(ws.getD k (.non,.non)).1,(ws.getD k (.non,.non)).2]
 | .late k=>.tup [.str "late",.int (k:Int)]
 | .never=>.tup [.str "never",.vl ((ls.map (F3 m)).map enD)]
noncomputable abbrev T3:=D × D × (Str × Rat)
noncomputable def Y4(T:List T3)(j:Nat)(z:T3):Rat × Rat × Rat:=((h8 ((T.map fun z=>z.2.2).take j) (1,0)).1,(h8 ((T.map fun z=>z.2.2).take j) (0,1)).1,z.2.2.2)
noncomputable def um(z:T3):Bool:=z.2.2.1 == Str.ofString "stop"
noncomputable def Q1(T:List T3)(i:Nat):List (T3 × Nat):=((T.take i).zipIdx).filter fun z=>um z.1
theorem Z1{z:T3}:um z=true↔z.2.2.1 = "stop" := by unfold um;exact beq_iff_eq
theorem Ay{T:List T3}{i:Nat}{z:T3}(h:T[i]? = some z):Q1 T (i+1)=Q1 T i++(if z.2.2.1 = "stop" then[(z,i)]else[]):=by
 have hl:=(Rc.mp h).1
 unfold Q1
 rw[SO,h,List.zipIdx_append,Se,Ss,VW (by omega)]
 congr 1
 show([(z,0+i)].filter fun z=>um z.1)=_
 rw[VF]
 by_cases hz:z.2.2.1 = "stop"
 ·rw[if_pos hz,UB (p:=fun z:T3 × Nat=>um z.1) (Z1.mpr hz)];rfl
 ·rw[if_neg hz,UC (p:=fun z:T3 × Nat=>um z.1) (fun e=>hz (Z1.mp e))];rfl
theorem qy(T:List T3):∀ i,i≤T.length→B3 (T.map fun z=>z.2.2) i=(Q1 T i).map fun z=>Y4 T z.2 z.1
 | 0,_=>rfl
 | i+1,h=>by
  have hz:=Rr (l:=T) (i:=i) (by omega)
  have hL:(T.map fun z=>z.2.2)[i]? = some (T[i]).2.2:=by rw[Rj,hz];rfl
  rw[fZ hL,Ay hz,RB,← qy T i (by omega)]
  split
  ·rfl
  ·rw[SV,SE]
theorem cZ(T:List T3):∀ i,i≤T.length→A8 T i=(Q1 T i).map fun z=>(z.1.1,z.1.2.1)
 | 0,_=>rfl
 | i+1,h=>by
  have hz:=Rr (l:=T) (i:=i) (by omega)
  rw[L3,SO,hz,Se,RB,Ay hz,RB,← cZ T i (by omega),L3]
  congr 1
  show(([T[i]].filter um).map fun z=>(z.1,z.2.1))=_
  by_cases hs:(T[i]).2.2.1 = "stop"
  ·rw[if_pos hs,UB (Z1.mpr hs)];rfl
  ·rw[if_neg hs,UC (fun e=>hs (Z1.mp e))];rfl
theorem K9{T:List T3}{z:T3}{j:Nat}:(z,j)∈Q1 T T.length↔T[j]? = some z∧z.2.2.1 = "stop" := by
 unfold Q1
 rw[RG,SX,Si]
 exact and_congr Iff.rfl Z1
theorem oj{T:List T3}{i k:Nat}{a b:T3 × Nat}(hi:(Q1 T T.length)[i]? = some a)(hk:(Q1 T T.length)[k]? = some b):a.2<b.2↔i<k:=by
 have pw:((Q1 T T.length).map Prod.snd).Pairwise (· < ·):=by
  unfold Q1
  rw[RG]
  have h:∀(xs:List T3) (k:Nat),((xs.zipIdx k).map Prod.snd).Pairwise (· < ·):=fun xs k=>by
   rw[Vl];exact UA
  have h0:=h T 0
  rw[Ut]at h0 ⊢
  exact h0.filter _
 rw[Ut,Up]at pw
 obtain⟨h1,e1⟩:=Rc.mp hi
 obtain⟨h2,e2⟩:=Rc.mp hk
 rcases SN i k with z|z|z
 ·have:=pw i k h1 h2 z
  rw[e1,e2]at this
  exact⟨fun _=>z,fun _=>this⟩
 ·subst z;rw[e1]at e2;subst e2
  exact⟨fun h=>absurd h (by omega),fun h=>absurd h (by omega)⟩
 ·have:=pw k i h2 h1 z
  rw[e1,e2]at this
  exact⟨fun h=>absurd h (by omega),fun h=>absurd h (by omega)⟩
def bT(t:Rat)(T:List T3)(y u:Rat)(n j:Nat):Prop:=∃ z,T[j]? = some z∧z.2.2.1 = "stop" ∧ C5 t (M7 (T.map fun z=>z.2.2) y u (Y4 T j z)) n
def laT(m:Q4)(T:List T3)(y u:Rat)(j:Nat):Prop:=∃ z,T[j]? = some z∧z.2.2.1 = "stop" ∧ u7 m (M7 (T.map fun z=>z.2.2) y u (Y4 T j z)).1 (M7 (T.map fun z=>z.2.2) y u (Y4 T j z)).2.1 z.2.2.2=true
theorem mM(near far:Rat)(bs:List (Str × Rat))(y u:Rat):t9 near bs far y u=(Q1 (g8 near bs far) (g8 near bs far).length).map fun z=>M7 ((g8 near bs far).map fun z=>z.2.2) y u (Y4 (g8 near bs far) z.2 z.1):=by
 unfold t9
 rw[← C3,← G3,qy _ _ (Rx _),Sg];rfl
section
variable {m:Q4} {T:List T3} {y u:Rat} {ls:List (Rat × Rat × Rat)}
theorem dZ(hls:ls=(Q1 T T.length).map fun z=>M7 (T.map fun z=>z.2.2) y u (Y4 T z.2 z.1)){t:Rat}{i n:Nat}{z:T3 × Nat}(h:(Q1 T T.length)[i]? = some z):y8 t ls i n=true↔bT t T y u n z.2:=by
 have hm:=Rg h
 obtain⟨hz,hs⟩:=K9.mp (show(z.1,z.2)∈_ from hm)
 have e:ls[i]? = some (M7 (T.map fun z=>z.2.2) y u (Y4 T z.2 z.1)):=by rw[hls,Rj,h];rfl
 rw[E9]
 constructor
 ·rintro⟨l,hl,hb⟩
  rw[e]at hl
  obtain rfl:=Option.some.inj hl
  exact⟨z.1,hz,hs,hb⟩
 ·rintro⟨z2,hz2,_,hb⟩
  rw[hz]at hz2
  obtain rfl:=Option.some.inj hz2
  exact⟨_,e,hb⟩
theorem Cm{t:Rat}{n j:Nat}(h:bT t T y u n j):∃(i:Nat) (z:T3),(Q1 T T.length)[i]? = some (z,j):=by
 obtain⟨z,hz,hs,_⟩:=h
 obtain⟨i,hi⟩:=Sa (K9.mpr ⟨hz,hs⟩)
 exact⟨i,z,hi⟩
theorem rL(hls:ls=(Q1 T T.length).map fun z=>M7 (T.map fun z=>z.2.2) y u (Y4 T z.2 z.1)):B1 m ls=[] ↔ ∀ j,¬ laT m T y u j:=by
 constructor
 ·rintro h j ⟨z,hz,hs,hb⟩
  obtain⟨i,hi⟩:=Sa (K9.mpr ⟨hz,hs⟩)
  have:i∈B1 m ls:=Q6.mpr ⟨_,by rw[hls,Rj,hi];rfl,hb⟩
  rw[h]at this;cases this
 ·intro h
  apply RA
  intro hn
  obtain⟨i,hi⟩:=List.exists_mem_of_ne_nil _ hn
  obtain⟨l,hl,hb⟩:=Q6.mp hi
  rw[hls,Rj]at hl
  obtain⟨z,hz,rfl⟩:=Ru.mp hl
  obtain⟨h1,h2⟩:=K9.mp (show(z.1,z.2)∈_ from Rg hz)
  exact h z.2 ⟨z.1,h1,h2,hb⟩
def NoT(m:Q4)(T:List T3)(y u:Rat):Prop:=∀ n j,(mD m∨n<60)→¬ bT (trQ m) T y u n j
def AtT(m:Q4)(T:List T3)(y u:Rat)(n j:Nat):Prop:=bT (trQ m) T y u n j∧(∀ n',n'<n→∀ j',¬ bT (trQ m) T y u n' j')∧(∀ j',j'<j→¬ bT (trQ m) T y u n j')∧(mD m∨n<60)
theorem wO(hls:ls=(Q1 T T.length).map fun z=>M7 (T.map fun z=>z.2.2) y u (Y4 T z.2 z.1)):FS m ls none↔NoT m T y u:=by
 constructor
 ·intro h n j hn hb
  obtain⟨i,z,hi⟩:=Cm hb
  have:=h n i hn
  rw[(dZ hls hi).mpr hb]at this;cases this
 ·intro h n i hn
  cases e:(Q1 T T.length)[i]? with
  | none=>exact F0.mpr fun l hl=>by rw[hls,Rj,e]at hl;cases hl
  | some z =>
   cases e2:y8 (trQ m) ls i n with
   | false=>rfl
   | true=>exact absurd ((dZ hls e).mp e2) (h n z.2 hn)
theorem Fz(hls:ls=(Q1 T T.length).map fun z=>M7 (T.map fun z=>z.2.2) y u (Y4 T z.2 z.1)){n i:Nat}(h:FS m ls (some (n,i))):∃ z:T3 × Nat,(Q1 T T.length)[i]? = some z∧AtT m T y u n z.2:=by
 obtain⟨h1,h2,h3,h4⟩:=h
 have h1:y8 (trQ m) ls i n=true:=h1
 obtain⟨l,hl,_⟩:=E9.mp h1
 rw[hls,Rj]at hl
 obtain⟨z,hz,_⟩:=Ru.mp hl
 refine⟨z,hz,(dZ hls hz).mp h1,fun n' hn' j' hb=>?_,fun j' hj' hb=>?_,h4⟩
 ·obtain⟨i',z',hi'⟩:=Cm hb
  have:=h2 n' hn' i'
  rw[(dZ hls hi').mpr hb]at this;cases this
 ·obtain⟨i',z',hi'⟩:=Cm hb
  have:=h3 i' ((oj hi' hz).mp hj')
  have this:y8 (trQ m) ls i' n=false:=this
  rw[(dZ hls hi').mpr hb]at this;cases this
end
def EvT(m:Q4)(T:List T3)(y u:Rat)(d:D):Prop :=
 (∃(n j:Nat) (z:T3),d = .tup [.str "stopped",.int (n:Int),z.1,z.2.1]∧T[j]? = some z∧z.2.2.1 = "stop" ∧ AtT m T y u n j) ∨
 (∃ k:Nat,d = .tup [.str "late",.int (k:Int)]∧NoT m T y u∧∃ j,laT m T y u j) ∨
 (∃ es:List En,d = .tup [.str "never",.vl (es.map enD)]∧NoT m T y u∧(∀ j,¬ laT m T y u j)∧es=((Q1 T T.length).map fun z=>F3 m (M7 (T.map fun z=>z.2.2) y u (Y4 T z.2 z.1))))
theorem Jn{near far:Rat}{bs:List (Str × Rat)}{y u:Rat}{r:EvR}(h:pB (tbQ (e6 near bs far)) (t9 near bs far y u) r):EvT (tbQ (e6 near bs far)) (g8 near bs far) y u (evD (A8 (g8 near bs far) (g8 near bs far).length) (tbQ (e6 near bs far)) (t9 near bs far y u) r):=by
 have hls:=mM near far bs y u
 cases r with
 | stopped n i =>
  obtain⟨z,hz,hat⟩:=Fz hls h
  obtain⟨h1,h2⟩:=K9.mp (show(z.1,z.2)∈_ from Rg hz)
  refine .inl ⟨n,z.2,z.1,?_,h1,h2,hat⟩
  have e:(A8 (g8 near bs far) (g8 near bs far).length).getD i (.non,.non)=(z.1.1,z.1.2.1):=by
   rw[cZ _ _ (Rx _),Sf,Rj,hz];rfl
  show D.tup [D.str (Str.ofString "stopped"),D.int (n:Int),((A8 (g8 near bs far) (g8 near bs far).length).getD i (.non,.non)).1,((A8 (g8 near bs far) (g8 near bs far).length).getD i (.non,.non)).2]=_
  rw[e]
 | late k =>
  obtain⟨h1,h2⟩:=h
  refine .inr (.inl ⟨k,rfl,(wO hls).mp h1,?_⟩)
  apply RA
  intro hn
  have:=(rL (m:=tbQ (e6 near bs far)) hls).mpr fun j hj=>hn ⟨j,hj⟩
  rw[this]at h2;cases h2
 | never =>
  obtain⟨h1,h2⟩:=h
  refine .inr (.inr ⟨_,rfl,(wO hls).mp h1,(rL hls).mp h2,?_⟩)
  rw[hls,Sg];rfl
noncomputable def wS:D→Str
 | .tup (.str w :: _)=>w
 | _ => ""
theorem xo(m:Q4)(l:Rat × Rat × Rat):cl 58 (enD (F3 m l))=true:=by
 unfold F3
 have c1:PyData.canLay0 (.str (Str.ofString "nought"))=true:=by decide +kernel
 have c2:PyData.canLay0 (.str (Str.ofString "round"))=true:=by decide +kernel
 have c3:PyData.canLay0 (.str (Str.ofString "reach"))=true:=by decide +kernel
 have c4:PyData.canLay0 (.str (Str.ofString "kept"))=true:=by decide +kernel
 split
 ·show(PyData.canLay0 (.str (Str.ofString "nought")) && true)=true
  rw[c1];rfl
 ·split
  ·show(PyData.canLay0 (.str (Str.ofString "round")) && (true && true))=true
   rw[c2];rfl
  ·split
   ·show(PyData.canLay0 (.str (Str.ofString "reach")) && (cl 56 (d8 (M0 (trQ m) l.1 l.2.1)) && true))=true
    rw[c3];rfl
   ·show(PyData.canLay0 (.str (Str.ofString "kept")) && (cl 56 (d8 (l.2.1 / l.1)) && true))=true
    rw[c4];rfl
theorem BF{m:Q4}{T:List T3}{y u:Rat}{d:D}(hT:∀ z∈T,cl 59 z.1=true∧cl 59 z.2.1=true)(h:EvT m T y u d):cl 60 d=true:=by
 have c1:PyData.canLay0 (.str (Str.ofString "stopped"))=true:=by decide +kernel
 have c2:PyData.canLay0 (.str (Str.ofString "late"))=true:=by decide +kernel
 have c3:PyData.canLay0 (.str (Str.ofString "never"))=true:=by decide +kernel
 rcases h with⟨n,j,z,rfl,hz,_⟩|⟨k,rfl,_⟩|⟨es,rfl,_,_,rfl⟩
 ·obtain⟨a,b⟩:=hT z (Rg hz)
  show(PyData.canLay0 (.str (Str.ofString "stopped")) && (true && (cl 59 z.1 && (cl 59 z.2.1 && true))))=true
  rw[c1,a,b];rfl
 ·show(PyData.canLay0 (.str (Str.ofString "late")) && (true && true))=true
  rw[c2];rfl
 ·show(PyData.canLay0 (.str (Str.ofString "never")) && (cl 59 (.vl _) && true))=true
  have:clL 58 ((((Q1 T T.length).map fun z=>F3 m (M7 (T.map fun z=>z.2.2) y u (Y4 T z.2 z.1)))).map enD)=true:=Cb fun d hd=>by
   obtain⟨e,he,rfl⟩:=RP.mp hd
   obtain⟨z,_,rfl⟩:=RP.mp he
   exact xo _ _
  rw[c3]
  show(true && (clL 58 _ && true))=true
  rw[this];rfl
theorem Ff{m:Q4}{T:List T3}{y u:Rat}{d:D}(h:EvT m T y u d)(hw:wS d = "stopped"):∃(n j:Nat) (z:T3),d = .tup [.str "stopped",.int (n:Int),z.1,z.2.1]∧T[j]? = some z∧z.2.2.1 = "stop" ∧ AtT m T y u n j:=by
 rcases h with h|⟨k,rfl,_⟩|⟨es,rfl,_⟩
 ·exact h
 ·exact absurd hw (show ¬ Str.ofString "late" = Str.ofString "stopped" by decide)
 ·exact absurd hw (show ¬ Str.ofString "never" = Str.ofString "stopped" by decide)
theorem Fg{m:Q4}{T:List T3}{y u:Rat}{d:D}(h:EvT m T y u d)(hw:wS d = "late"):NoT m T y u∧∃ j,laT m T y u j:=by
 rcases h with⟨n,j,z,rfl,_⟩|⟨k,rfl,h⟩|⟨es,rfl,_⟩
 ·exact absurd hw (show ¬ Str.ofString "stopped" = Str.ofString "late" by decide)
 ·exact h
 ·exact absurd hw (show ¬ Str.ofString "never" = Str.ofString "late" by decide)
theorem BE{m:Q4}{T:List T3}{y u:Rat}{d:D}(h:EvT m T y u d)(hw:wS d = "never"):NoT m T y u∧∀ j,¬ laT m T y u j:=by
 rcases h with⟨n,j,z,rfl,_⟩|⟨k,rfl,_⟩|⟨es,rfl,h1,h2,_⟩
 ·exact absurd hw (show ¬ Str.ofString "stopped" = Str.ofString "never" by decide)
 ·exact absurd hw (show ¬ Str.ofString "late" = Str.ofString "never" by decide)
 ·exact⟨h1,h2⟩
theorem BD{m:Q4}{T:List T3}{y u:Rat}{d:D}(h:EvT m T y u d):wS d = "stopped" ∨ wS d = "late" ∨ wS d = "never" := by
 rcases h with⟨n,j,z,rfl,_⟩|⟨k,rfl,_⟩|⟨es,rfl,_⟩
 ·exact .inl rfl
 ·exact .inr (.inl rfl)
 ·exact .inr (.inr rfl)
theorem Mt{m:Q4}{T:List T3}{y u:Rat}{n j:Nat}(h:AtT m T y u n j)(g:NoT m T y u):False:=g n j h.2.2.2 h.1
def wq(m:Q4)(l:Rat × Rat × Rat):Prop:=(∀ n,(mD m∨n<60)→¬ C5 (trQ m) l n)∧u7 m l.1 l.2.1 l.2.2=false
noncomputable def pE(m:Q4)(l:Rat × Rat × Rat):En:=if l.1=0∧l.2.1=0 then .one "nought" else if p8 m then .int "round" (rtN m:Int)else if f6 (trQ m)<2 then .rat "reach" (M0 (trQ m) l.1 l.2.1)else if l.1=0 then .rat "kept" 1 else .rat "kept" (l.2.1 / l.1)
theorem xP(m:Q4){r:Rat}(hr:0<r):u7 m 0 0 r=false:=by
 unfold u7
 have a0:f6 (0:Rat)=0:=by decide +kernel
 split
 ·rfl
 ·split
  ·rw[show M0 (trQ m) 0 0=0 by unfold M0;grind]
   refine decide_eq_false fun z=>?_
   have:=Sm hr hr
   grind
  ·rw[if_neg (fun z=>z (by unfold swQ;grind))]
   split
   ·rfl
   ·rw[a0];refine decide_eq_false fun z=>?_
    rcases z with z|z<;>grind
theorem mG{m:Q4}(h:p8 m)(x f r:Rat):u7 m x f r=false:=by unfold u7;rw[if_pos h]
theorem xS{m:Q4}(hs:¬ p8 m)(h3:¬ f6 (trQ m)<2){x f r:Rat}(hr:0<r)(hx:x≠0):(¬ 1<f6 (f / x)∧(f / x)*(f / x)+1=trQ m*(f / x)∧(f / x)*x=f∧¬ r<f6 x)↔(¬ r<f6 x∧u7 m x f r=false):=by
 have fx:(f / x)*x=f:=by grind
 have sw:swQ (trQ m) x f=0↔(f / x)*(f / x)+1=trQ m*(f / x):=by
  rw[vG hx]
  constructor
  ·intro z
   rcases RR.mp z with z|z
   ·rcases RR.mp z with z|z<;>exact absurd z hx
   ·grind
  ·intro z
   have:1 - trQ m*(f / x)+f / x*(f / x)=0:=by grind
   rw[this];grind
 have ab:=wM (f:=f) hx
 have ap:=eY hx
 unfold u7
 rw[if_neg hs,if_neg h3]
 constructor
 ·rintro⟨h1,h2,_,h4⟩
  refine⟨h4,?_⟩
  rw[if_neg (fun z=>z (sw.mpr h2))]
  split
  ·rfl
  ·refine decide_eq_false fun z=>?_
   rcases z with z|z
   ·rw[ab]at z
    have:=RU (a:=1 - f6 (f / x)) (b:=f6 x) (by grind) (by grind)
    grind
   ·exact h4 z
 ·rintro⟨h4,h5⟩
  by_cases hw:swQ (trQ m) x f≠0
  ·rw[if_pos hw]at h5;cases h5
  ·rw[if_neg hw]at h5
   have hw:swQ (trQ m) x f=0:=RA hw
   have h2:=sw.mp hw
   refine⟨fun z=>?_,h2,fx,h4⟩
   by_cases ht:f6 (trQ m)=2
   ·have ht:trQ m=2∨trQ m = -2:=by
     unfold f6 at ht;split at ht
     ·exact .inl ht
     ·exact .inr (by grind)
    generalize f / x=q at *
    have hq:q=1∨q = -1:=by
     rcases ht with ht|ht
     ·rw[ht]at h2
      have z:(q - 1)*(q - 1)=0:=by grind
      exact .inl (by rcases RR.mp z with z|z<;>grind)
     ·rw[ht]at h2
      have z:(q+1)*(q+1)=0:=by grind
      exact .inr (by rcases RR.mp z with z|z<;>grind)
    rcases hq with rfl|rfl
    ·exact absurd z (by decide +kernel)
    ·exact absurd z (by decide +kernel)
   ·rw[if_neg ht]at h5
    apply of_decide_eq_false h5
    left
    rw[ab]
    have:=Sm (a:=f6 (f / x) - 1) (b:=f6 x) (by grind) ap
    grind
theorem xO{m:Q4}(hd:X3 m=1){l:Rat × Rat × Rat}(hr:0<l.2.2)(hf:mT m l):Cu m l (pE m l)↔wq m l:=by
 obtain⟨x,f,r⟩:=l
 have hr:0<r:=hr
 unfold pE
 by_cases h0:x=0∧f=0
 ·rw[if_pos (show(x,f,r).1=0∧(x,f,r).2.1=0 from h0)]
  obtain⟨rfl,rfl⟩:=h0
  refine⟨fun _=>⟨fun n _=>?_,xP m hr⟩,fun _=>⟨rfl,rfl,rfl⟩⟩
  unfold C5
  show ¬ r<f6 (stQ (trQ m) (0,0) n).1
  rw[bS hr n,show f6 (0:Rat)=0 by decide +kernel];grind
 ·rw[if_neg (show ¬ ((x,f,r).1=0∧(x,f,r).2.1=0)from h0)]
  by_cases hs:p8 m
  ·rw[if_pos hs]
   exact⟨fun h=>⟨fun n _=>iT hd hs hf h.2.2.2 n,mG hs _ _ _⟩,fun h=>⟨rfl,hs,rfl,fun j _=>h.1 j (.inl (.inl hs))⟩⟩
  ·rw[if_neg hs]
   by_cases h2:f6 (trQ m)<2
   ·rw[if_pos h2]
    obtain⟨t1,t2⟩:=J7.mp h2
    have lt:u7 m x f r=decide (r*r<M0 (trQ m) x f):=by unfold u7;rw[if_neg hs,if_pos h2]
    constructor
    ·rintro(h|h)
     ·exact⟨fun n _=>iF t1 t2 hr h.2.2.2 n,by show u7 m x f r=false;rw[lt];exact decide_eq_false h.2.2.2⟩
     ·exact absurd h.1 (by decide)
    ·intro h
     have h5:u7 m x f r=false:=h.2
     rw[lt]at h5
     exact .inl ⟨rfl,⟨hs,h2⟩,rfl,of_decide_eq_false h5⟩
   ·rw[if_neg h2]
    by_cases hx:x=0
    ·rw[if_pos (show(x,f,r).1=0 from hx)]
     have hf0:f≠0:=fun z=>h0 ⟨hx,z⟩
     constructor
     ·rintro(h|h)
      ·exact absurd h.1 (by decide)
      ·exact absurd (show f=0 by have:=h.2.2.2.1;have this:1*x=f:=this;rw[hx]at this;grind) hf0
     ·intro h
      have h5:u7 m x f r=false:=h.2
      unfold u7 at h5
      rw[if_neg hs,if_neg h2,if_pos (by rw[hx];unfold swQ;grind)]at h5
      cases h5
    ·rw[if_neg (show ¬ (x,f,r).1=0 from hx)]
     have kg:=xS (f:=f) hs h2 hr hx
     constructor
     ·rintro(h|h)
      ·exact absurd h.1 (by decide)
      ·obtain⟨h4,h5⟩:=kg.mp h.2
       exact⟨fun n _=>jC (l:=(x,f,r)) hs hr h5 h4 n,h5⟩
     ·intro h
      exact .inr ⟨rfl,kg.mpr ⟨h.1 0 (.inr (by decide)),h.2⟩⟩
section
variable {near far:Rat} {bs:List (Str × Rat)} {y u:Rat}
end
section
variable {m:Q4} {T:List T3} {y u y2 u2:Rat} {d d2:D}
theorem LY(h:EvT m T y u d)(hn:NoT m T y u):¬ wS d = "stopped" := fun w=>by
 obtain⟨n,j,z,_,_,_,hat⟩:=Ff h w
 exact Mt hat hn
end
theorem Jf{m:Q4}{T:List T3}{y u:Rat}{ls:List (Rat × Rat × Rat)}(hls:ls=(Q1 T T.length).map fun z=>M7 (T.map fun z=>z.2.2) y u (Y4 T z.2 z.1)):(∀ l∈ls,wq m l)↔(NoT m T y u∧∀ j,¬ laT m T y u j):=by
 constructor
 ·intro g
  have mem:∀{j:Nat} {z:T3},T[j]? = some z→z.2.2.1 = "stop" → M7 (T.map fun z=>z.2.2) y u (Y4 T j z)∈ls:=fun{j z} hz hs=>by
   rw[hls];exact RP.mpr ⟨(z,j),K9.mpr ⟨hz,hs⟩,rfl⟩
  refine⟨fun n j hn ⟨z,hz,hs,hb⟩=>(g _ (mem hz hs)).1 n hn hb,fun j ⟨z,hz,hs,hb⟩=>?_⟩
  have h5:u7 m (M7 (T.map fun z=>z.2.2) y u (Y4 T j z)).1 (M7 (T.map fun z=>z.2.2) y u (Y4 T j z)).2.1 z.2.2.2=false:=(g _ (mem hz hs)).2
  rw[h5]at hb;cases hb
 ·rintro⟨g1,g2⟩ l hl
  rw[hls]at hl
  obtain⟨z,hz,rfl⟩:=RP.mp hl
  obtain⟨a1,a2⟩:=K9.mp (show(z.1,z.2)∈_ from hz)
  refine⟨fun n hn hb=>g1 n z.2 hn ⟨z.1,a1,a2,hb⟩,?_⟩
  cases e:u7 m (M7 (T.map fun z=>z.2.2) y u (Y4 T z.2 z.1)).1 (M7 (T.map fun z=>z.2.2) y u (Y4 T z.2 z.1)).2.1 z.1.2.2.2 with
  | false=>exact e
  | true=>exact absurd ⟨z.1,a1,a2,e⟩ (g2 z.2)
theorem CD.by{S k:Nat}{y u c:Rat}(h:CD S y 0 u 0)(hc:sz c≤k):CD (S+k) (y*c) 0 (u*c) 0:=by
 obtain⟨Y,Y2,U,U2,D0,h0,hd,⟨h1,h2,h3,h4⟩,e1,e2,e3,e4⟩:=h.ex
 have cn:=u0 c hc
 have cd:=o9 c hc
 have ec:=v8 c
 refine⟨Y*c.num,0,U*c.num,0,D0*c.den,Sy h0 c.den_nz,o6 hd cd,⟨e8 h1 cn,Sx _,e8 h3 cn,Sx _⟩,?_,?_,?_,?_⟩
 ·rw[RK,Rm,← e1,← ec];grind
 ·show(0:Rat)*_=((0:Int):Rat);grind
 ·rw[RK,Rm,← e3,← ec];grind
 ·show(0:Rat)*_=((0:Int):Rat);grind
theorem Lv{m:Q4}{l:Rat × Rat × Rat}(zt:sz (trQ m)≤231)(zx:sz l.1≤1231)(zf:sz l.2.1≤1462):JN (pE m l):=by
 unfold pE
 split
 ·show cl 57 (.str (Str.ofString "nought"))=true;decide +kernel
 ·split
  ·refine⟨by decide +kernel,?_⟩
   have:rtN m≤6:=by
    unfold rtN;repeat' split
    all_goals decide
   rw[Rb];omega
  ·split
   ·rename_i h
    obtain⟨t1,t2⟩:=J7.mp h
    exact⟨by decide +kernel,Ro (tR zt zx zf t1 t2) (by decide)⟩
   ·split
    ·exact⟨by decide +kernel,by rw[RM.R9];decide⟩
    ·rename_i h
     have:=RM.G8 l.2.1 l.1 h
     exact⟨by decide +kernel,by omega⟩
abbrev aq(near:Rat)(bs:List (Str × Rat))(far:Rat)(M:Mem)(R:DK)(Y:DXK):Prop:=C6 near bs far∧∀ v,Cv (tbQ (e6 near bs far)) v→R (.tup [.str (kwS (tbQ (e6 near bs far))),v]) M
def ja:DSp:=fun ds M R Y=>∃(x0:D) (near:Rat) (bs:List (Str × Rat)) (far:Rat),ds=[.tup [d8 near,x0,d8 far]]∧(x0 = .vl (bs.map g6)∨x0 = .tup (bs.map g6))∧aq near bs far M R Y
theorem pS{near:Rat}{bs:List (Str × Rat)}{far:Rat}{M:Mem}{R:DK}{Y:DXK}:ja [.tup [d8 near,.vl (bs.map g6),d8 far]] M R Y=(aq near bs far M R Y):=propext ⟨fun z=>by obtain⟨_,_,_,_,_,_,_⟩:=z;walk_at "injs",fun h=>⟨_,near,bs,far,rfl,.inl rfl,h⟩⟩
theorem gY{near:Rat}{bs:List (Str × Rat)}{far:Rat}{M:Mem}{R:DK}{Y:DXK}:ja [.tup [d8 near,.tup (bs.map g6),d8 far]] M R Y=(aq near bs far M R Y):=propext ⟨fun z=>by obtain⟨_,_,_,_,_,_,_⟩:=z;walk_at "injs",fun h=>⟨_,near,bs,far,rfl,.inr rfl,h⟩⟩
end GM
namespace DL
open PySem PySem.Spec L2
end DL
namespace GM
open PySem PySem.Spec L2 DL
open RM (sz)
theorem zY{m:Q4}{l:Rat × Rat × Rat}(g:wq m l):F3 m l=pE m l:=by
 unfold F3 pE
 by_cases h0:l.1=0∧l.2.1=0
 ·rw[if_pos h0,if_pos h0]
 ·rw[if_neg h0,if_neg h0]
  by_cases hs:p8 m
  ·rw[if_pos hs,if_pos hs]
  ·rw[if_neg hs,if_neg hs]
   by_cases h2:f6 (trQ m)<2
   ·rw[if_pos h2,if_pos h2]
   ·rw[if_neg h2,if_neg h2]
    by_cases hx:l.1=0
    ·exfalso
     have:=g.2
     unfold u7 at this
     rw[if_neg hs,if_neg h2,if_pos (by rw[hx];unfold swQ;intro z;exact h0 ⟨hx,by grind⟩)]at this
     cases this
    ·rw[if_neg hx]
theorem xG{near far:Rat}{bs:List (Str × Rat)}{y u:Rat}{d:D}(h:EvT (tbQ (e6 near bs far)) (g8 near bs far) y u d):wS d = "never" ↔ ∀ l∈t9 near bs far y u,wq (tbQ (e6 near bs far)) l:=by
 rw[Jf (mM near far bs y u)]
 constructor
 ·exact fun w=>BE h w
 ·rintro⟨g1,g2⟩
  rcases BD h with w|w|w
  ·exact absurd w (LY h g1)
  ·obtain⟨_,j,hj⟩:=Fg h w
   exact absurd hj (g2 j)
  ·exact w
section
variable {near far:Rat} {bs cs:List (Str × Rat)} {y u:Rat}
end
abbrev W8(near:Rat)(bs:List (Str × Rat))(far:Rat)(y u:Rat)(N:Nat)(M:Mem)(R:DK)(Y:DXK):Prop:=(C6 near bs far∧CD 1000 y 0 u 0∧N≤100)∧((∀ n k,n<N→y8 (trQ (tbQ (e6 near bs far))) (t9 near bs far y u) k n=false)→R .non M)∧∀ n k:Nat,n<N→y8 (trQ (tbQ (e6 near bs far))) (t9 near bs far y u) k n=true→(∀ n',n'<n→∀ k',y8 (trQ (tbQ (e6 near bs far))) (t9 near bs far y u) k' n'=false)→(∀ k',k'<k→y8 (trQ (tbQ (e6 near bs far))) (t9 near bs far y u) k' n=false)→R (.tup [.int (n:Int),.int (k:Int)]) M
def iY:DSp:=fun ds M R Y=>∃(near:Rat) (bs:List (Str × Rat)) (far:Rat) (y u:Rat) (N:Nat),ds=[.tup [d8 near,.vl (bs.map g6),d8 far],u3 y u,.int (N:Int)]∧W8 near bs far y u N M R Y
theorem gX{near:Rat}{bs:List (Str × Rat)}{far:Rat}{y u:Rat}{N:Nat}{M:Mem}{R:DK}{Y:DXK}:iY [.tup [d8 near,.vl (bs.map g6),d8 far],u3 y u,.int (N:Int)] M R Y=(W8 near bs far y u N M R Y):=propext ⟨fun z=>by obtain⟨_,_,_,_,_,_,_,_⟩:=z;walk_at "inj",fun h=>⟨near,bs,far,y,u,N,rfl,h⟩⟩
abbrev aK(p:Addr)(near:Rat)(bs:List (Str × Rat))(far:Rat)(y u:Rat)(M:Mem)(R:DK)(Y:DXK):Prop:=E3 M p∧(B6 near bs far∧bs.length≤7∧CD 1000 y 0 u 0)∧∀(bs':List (Str × Rat)) M',C6 near bs' far→(∀ x∈bs',sz x.2≤2000)→y7 p M M'→R (.tup [d8 near,.vl (bs'.map g6),d8 far]) M'
def nH:DSp:=fun ds M R Y=>∃(p:Addr) (near:Rat) (bs:List (Str × Rat)) (far:Rat) (y u:Rat),ds=[.ref p,.tup [d8 near,.vl (bs.map g6),d8 far],u3 y u]∧aK p near bs far y u M R Y
theorem lr{p:Addr}{near:Rat}{bs:List (Str × Rat)}{far:Rat}{y u:Rat}{M:Mem}{R:DK}{Y:DXK}:nH [.ref p,.tup [d8 near,.vl (bs.map g6),d8 far],u3 y u] M R Y=(aK p near bs far y u M R Y):=propext ⟨fun z=>by obtain⟨_,_,_,_,_,_,_,_⟩:=z;walk_at "inj",fun h=>⟨p,near,bs,far,y,u,rfl,h⟩⟩
end GM
namespace DL
open PySem PySem.Spec L2
open PyProof.Rows hiding St
section
variable {X:Cx} {o e:Expr} {es:List Expr} {to:DTE} {t:DTA} {name:Str} {apos cpos:Pos} {id:String}
def Mj(g:DRM)(to:DTE)(t:DTA):DTE:=fun e M R=>to e M fun x M1=>(∃ ds,x = .vl ds)∧t e M1 fun xs M2=>g x xs M2 R
theorem IZ{g:DRM}(slot:Slot "list" name id)(hty:typeOf (.builtin id)=pure (.type "method_descriptor"))(hm:DMt X id g)(ho:JE X o to)(ha:JA X (e :: es) t)
  (hbase:attributeBase o name X.env (eval o X.env)=eval o X.env:=by rfl)
  (hfew:((backTo cpos (starEach (e :: es) X.env)).all (fun x=>!x.1) && (backToKw cpos (keywordEach [] X.env)).all (fun x=>x.1.isSome)
   && decide ((e :: es).length+([]:List Keyword).length+(if ([]:List Keyword).isEmpty then 0 else 1)<30))=true:=by rfl)
  (hline:(apos.endLine == cpos.line)=true:=by rfl) (hs:starEach (e :: es) X.env=(false,eval e X.env) :: starEach es X.env:=by rfl) (hplain:(backTo cpos (starEach es X.env)).any (·.1)=false:=by rfl) :
  JE X (.Call (.Attribute o name apos) (e :: es) [] cpos) (Mj g to t) :=
 ⟨(GA PySem.F.plainAttrs_list slot hty hm ho.out ha.out hbase hfew hline hs hplain).imp fun σ H Q ⟨e,M,R,ok,am,t,f⟩=>⟨e,M,_,ok,am,t,fun x M1 ⟨⟨ds,z⟩,h1⟩ v H1 k1 a1 r1=>by
  subst z
  obtain⟨a,xs,rfl,q1,m1⟩:=A0 (j9.mpr rfl) a1 r1
  exact⟨.inl ⟨rfl,xs,q1⟩,e,M1,_,ok.mono k1,a1,h1,fun zs M2 h2 vs H2 k2 a2 r2=>⟨_,zs,M2,R,r1.mono k2,r2,a2,h2,f.mono (k1.trans k2)⟩⟩⟩⟩
theorem vN{pins:List (Addr × Obj)}{s:Shared}{σ:St}{H:Hp}{M:Mem}{x:D}(I:Inv X pins σ H s)(am:v6 X.K H M)(cx:cl 60 x=true) :
  ∀{ds:List D} {vs:List V} {us:List Value},clL 59 ds=true→HasL X.K H vs ds→p0 vs us→∀(i:Nat) d w,ds[i]? = some d→us[i]? = some w→(K0 s.heap (pyD x) w=true↔d=x)
 | [],_,_,_,_,_=>fun i d w h=>by simp at h
 | d0 :: ds,_,_,c,h,r=>by
  cases h with
  | cons h hl =>
   cases r with
   | cons r rl =>
    have c':cl 59 d0=true∧clL 59 ds=true:=by simpa[clL]using c
    intro i d w hd hw
    cases i with
    | succ i=>exact vN I am cx c'.2 hl rl i d w hd hw
    | zero =>
     obtain rfl:=Option.some.inj hd
     obtain rfl:=Option.some.inj hw
     obtain⟨p1,p2,p3⟩:=fH (M:=M) c'.1
     obtain⟨as,rd⟩:=J4 I am p1 h r
     rw[mw (p:=pyD x) p2 rd]
     exact pe c'.1 cx
def Jk:DRM:=fun x xs M R=>∃(ds:List D) (v:D) (j:Nat),x = .vl ds∧xs=[v]∧(cl 60 v=true∧clL 59 ds=true∧ds.length≤1000∧ds[j]? = some v∧∀ i,i<j→ds[i]? ≠ some v)∧R (.int (j:Int)) M
theorem BK(hu:X.A.units+64<cLine):DMt X "list.index" Jk:=by
 intro pins s σ H x xs v us Q I rx rv h
 obtain⟨dx,ds0,M,R,hx,hl,am,⟨ds,d,j,rfl,rfl,⟨c1,c2,hn,hj,hno⟩,r⟩,f⟩:=h
 obtain⟨a,ys,rfl,q1,m1⟩:=A0 (j9.mpr rfl) am hx
 cases rx
 obtain⟨v1,rfl,hv⟩:=hl.one
 obtain⟨u,rfl,ru⟩:=Y8 rv
 obtain⟨bs,rd⟩:=J4 I am (fH (M:=M) c1).1 hv ru
 obtain⟨its,rv,pl,hz⟩:=I.list q1
 obtain⟨i1,_⟩:=U6 (B:=X.A.in1) I am (by show X.A.units+1+62<cLine;omega) c1 rd c2 m1 rv
 have ix:=vN I am c1 c2 m1 rv
 have el:its.length=ds.length:=by rw[← rv.length,m1.length]
 have jl:=(Rc.mp hj).1
 obtain⟨⟨cls,dd,data,sl⟩,ho,hc,n,hd⟩:=pl.isList
 simp only at hc hd
 subst hc hd
 refine call_meets PySem.F.slot_list_index ⟨_,ho,rfl⟩ PySem.F.entry_list_index (PySem.F.args_list_index_2 _ _) (SeqAt.list_indexAt a its.toArray n dd sl u (K0 s.heap (pyD d)) j (by show j<its.length;omega) (by omega) ?_ ?_) ⟨ho,fun y hy=>i1 y (by simpa using hy),?_⟩
 ·exact(ix j d _ hj (by rw[Rr (by omega)];rfl)).mpr rfl
 ·intro m hm hlt
  have hm':m<its.length:=hm
  cases e5:K0 s.heap (pyD d) its.toArray[m]with
  | false=>rfl
  | true =>
   have:=(ix m _ _ (Rr (l:=ds) (i:=m) (by omega)) (Rr hm')).mp e5
   exact absurd (by rw[Rr (by omega),this]) (hno m hlt)
 ·exact⟨.int _,H,I.tok _,⟨_,rfl⟩,f _ M r _ H (KT.refl H) am (.int _)⟩
theorem KH{g:DRM}{ta:DTE}{tr:DTA}{e:Ev}{M:Mem}{R:DK}:Mj g ta tr e M R=ta e M fun x M1=>(∃ ds,x = .vl ds)∧tr e M1 fun xs M2=>g x xs M2 R:=rfl
end
end DL
namespace L2
open PySem PySem.Spec PyProof.Rows
theorem xA(r:Addr)(i n:Int)(t t1 t2 t3:Tok) :
  Meets (Builtin.«range.__contains__» ⟨[.ref r,.int i t],[]⟩) (fun _ R s=>s.heap.get? r=some { cls:=.type "range",dict:=none,data:=.fields #[.int 0 t1,.int n t2,.int 1 t3],slots:=#[] }∧R (.ok (.ret (.bool (Builtin.Range.rangePlace? 0 n 1 i).isSome))) s) :=
 .of_wp fun prog w A R s h=>by obtain⟨hp,g,d,tk,os⟩:=s;obtain⟨hl,h⟩:=h;wp_walk;exact⟨_,rfl,h⟩
theorem Az(i n:Int):(Builtin.Range.rangePlace? 0 n 1 i).isSome=decide (0≤i∧i<n):=by
 unfold Builtin.Range.rangePlace?
 have e:((i - 0) % 1 == 0)=true:=by rw[Int.emod_one];rfl
 simp only[e]
 by_cases h:0≤i∧i<n
 ·simp[h]
 ·rw[decide_eq_false h]
  by_cases h1:0≤i
  ·have h2:¬ i<n:=fun z=>h ⟨h1,z⟩
   simp[h2]
  ·simp[h1]
section
variable {X:Cx} {a b:Expr} {ta:TE} {tb:TA} {p2 pos pos2:Pos}
def tNR(ta:TE)(tb:TA):TE:=fun σ H Q=>ta σ H fun x H1=>∃ i,x = .int i∧tb σ H1 fun vs H2=>∃ n:Int,vs=[.int n]∧Q (.bl (!decide (0≤i∧i<n))) H2
theorem qZ(g2:Gl X "range")(n2:X.mg "range" = none)(ha:PE X a ta)(hb:PA X [b] tb)(hs:starEach [b] X.env=[(false,eval b X.env)]:=by rfl):PC X .NotIn a (.Call (.Name "range" p2) [b] [] pos2) (tNR ta tb):=by
 intro pins s σ H Q I h
 refine thn (ha pins s σ H _ I h) fun v s1 ⟨x,H1,I1,r1,i,hx,h1⟩=>?_
 subst hx
 obtain⟨t,rfl⟩:=r1
 refine wpAny_Call_Name_kw (K4 I1 g2 n2 boot_range (PyProof.Rows.callWith_type1 (thn (hb pos2 pins s1 σ H1 _ I1 h1) fun us s2 ⟨vs,H2,I2,r2,n,hv,q⟩=>?_) (by rw[hs];rfl) (by rfl)) (by decide) (by decide))
 subst hv
 obtain⟨u,rfl,ru⟩:=Y8 r2
 obtain⟨t2,rfl⟩:=ru
 refine call_range_1 ?_
 have hp:=Rp s2.heap (o:={ cls:=.type "range",data:=.fields #[.int 0 s2.toks,.int n t2,.int 1 (s2.toks+1)] }) rfl
 refine SeqRoads2.notIn_meets ⟨_,hp,rfl⟩ PySem.F.slot_range_contains PySem.F.entry_range_contains (PySem.F.args_range_contains_2 _ _) (xA _ i n t _ _ _) ⟨hp,_,rfl,?_⟩
 rw[Az]
 exact⟨.bl _,H2,I2.kept (h':=_) fun b u hb=>Rf _ hb,rfl,q⟩
end
end L2
namespace DL
open PySem PySem.Spec L2
open PyProof.Rows hiding St
section
variable {X:Cx} {x:Expr} {t:DTE}
def KZ(t:TE):TE:=fun σ H Q=>t σ H fun v H1=>(∃ p xs,H1 p=some (.lst xs)∧∀ o,Q v (upd H1 p (.frz o (.lst xs))))∨Q v H1
theorem Er{t:TE}(h:PE X x t):PE X x (KZ t):=fun pins s σ H Q I q =>
 wpAny_mono (h pins s σ H _ I q) (fun u s1 ⟨v,H1,I1,r,z⟩=>by
  rcases z with⟨p,xs,hp,q1⟩|q1
  ·obtain⟨o,I2⟩:=I1.freeze hp
   exact⟨v,_,I2,r,q1 o⟩
  ·exact⟨v,H1,I1,r,q1⟩) fun _ _ z=>z
def Cw(x:D)(M1:Mem)(R:DK):Prop:=(∃ a p ds,x = .tup [a,.ref p]∧M1 p=some (.lst ds)∧R (.tup [a,.vl ds]) (bG M1 p))∨R x M1
def GW(t:DTE):DTE:=fun e M R=>t e M fun x M1=>Cw x M1 R
theorem EO(h:JE X x t):JE X x (GW t):=⟨(Er h.out).imp fun σ H Q ⟨e,M,R,ok,am,t,f⟩=>⟨e,M,_,ok,am,t,fun d M1 z v H1 k1 a1 r1=>by
 rcases z with⟨a,p,ds,z,hm,r⟩|r
 ·subst z
  obtain⟨xs,hx,lx⟩:=a1.lst hm
  have kt:∀ o,KT H1 (upd H1 p (.frz o (.lst xs))):=fun o=>KT.any hx
  cases r1 with
  | tup s l =>
   cases l with
   | cons la lb =>
    cases lb with
    | cons lc ld =>
     cases ld
     cases lc
     exact .inl ⟨p,xs,hx,fun o=>f _ _ r _ _ (k1.trans (kt o)) (a1.del.at (kt o).toKT0 mN) (.tup ((kt o).sq s) (.cons (la.mono (kt o)) (.cons (.vl (.inl ⟨o,j7⟩) (lx.mono (kt o))) .nil)))⟩
 ·exact .inr (f _ _ r _ _ k1 a1 r1)⟩⟩
theorem sJ{t:DTE}{e:Ev}{M:Mem}{R:DK}:GW t e M R=t e M fun x M1=>Cw x M1 R:=rfl
theorem Fx{a:D}{p:Addr}{ds:List D}{M:Mem}{R:DK}(h:M p=none)(r:R (.tup [a,.vl ds]) M):Cw (.tup [a,.ref p]) (B2 M p (.lst ds)) R:=.inl ⟨a,p,ds,rfl,g9,by rw[L5 h];exact r⟩
end
section
variable {X:Cx} {a b:Expr} {ta:DTE} {tb:DTA} {p2 pos pos2:Pos}
def dNR(ta:DTE)(tb:DTA):DTE:=fun e M R=>ta e M fun x M1=>∃ i,x = .int i∧tb e M1 fun ds M2=>∃ n:Int,ds=[.int n]∧R (.bl (!decide (0≤i∧i<n))) M2
theorem IY(g2:Gl X "range")(n2:X.mg "range" = none)(ha:JE X a ta)(hb:JA X [b] tb)(hs:starEach [b] X.env=[(false,eval b X.env)]:=by rfl)(hm:behindInMarks .NotIn (.Call (.Name "range" p2) [b] [] pos2)=false:=by rfl):JT X (.Compare a [.NotIn] [.Call (.Name "range" p2) [b] [] pos2] pos) (rW (dNR ta tb)) :=
 ⟨(Ie (qZ g2 n2 ha.out hb.out hs) hm).imp fun σ H Q ⟨e,M,R,ok,am,t,f⟩=>⟨e,M,_,ok,am,t,fun x M1 ⟨i,z,h1⟩ v H1 k1 a1 r1=>by
  subst z
  cases r1
  refine⟨i,rfl,e,M1,_,ok.mono k1,a1,h1,fun ds M2 ⟨n,z,k,e5,r⟩ vs H2 k2 a2 r2=>?_⟩
  subst z
  obtain⟨v,rfl,hv⟩:=r2.one
  cases hv
  exact⟨n,rfl,k,congrArg V.bl (by injection e5),f k M2 r H2 (k1.trans k2) a2⟩⟩⟩
theorem MD{ta:DTE}{tb:DTA}{e:Ev}{M:Mem}{R:DK}:dNR ta tb e M R=ta e M fun x M1=>∃ i,x = .int i∧tb e M1 fun ds M2=>∃ n:Int,ds=[.int n]∧R (.bl (!decide (0≤i∧i<n))) M2:=rfl
end
end DL
namespace DL
open PySem PySem.Spec L2
section
variable {X:Cx} {st:Stmt} {E8:List Stmt} {t u:DTS} {F:bR} {e:Ev} {M:Mem}
def Mc(t u:DTS):DTS:=Jt t u
theorem i3(h:∀ P:Ev→Mem→Prop,(∀ e' M',u F e' M'→P e' M')→t { F with nx:=P } e M):Mc t u F e M:=h _ fun _ _ z=>z
end
theorem Mv{g:DTG}{d:D}{e:Ev}{M:Mem}{Q:Ev→Mem→Prop}(h:∀ P:Ev→Mem→Prop,(∀ e' M',Q e' M'→P e' M')→g d e M P):g d e M Q:=h Q fun _ _ z=>z
theorem Kb:(Str.ofString "round" = Str.ofString "nought")=False:=eq_false (by decide +kernel)
theorem Ka:(Str.ofString "reach" = Str.ofString "nought")=False:=eq_false (by decide +kernel)
theorem JZ:(Str.ofString "kept" = Str.ofString "nought")=False:=eq_false (by decide +kernel)
theorem JY:(Str.ofString "reach" = Str.ofString "round")=False:=eq_false (by decide +kernel)
theorem JX:(Str.ofString "kept" = Str.ofString "round")=False:=eq_false (by decide +kernel)
theorem JV:(Str.ofString "kept" = Str.ofString "reach")=False:=eq_false (by decide +kernel)
theorem JU:(Str.ofString "late" = Str.ofString "stopped")=False:=eq_false (by decide +kernel)
theorem JR:(Str.ofString "never" = Str.ofString "stopped")=False:=eq_false (by decide +kernel)
theorem JQ:(Str.ofString "late" = Str.ofString "never")=False:=eq_false (by decide +kernel)
theorem JP:(Str.ofString "stopped" = Str.ofString "never")=False:=eq_false (by decide +kernel)
end DL
namespace GM
open PySem PySem.Spec L2 DL
open RM (sz)
theorem rQ(a:Int){q r:Rat}{k l:Nat}(hq:q.den<2 ^ k)(hr:r.den<2 ^ l)(h:k+l≤9000):RW a.natAbs ((q.den:Int)*(r.den:Int)).natAbs<2 ^ 9000:=by
 rw[← Sj,Rb]
 exact Rv (TU _ (Tz q.den_pos r.den_pos)) (Rk (o6 hq hr) (RE (by decide) h))
theorem Cn{n:Nat}{x g:Rat}{R:DK}{M:Mem}(hn:n<2 ^ 9000)(zx:sz x≤1231)(zg:sz g≤1500)(k:sz (x+((n:Int):Rat)*(g - x))≤20000→R (d8 (x+((n:Int):Rat)*(g - x))) M) :
  (sz ((n:Int):Rat)+sz (g - x)≤40000∧RW (((n:Int):Rat).num*(g - x).num).natAbs (((((n:Int):Rat)).den:Int)*((g - x).den:Int)).natAbs<2 ^ 9000) ∧
  (sz x+sz (((n:Int):Rat)*(g - x))≤40000∧RW (x.num*((((n:Int):Rat)*(g - x)).den:Int)+(((n:Int):Rat)*(g - x)).num*(x.den:Int)).natAbs ((x.den:Int)*((((n:Int):Rat)*(g - x)).den:Int)).natAbs<2 ^ 9000)∧R (d8 (x+((n:Int):Rat)*(g - x))) M:=by
 have s1:sz ((n:Int):Rat)≤9000:=HF (by decide) (by rw[Rb];exact hn)
 have s2:=RM.G7 g x
 have s3:=RM.u5 ((n:Int):Rat) (g - x)
 have s4:=RM.U4 x (((n:Int):Rat)*(g - x))
 have d0:((n:Int):Rat).den=1:=rfl
 have d1:((n:Int):Rat).den<2 ^ 1:=by rw[d0];decide
 have d2:=o9 (g - x) (k:=2732) (by omega)
 have d3:(((n:Int):Rat)*(g - x)).den<2 ^ 2732:=by
  rw[Rat.den_mul,d0,VY]
  exact Rv (TC _ _) d2
 exact⟨⟨by omega,rQ _ d1 d2 (by decide)⟩,⟨by omega,rQ _ (o9 x zx) d3 (by decide)⟩,k (by omega)⟩
theorem jv{k:Nat}{q:Rat}(h:(k:Rat)≤q):k≤q.num.natAbs:=by
 have h1:(k:Rat)*(q.den:Rat)≤(q.num:Rat):=by
  have e:q*(q.den:Rat)=(q.num:Rat):=v8 q
  have d0:(0:Rat)≤(q.den:Rat):=by exact_mod_cast Sb _
  have:=RU (a:=q - k) (b:=(q.den:Rat)) (by grind) d0
  grind
 have h2:(k:Int)*(q.den:Int)≤q.num:=by exact_mod_cast h1
 have h3:k*1≤k*q.den:=Tx _ q.den_pos
 have h4:((k*q.den:Nat):Int)≤q.num:=by push_cast;exact h2
 omega
theorem LX{t x f r:Rat}{n:Nat}(ht:f6 t=2)(n1:1≤n)(h0:¬ C5 t (x,f,r) (n - 1))(h1:C5 t (x,f,r) n)(zx:sz x≤1231)(zf:sz f≤1462)(zr:sz r≤3000):n<2 ^ 9000:=by
 obtain⟨k,rfl⟩:∃ k,n=k+1:=⟨n - 1,by omega⟩
 rw[show k+1 - 1=k by omega]at h0
 have h0:¬ r<f6 (stQ t (x,f) k).1:=h0
 have h1:r<f6 (stQ t (x,f) (k+1)).1:=h1
 rw[N9 ht]at h0 h1
 have zg:sz (if 0<t then f else -f)≤1462:=by
  split
  ·exact zf
  ·rw[RM.O6];exact zf
 generalize (if 0<t then f else -f)=g at *
 have s1:=RM.G7 g x
 generalize hd:g - x=d at *
 have dn:d≠0:=fun z=>by
  rw[z]at h0 h1
  have e:∀ c:Rat,x+c*0=x:=fun c=>by grind
  rw[e]at h0 h1;exact h0 h1
 have ad:0<f6 d:=eY dn
 have k0:(0:Rat)≤(k:Rat):=by exact_mod_cast Sb k
 have key:(k:Rat)*f6 d≤r+f6 x:=by
  have e:f6 ((k:Rat)*d)=(k:Rat)*f6 d:=by rw[aF,show f6 (k:Rat)=(k:Rat)by unfold f6;rw[if_pos k0]]
  rw[← e]
  unfold f6 at h0 ⊢
  split at h0<;>split<;>split<;>grind
 have q:(k:Rat)≤(r+f6 x) / f6 d:=by
  have ne:f6 d≠0:=fun z=>by rw[z]at ad;exact absurd ad (by decide)
  have e:(r+f6 x) / f6 d*f6 d=r+f6 x:=Vr ne
  generalize (r+f6 x) / f6 d=w at *
  apply RA
  intro nz
  have:=Sm (a:=(k:Rat) - w) (b:=f6 d) (by grind) ad
  grind
 have s2:=RM.U4 r (f6 x)
 have s3:=RM.G8 (r+f6 x) (f6 d) (fun z=>by rw[z]at ad;exact absurd ad (by decide))
 rw[eu]at s2 s3
 have:=jv q
 have b:=u0 ((r+f6 x) / f6 d) (k:=8999) (by omega)
 have e:2 ^ 9000=2 ^ 8999*2:=rfl
 generalize 2 ^ 8999=B at *
 omega
theorem mJ{near far:Rat}{bs:List (Str × Rat)}{j:Nat}{z:T3}(h:(g8 near bs far)[j]? = some z)(hs:z.2.2.1 = "stop"):∃ b:Nat,(z.1 = .str "forth" ∧ z.2.1 = .int (b:Int)∧j=b)∨(z.1 = .str "back" ∧ z.2.1 = .int (b:Int)∧j+b=2*bs.length):=by
 have gl:∀(i:Nat) (q:Rat),([(.non,.non,(Str.ofString "glass",q))]:List T3)[i]? = some z→False:=fun i q e=>by
  have hm:=Rg e
  rw[Ry.mp hm]at hs
  exact absurd (show Str.ofString "glass" = Str.ofString "stop" from hs) (by decide +kernel)
 unfold g8 at h
 rw[SH]at h
 split at h
 ·rw[SH]at h
  split at h
  ·rw[SH]at h
   split at h
   ·rw[Rj]at h
    obtain⟨x,hx,rfl⟩:=Ru.mp h
    rw[SW]at hx
    obtain⟨a,_,rfl⟩:=Ru.mp hx
    exact⟨0+j,.inl ⟨rfl,rfl,by omega⟩⟩
   ·exact(gl _ _ h).elim
  ·rename_i h1 h2
   rw[Rj]at h
   obtain⟨x,hx,rfl⟩:=Ru.mp h
   simp only[RD,Rh,RO,RV,SQ]at hx h1 h2
   have hi:=(Rc.mp hx).1
   rw[RQ,RO]at hi
   rw[UQ (by rw[RO];exact hi),SW]at hx
   obtain⟨a,_,rfl⟩:=Ru.mp hx
   refine⟨_,.inr ⟨rfl,rfl,?_⟩⟩
   rw[RO]
   omega
 ·exact(gl _ _ h).elim
theorem zW{near far:Rat}{bs:List (Str × Rat)}{i j:Nat}{w:D × D}(hi:(A8 (g8 near bs far) (g8 near bs far).length)[i]? = some w)(hj:(A8 (g8 near bs far) (g8 near bs far).length)[j]? = some w):i=j:=by
 rw[cZ _ _ (Rx _),Rj]at hi hj
 obtain⟨a,ha,ea⟩:=Ru.mp hi
 obtain⟨b,hb,eb⟩:=Ru.mp hj
 have ka:=K9.mp (Rg ha)
 have kb:=K9.mp (Rg hb)
 obtain⟨x,hx⟩:=mJ ka.1 ka.2
 obtain⟨y,hy⟩:=mJ kb.1 kb.2
 have e1:a.1.1=b.1.1:=by rw[← ea]at eb;exact(congrArg Prod.fst eb).symm
 have e2:a.1.2.1=b.1.2.1:=by rw[← ea]at eb;exact(congrArg Prod.snd eb).symm
 have fb:Str.ofString "forth" ≠ Str.ofString "back" := by decide +kernel
 have e3:a.2=b.2:=by
  rcases hx with⟨x1,x2,x3⟩|⟨x1,x2,x3⟩<;>rcases hy with⟨y1,y2,y3⟩|⟨y1,y2,y3⟩
  ·rw[x2,y2]at e2
   have e5:(x:Int)=y:=by injection e2
   omega
  ·rw[x1,y1]at e1
   exact absurd (by injection e1) fb
  ·rw[x1,y1]at e1
   exact absurd (show Str.ofString "forth" = Str.ofString "back" by injection e1.symm) fb
  ·rw[x2,y2]at e2
   have e5:(x:Int)=y:=by injection e2
   omega
 have n1:=oj ha hb
 have n2:=oj hb ha
 rcases SN i j with z|z|z
 ·have:=n1.mpr z;omega
 ·exact z
 ·have:=n2.mpr z;omega
theorem zZ{t x f r:Rat}(ht:f6 t=2)(hw:swQ t x f≠0):∃ n,C5 t (x,f,r) n:=by
 have dn:=iK ht hw
 have sa:=N9 (x:=x) (f:=f) ht
 generalize (if 0<t then f else -f) - x=d at *
 have ad:0<f6 d:=eY dn
 have ne:f6 d≠0:=fun z=>by rw[z]at ad;exact absurd ad (by decide)
 have e:(f6 r+f6 x) / f6 d*f6 d=f6 r+f6 x:=Vr ne
 generalize (f6 r+f6 x) / f6 d=w at *
 refine⟨w.num.natAbs+1,?_⟩
 show r<f6 (stQ t (x,f) (w.num.natAbs+1)).1
 rw[sa]
 have k0:w<((w.num.natAbs+1:Nat):Rat):=by
  apply RA
  intro nz
  have:=jv (k:=w.num.natAbs+1) (q:=w) (by grind)
  omega
 have kn:(0:Rat)≤((w.num.natAbs+1:Nat):Rat):=by exact_mod_cast Sb _
 generalize ((w.num.natAbs+1:Nat):Rat)=K at *
 have p:=Sm (a:=K - w) (b:=f6 d) (by grind) ad
 have e2:f6 (K*d)=K*f6 d:=by rw[aF,show f6 K=K by unfold f6;rw[if_pos kn]]
 have h1:f6 r+f6 x<f6 (K*d):=by rw[e2];grind
 generalize K*d=g at *
 unfold f6 at h1 ⊢
 split at h1<;>split at h1<;>split at h1<;>split<;>grind
theorem xt{m:Q4}(hd:X3 m=1)(hs:p8 m){ls:List (Rat × Rat × Rat)}(hf:∀ l∈ls,mT m l){n k:Nat}(h:FS m ls (some (n,k))):n<60:=by
 have rt6:rtN m≤6:=by
  unfold rtN;repeat' split
  all_goals decide
 have hp:=tO.mp hs
 rcases Sk n 60 with z|z
 ·exact z
 ·obtain⟨h1,h2,_⟩:=h
  obtain⟨l,hl,hb⟩:=E9.mp h1
  have h2:∀ n',n'<n→∀ k',y8 (trQ m) ls k' n'=false:=h2
  have:=F0.mp (h2 (n - rtN m) (by omega) k) l hl
  have hb:C5 (trQ m) l n:=hb
  unfold C5 at this hb
  rw[show n=(n - rtN m)+rtN m by omega,vJ hd hs (hf l (Rg hl))]at hb
  exact absurd hb this
noncomputable def qp(w:D × D):D:=.tup [w.1,w.2]
theorem ym(near far:Rat)(bs:List (Str × Rat)):(((A8 (g8 near bs far) (g8 near bs far).length).zip (B3 (e6 near bs far) (g8 near bs far).length)).map fun z=>qp z.1)=(A8 (g8 near bs far) (g8 near bs far).length).map qp:=by
 have h:=K7 (g8 near bs far) (g8 near bs far).length
 rw[G3]at h
 rw[show(fun z:(D × D) × (Rat × Rat × Rat)=>qp z.1)=qp ∘ Prod.fst from rfl,← Sg,List.map_fst_zip (UN h)]
theorem pB.uniq{m:Q4}{ls:List (Rat × Rat × Rat)}{a b:EvR}(ha:pB m ls a)(hb:pB m ls b):a=b:=by
 cases a with
 | stopped n k =>
  cases b with
  | stopped n' k' =>
   have e:=Option.some.inj (FS.uniq (show FS m ls (some (n,k))from ha) (show FS m ls (some (n',k'))from hb))
   rw[show n=n' from congrArg Prod.fst e,show k=k' from congrArg Prod.snd e]
  | late k'=>exact absurd (FS.uniq (show FS m ls (some (n,k))from ha) hb.1) (by intro z;cases z)
  | never=>exact absurd (FS.uniq (show FS m ls (some (n,k))from ha) hb.1) (by intro z;cases z)
 | late k =>
  cases b with
  | stopped n' k'=>exact absurd (FS.uniq (show FS m ls (some (n',k'))from hb) ha.1) (by intro z;cases z)
  | late k' =>
   have:=ha.2.symm.trans hb.2
   rw[Option.some.inj this]
  | never =>
   have:=ha.2
   rw[hb.2]at this;cases this
 | never =>
  cases b with
  | stopped n' k'=>exact absurd (FS.uniq (show FS m ls (some (n',k'))from hb) ha.1) (by intro z;cases z)
  | late k' =>
   have:=hb.2
   rw[ha.2]at this;cases this
  | never=>rfl
noncomputable def EvK(ws:List (D × D))(m:Q4)(ls:List (Rat × Rat × Rat))(M:Mem)(R:DK):EvR→Prop
 | .never=>∀ p,M p=none→R (.tup [.str "never",.ref p]) (B2 M p (.lst ((ls.map (F3 m)).map enD)))
 | r=>R (evD ws m ls r) M
abbrev av(near:Rat)(bs:List (Str × Rat))(far:Rat)(y u:Rat)(M:Mem)(R:DK)(Y:DXK):Prop:=(C6 near bs far∧∃ S,CD S y 0 u 0∧S≤1700)∧∀ r,pB (tbQ (e6 near bs far)) (t9 near bs far y u) r→EvK (A8 (g8 near bs far) (g8 near bs far).length) (tbQ (e6 near bs far)) (t9 near bs far y u) M R r
def oa:DSp:=fun ds M R Y=>∃(x0:D) (near:Rat) (bs:List (Str × Rat)) (far:Rat) (y u:Rat),ds=[.tup [d8 near,x0,d8 far],u3 y u]∧(x0 = .vl (bs.map g6)∨x0 = .tup (bs.map g6))∧av near bs far y u M R Y
theorem pW{near:Rat}{bs:List (Str × Rat)}{far:Rat}{y u:Rat}{M:Mem}{R:DK}{Y:DXK}:oa [.tup [d8 near,.vl (bs.map g6),d8 far],u3 y u] M R Y=(av near bs far y u M R Y):=propext ⟨fun z=>by obtain⟨_,_,_,_,_,_,_,_,_⟩:=z;walk_at "injs",fun h=>⟨_,near,bs,far,y,u,rfl,.inl rfl,h⟩⟩
theorem hV{near:Rat}{bs:List (Str × Rat)}{far:Rat}{y u:Rat}{M:Mem}{R:DK}{Y:DXK}:oa [.tup [d8 near,.tup (bs.map g6),d8 far],u3 y u] M R Y=(av near bs far y u M R Y):=propext ⟨fun z=>by obtain⟨_,_,_,_,_,_,_,_,_⟩:=z;walk_at "injs",fun h=>⟨_,near,bs,far,y,u,rfl,.inr rfl,h⟩⟩
abbrev gC(x0:D)(t x f r:Rat)(d:D)(M:Mem)(R:DK)(Y:DXK):Prop:=∃(near:Rat) (bs:List (Str × Rat)) (far:Rat) (e:En),x0 = .tup [d8 near,.vl (bs.map g6),d8 far]∧d=enD e∧(C6 near bs far∧t=trQ (tbQ (e6 near bs far))∧jN (x,f,r)∧(sz x≤1231∧sz f≤1462)∧JN e∧(x=0→f=0→LZ e)∧Cu (tbQ (e6 near bs far)) (x,f,r) e)∧R (.bl true) M
def Al:DSp:=fun ds M R Y=>∃(x0:D) (t x f r:Rat) (d:D),ds=[x0,d8 t,d8 x,d8 f,d8 r,d]∧gC x0 t x f r d M R Y
theorem uQ{x0:D}{t x f r:Rat}{d:D}{M:Mem}{R:DK}{Y:DXK}:Al [x0,d8 t,d8 x,d8 f,d8 r,d] M R Y=(gC x0 t x f r d M R Y):=propext ⟨fun z=>by obtain⟨_,_,_,_,_,_,_,_⟩:=z;walk_at "inj",fun h=>⟨x0,t,x,f,r,d,rfl,h⟩⟩
abbrev aP(x0:D)(y u:Rat)(p:Addr)(M:Mem)(R:DK)(Y:DXK):Prop:=∃(near:Rat) (bs:List (Str × Rat)) (far:Rat) (es:List En),x0 = .tup [d8 near,.vl (bs.map g6),d8 far]∧M p=some (.lst (es.map enD))∧((C6 near bs far∧CD 1000 y 0 u 0)∧es.length=(t9 near bs far y u).length∧(∀ e∈es,JN e)∧∀ z∈(t9 near bs far y u).zip es,(z.1.1=0→z.1.2.1=0→LZ z.2)∧Cu (tbQ (e6 near bs far)) z.1 z.2)∧R (.bl true) M
def nP:DSp:=fun ds M R Y=>∃(x0:D) (y u:Rat) (p:Addr),ds=[x0,u3 y u,.ref p]∧aP x0 y u p M R Y
theorem lF{x0:D}{y u:Rat}{p:Addr}{M:Mem}{R:DK}{Y:DXK}:nP [x0,u3 y u,.ref p] M R Y=(aP x0 y u p M R Y):=propext ⟨fun z=>by obtain⟨_,_,_,_,_,_⟩:=z;walk_at "inj",fun h=>⟨x0,y,u,p,rfl,h⟩⟩
abbrev aU(x r:Rat)(M:Mem)(R:DK)(Y:DXK):Prop:=sz x+sz r≤40000∧R (.bl (decide (r<f6 x))) M
def dB:DSp:=fun ds M R Y=>∃(x r:Rat),ds=[d8 x,d8 r]∧aU x r M R Y
theorem lK{x r:Rat}{M:Mem}{R:DK}{Y:DXK}:dB [d8 x,d8 r] M R Y=(aU x r M R Y):=propext ⟨fun z=>by obtain⟨_,_,_,_⟩:=z;walk_at "inj",fun h=>⟨x,r,rfl,h⟩⟩
abbrev gv(t x f:Rat)(n:Nat)(M:Mem)(R:DK)(Y:DXK):Prop:=(f6 t=2∧sz x≤1231∧sz f≤1462∧n<2 ^ 9000)∧∀ v:Rat,f6 v=f6 (stQ t (x,f) n).1→sz v≤20000→R (d8 v) M
def Aj:DSp:=fun ds M R Y=>∃(t x f:Rat) (n:Nat),ds=[d8 t,d8 x,d8 f,.int (n:Int)]∧gv t x f n M R Y
theorem uM{t x f:Rat}{n:Nat}{M:Mem}{R:DK}{Y:DXK}:Aj [d8 t,d8 x,d8 f,.int (n:Int)] M R Y=(gv t x f n M R Y):=propext ⟨fun z=>by obtain⟨_,_,_,_,_,_⟩:=z;walk_at "inj",fun h=>⟨t,x,f,n,rfl,h⟩⟩
abbrev dF(near:Rat)(bs:List (Str × Rat))(far:Rat)(y u:Rat)(n k:Nat)(M:Mem)(R:DK)(Y:DXK):Prop:=(C6 near bs far∧CD 1000 y 0 u 0∧f6 (trQ (tbQ (e6 near bs far)))=2∧60≤n∧FS (tbQ (e6 near bs far)) (t9 near bs far y u) (some (n,k)))∧R (.bl true) M
def tL:DSp:=fun ds M R Y=>∃(near:Rat) (bs:List (Str × Rat)) (far:Rat) (y u:Rat) (n k:Nat),ds=[.tup [d8 near,.vl (bs.map g6),d8 far],u3 y u,.int (n:Int),.int (k:Int)]∧dF near bs far y u n k M R Y
theorem pU{near:Rat}{bs:List (Str × Rat)}{far:Rat}{y u:Rat}{n k:Nat}{M:Mem}{R:DK}{Y:DXK}:tL [.tup [d8 near,.vl (bs.map g6),d8 far],u3 y u,.int (n:Int),.int (k:Int)] M R Y=(dF near bs far y u n k M R Y):=propext ⟨fun z=>by obtain⟨_,_,_,_,_,_,_,_,_⟩:=z;walk_at "inj",fun h=>⟨near,bs,far,y,u,n,k,rfl,h⟩⟩
noncomputable def Nx(ws:List (D × D))(m:Q4)(ls:List (Rat × Rat × Rat))(M:Mem)(d:D):EvR→Prop
 | .never=>∃ p,d = .tup [.str "never",.ref p]∧M p=some (.lst ((ls.map (F3 m)).map enD))
 | r=>d=evD ws m ls r
abbrev dj(x0:D)(y u:Rat)(d:D)(M:Mem)(R:DK)(Y:DXK):Prop:=∃(near:Rat) (bs:List (Str × Rat)) (far:Rat) (r:EvR),x0 = .tup [d8 near,.vl (bs.map g6),d8 far]∧(C6 near bs far∧CD 1000 y 0 u 0∧pB (tbQ (e6 near bs far)) (t9 near bs far y u) r∧Nx (A8 (g8 near bs far) (g8 near bs far).length) (tbQ (e6 near bs far)) (t9 near bs far y u) M d r)∧R (.bl true) M
def tF:DSp:=fun ds M R Y=>∃(x0:D) (y u:Rat) (d:D),ds=[x0,u3 y u,d]∧dj x0 y u d M R Y
theorem pM{x0:D}{y u:Rat}{d:D}{M:Mem}{R:DK}{Y:DXK}:tF [x0,u3 y u,d] M R Y=(dj x0 y u d M R Y):=propext ⟨fun z=>by obtain⟨_,_,_,_,_,_⟩:=z;walk_at "inj",fun h=>⟨x0,y,u,d,rfl,h⟩⟩
end GM
namespace K40
open PySem PySem.Spec L2 DL GM
open RM (sz)
open PyProof.Rows hiding St
local macro_rules|`(tactic| walk_at "sim")=>do
 let f:=fun(b:Bool) (p:String) (s:String)=>((s.splitOn " ").mapM (fun s=>(let i:=Lean.mkIdent (p++s).toName;if b then `(Lean.Parser.Tactic.simpLemma| ↓$i:ident)else `(Lean.Parser.Tactic.simpLemma| $i:ident))):Lean.MacroM _)
 let a := "z_C KG KC Kz KA Ky Kx Kw yQ cX Gw KD Gg zu Gf yX KJ Gm Gh zk FZ Gj zp KN yY Gb zj Gd vt vc yP vd iD qa Gv Ge yW Gx Gi Gk Gp Gn ze zo Ga qk yV vq vw qe ml pZ qf vb yU qb qc sI qh qj vB vp yO uZ Gq Gs vz vA FY vf yS yR qi vy vx ve vm vh vk vj vg yT qg vn Gr Gu zh zi KI fj ig lV ij lU fi ib lT ic lS fo iu me iw ma fm iq lZ ir lY fk ik lX ip lW ft iB mj iC mi fq iy mh iA mf Kl Kk Kj Ki Kh Kg Kf Ke Kd Kc FF FE FD FC FA Kv Ku Kt Ks Kr Kq Kp Ko Kn Km FX FW FV FU FT ia hZ sH yN yM yL yK yJ yI yH yG yF yE yD yC yB FQ FP FO FN FL FK FJ FI FH FG Kb Ka JZ JY JX JV JU JR JQ JP"
 let b := "pY lR uR yA yz yy yx uU uT uS uV uY uX uW pX lQ yw uQ pW hV yv pV pU hJ cV lP lO hE lN uP gZ cU pT pS gY FR lM yu uO pR lL uN uM lK gX lJ gW gT gR lI yt lH pQ lG pP lF lE pO uL pN uK uJ lD fh pM pL gQ uI lC yr lB pK gP lA yq cT lu yp uH lr lq yo pJ gO lp uG fg fe pI uF lh pH uE pG pF pD pC kZ kY bc dH og gC av nZ dG dF X0 N3 aZ aY W9 aX Q0 gy dE aq vP aW gx nW dD aV gw gv aU W8 aT W7 W6 W5 aS nT aR du aQ dq aP aO dm dk gr gq gm T1 mx dj ao di nM aN dh W4 aM nJ dg aL nI gi aK aJ nG ak aI"
 let xs:=((← f true "DL." a)++(← f true "GM." b)++(← f false "GM." b)++(← f false "DL." a)++(← f false "" "DL.Dx DL.Dr DL.Dg DL.CW DL.Dy DL.Ds DL.Dh DL.CY DL.Dz DL.Dt DL.Di DL.CZ DL.DA DL.Du DL.Dj DL.Dc DL.DB DL.Dv DL.Dk DL.Dd DL.DC DL.Dw DL.Dl DL.De DL.CJ DL.CP DL.CK DL.CQ DL.CL DL.CS DL.CM DL.CT DL.CN DL.CU DL.CO DL.CV GM.Dm GM.Dn GM.Dp GM.Dq DL.Hy DL.Hx DL.Hw DL.Hv DL.Hu DL.Ht DL.Hs DL.Hr DL.Hq DL.CI DL.CH DL.CG Nat.reduceAdd Nat.reduceLT Nat.reduceLeDiff VF Int.reduceLT Int.reduceLE Int.reduceEq eq_self decide_true decide_false D.int.injEq D.str.injEq beq_self_eq_true and_self true_and and_true not_true_eq_false not_false_eq_true false_implies true_implies forall_const cP Sh SV List.cons_append List.nil_append SE RV SQ Tf kQ List.getElem?_cons_zero List.getElem?_cons_succ Option.getD_some decide_eq_true_eq decide_eq_false_iff_not Vz Bool.not_eq_false' Bool.and_self Uw Vs Bool.xor_false Bool.false_xor Bool.true_xor Wg Bool.not_false So Bool.true_eq_false reduceIte GM.r0 GM.r1 GM.r2 GM.r4 GM.rm1 GM.rm2 GM.j8 GM.HX GM.Li GM.Lh GM.HW")).toArray
 `(tactic| try simp only[$xs,*])
local macro_rules|`(tactic| walk_at "fn")=>do
 let i:=fun(s:String)=>Lean.mkIdent s.toName
 let x:=(("f cdv A outer s H E ds M R Y hr h".splitOn " ").map i).toArray
 `(tactic| (refine $(i "i8") $(i "d") $(i "sc") (by walk_at "len") (fun $x*=>?_);have $(i "hu"):ident:=$(i "hr.units")))
local macro_rules|`(tactic| walk_at "len")=>`(tactic| (intro ds M R Y h;repeat(first|exact congrArg Vc h.1|(obtain⟨_,h⟩:=h))))
local macro_rules|`(tactic| walk_at "size")=>`(tactic| first|omega|grind only[RM.u5,RM.U4,RM.G7,RM.O6,RM.R9,RM.F9,GM.eu])
local macro_rules|`(tactic| walk_at "sc")=>`(tactic| exact⟨rfl,rfl,rfl,by decide +kernel,rfl,by decide +kernel,by decide +kernel⟩)
noncomputable def top(i:Nat):Stmt:=PySem.Challenge.pw_roundglass_k40_whole_ever_told.main.body.getD i (.Pass ⟨0,0,0,0⟩)
noncomputable abbrev eF:Stmt:=top 7
noncomputable abbrev cA:Stmt:=top 6
noncomputable abbrev gg:Stmt:=top 9
noncomputable abbrev tm:Stmt:=top 15
noncomputable abbrev Z5:Stmt:=top 17
noncomputable abbrev L8:Stmt:=top 16
noncomputable abbrev nv:Stmt:=top 44
noncomputable abbrev cu:Stmt:=top 45
noncomputable abbrev nA:Stmt:=top 12
noncomputable abbrev tf:Stmt:=top 36
noncomputable abbrev cy:Stmt:=top 10
noncomputable abbrev K1:Stmt:=top 37
noncomputable abbrev cp:Stmt:=top 61
noncomputable abbrev nD:Stmt:=top 18
noncomputable abbrev cj:Stmt:=top 11
noncomputable abbrev Z9:Stmt:=top 38
noncomputable abbrev U8:Stmt:=top 56
noncomputable abbrev S5:Stmt:=top 55
noncomputable abbrev S2:Stmt:=top 57
noncomputable abbrev L6:Stmt:=top 58
noncomputable abbrev L7:Stmt:=top 59
noncomputable abbrev V2:Stmt:=top 60
noncomputable abbrev gf:Stmt:=top 14
noncomputable abbrev U7:Stmt:=top 53
noncomputable abbrev U9:Stmt:=top 54
noncomputable abbrev Z8:Stmt:=top 43
noncomputable abbrev Ae:Stmt:=top 25
noncomputable abbrev aa:Stmt:=top 52
noncomputable abbrev nB:Stmt:=top 13
noncomputable abbrev S4:Stmt:=top 28
noncomputable abbrev cz:Stmt:=top 48
noncomputable abbrev O8:Stmt:=top 30
noncomputable abbrev S3:Stmt:=top 34
noncomputable abbrev V0:Stmt:=top 51
noncomputable abbrev V3:Stmt:=top 26
noncomputable abbrev ck:Stmt:=top 29
noncomputable abbrev cq:Stmt:=top 35
noncomputable abbrev tw:Stmt:=top 62
noncomputable abbrev S8:Stmt:=top 82
noncomputable abbrev V9:Stmt:=top 72
noncomputable abbrev ah:Stmt:=top 71
noncomputable abbrev V6:Stmt:=top 73
noncomputable abbrev ae:Stmt:=top 85
noncomputable abbrev O9:Stmt:=top 86
noncomputable abbrev V8:Stmt:=top 87
noncomputable abbrev W2:Stmt:=top 79
noncomputable abbrev P9:Stmt:=top 81
noncomputable abbrev iU:Stmt:=top 80
noncomputable abbrev J1:Stmt:=top 90
noncomputable abbrev cC:Stmt:=top 8
noncomputable abbrev W1:Stmt:=top 83
noncomputable abbrev G5:Stmt:=top 88
noncomputable abbrev G4:Stmt:=top 89
noncomputable abbrev eG:Stmt:=top 91
noncomputable abbrev L9:Stmt:=top 92
noncomputable abbrev J3:Stmt:=top 84
noncomputable abbrev V7:Stmt:=top 93
noncomputable abbrev ai:Stmt:=top 65
noncomputable abbrev I0:Stmt:=top 77
noncomputable abbrev ny:Stmt:=top 46
noncomputable abbrev V1:Stmt:=top 19
noncomputable abbrev tj:Stmt:=top 20
noncomputable abbrev Z6:Stmt:=top 41
noncomputable abbrev Z7:Stmt:=top 40
noncomputable abbrev eE:Stmt:=top 39
noncomputable abbrev tq:Stmt:=top 42
noncomputable abbrev V4:Stmt:=top 78
noncomputable abbrev S6:Stmt:=top 74
noncomputable abbrev W3:Stmt:=top 75
noncomputable abbrev N2:Stmt:=top 66
noncomputable abbrev cD:Stmt:=top 76
noncomputable abbrev V5:Stmt:=top 68
noncomputable abbrev S7:Stmt:=top 67
noncomputable abbrev J2:Stmt:=top 69
noncomputable abbrev aj:Stmt:=top 70
noncomputable abbrev ag:Stmt:=top 64
noncomputable abbrev Af:Stmt:=top 94
theorem sY:f8 ["one","other"] ["one","other"] (e9 eF):=by walk_at "sc"
theorem qM:f8 ["thing"] ["thing"] (e9 cA):=by walk_at "sc"
theorem qJ:f8 ["top","bottom","share"] ["top","bottom"] (e9 gg):=by walk_at "sc"
theorem DP:f8 ["one","other"] ["one","other"] (e9 tm):=by walk_at "sc"
theorem mY:f8 ["ratios","bottom"] ["ratios","bottom"] (e9 Z5):=by walk_at "sc"
theorem eC:f8 ["ratios","bottom","one"] ["ratios"] (e9 L8):=by walk_at "sc"
theorem Ab:f8 ["t","x","later","bottom","one","other"] ["t","x","later"] (e9 nv):=by walk_at "sc"
theorem qI:f8 ["t","x","later","top","bottom"] ["t","x","later"] (e9 cu):=by walk_at "sc"
theorem vL:f8 ["one","other"] ["one","other"] (e9 nA):=by walk_at "sc"
theorem DN:f8 ["table"] ["table"] (e9 tf):=by walk_at "sc"
theorem qK:f8 ["one"] ["one"] (e9 cy):=by walk_at "sc"
theorem df:f8 ["table","t"] ["table"] (e9 K1):=by walk_at "sc"
theorem qG:f8 ["word","table","x","later","top","bottom"] ["word","table","x","later"] (e9 cp):=by walk_at "sc"
theorem vM:f8 ["one","other"] ["one","other"] (e9 nD):=by walk_at "sc"
theorem qD:f8 ["one"] ["one"] (e9 cj):=by walk_at "sc"
theorem ni:f8 ["table","size"] ["table"] (e9 Z9):=by walk_at "sc"
theorem jT:f8 ["t","state","now","then","bound"] ["t","state"] (e9 U8):=by walk_at "sc"
theorem iP:f8 ["t","x","later","r","ratios","now","then","bound"] ["t","x","later","r"] (e9 S5):=by walk_at "sc"
theorem iL:f8 ["t","numbers","watched","rounds","states","passed","k","state"] ["t","numbers","watched","rounds"] (e9 S2):=by walk_at "sc"
theorem eA:f8 ["t","x","later","r","ratios","now","then","bound","step","ahead"] ["t","x","later","r"] (e9 L6):=by walk_at "sc"
theorem eB:f8 ["t","numbers","late","stops","k","x","later","r"] ["t","numbers","late"] (e9 L7):=by walk_at "sc"
theorem jX:f8 ["table","numbers","late","k","x","later","r","t","word"] ["table","numbers","late"] (e9 V2):=by walk_at "sc"
theorem qE:f8 ["one","other"] ["one","other"] (e9 gf):=by walk_at "sc"
theorem jS:f8 ["word","t","x","later","r"] ["word","t","x","later","r"] (e9 U7):=by walk_at "sc"
theorem jU:f8 ["table","numbers","word","t"] ["table","numbers"] (e9 U9):=by walk_at "sc"
theorem nh:f8 ["p","q","ray"] ["p","q","ray"] (e9 Z8):=by walk_at "sc"
theorem HK:f8 ["table","ray","a","b","c","d","y","u"] ["table","ray"] (e9 Ae):=by walk_at "sc"
theorem nj:f8 ["table","ray","lines","later"] ["table","ray","lines"] (e9 aa):=by walk_at "sc"
theorem Ad:f8 ["one","other"] ["one","other"] (e9 nB):=by walk_at "sc"
theorem iN:f8 ["part","ray","word","number","y","u"] ["part","ray"] (e9 S4):=by walk_at "sc"
theorem qL:f8 ["bench","lines","level","axis","part"] ["bench"] (e9 cz):=by walk_at "sc"
theorem fN:f8 ["bench"] ["bench"] (e9 O8):=by walk_at "sc"
theorem iM:f8 ["hall","near","bench","far"] ["hall"] (e9 S3):=by walk_at "sc"
theorem jV:f8 ["hall","forth","back","lines"] ["hall"] (e9 V0):=by walk_at "sc"
theorem jY:f8 ["first","second"] ["first","second"] (e9 V3):=by walk_at "sc"
theorem qF:f8 ["bench","first","second","part"] ["bench"] (e9 ck):=by walk_at "sc"
theorem qH:f8 ["hall"] ["hall"] (e9 cq):=by walk_at "sc"
theorem DR:f8 ["hall","ray","table","met","numbers","late","stop","passed","k","word"] ["hall","ray"] (e9 tw):=by walk_at "sc"
theorem iS:f8 ["x","r"] ["x","r"] (e9 S8):=by walk_at "sc"
theorem kl:f8 ["hall","found"] ["hall"] (e9 V9):=by walk_at "sc"
theorem nr:f8 ["part","ray","word","number"] ["part","ray"] (e9 ah):=by walk_at "sc"
theorem ke:f8 ["hall","ray","word","number","part"] ["hall","ray"] (e9 V6):=by walk_at "sc"
theorem nk:f8 ["hall","rays","here","n"] ["hall"] (e9 ae):=by walk_at "sc"
theorem fO:f8 ["hall","t"] ["hall","t"] (e9 O9):=by walk_at "sc"
theorem ki:f8 ["t","x","further","top"] ["t","x","further"] (e9 V8):=by walk_at "sc"
theorem ko:f8 ["hall","first","second","found","word","number","part"] ["hall"] (e9 W2):=by walk_at "sc"
theorem fP:f8 ["hall","ray","later","found","word","number","p","q","r","x"] ["hall","ray"] (e9 P9):=by walk_at "sc"
theorem xq:f8 ["hall","first","second"] ["hall"] (e9 iU):=by walk_at "sc"
theorem bZ:f8 ["hall","ray","k","t","x","further","r","factor","kept"] ["hall","ray","k"] (e9 J1):=by walk_at "sc"
theorem qN:f8 ["thing","top","bottom"] ["thing"] (e9 cC):=by walk_at "sc"
theorem km:f8 ["t","x","further","r","rounds","bottom","now","then","turn"] ["t","x","further","r","rounds"] (e9 W1):=by walk_at "sc"
theorem bD:f8 ["hall","t","x","further","r","entry","k"] ["hall","t","x","further","r","entry"] (e9 G5):=by walk_at "sc"
theorem bC:f8 ["hall","ray","paper","numbers","t","entry","x","further","r"] ["hall","ray","paper"] (e9 G4):=by walk_at "sc"
theorem sZ:f8 ["t","x","further","n"] ["t","x","further","n"] (e9 eG):=by walk_at "sc"
theorem eD:f8 ["hall","ray","n","k","t","j","x","further","r","beyond"] ["hall","ray","n","k"] (e9 L9):=by walk_at "sc"
theorem cg:f8 ["hall","ray","rounds","t","found","k","x","further","r","turn"] ["hall","ray","rounds"] (e9 J3):=by walk_at "sc"
theorem kf:f8 ["hall","ray","told","found","lines","places"] ["hall","ray","told"] (e9 V7):=by walk_at "sc"
theorem nt:f8 ["pool","base","digit","near","stir"] ["pool","base"] (e9 ai):=by walk_at "sc"
theorem bY:f8 ["number","low","high","mid"] ["number"] (e9 I0):=by walk_at "sc"
theorem Ac:f8 ["hall","ray","p","q","table","top","bottom"] ["hall","ray","p","q"] (e9 ny):=by walk_at "sc"
theorem jW:f8 ["number","guess","step","better"] ["number"] (e9 V1):=by walk_at "sc"
theorem DO:f8 ["one","top","bottom"] ["one"] (e9 tj):=by walk_at "sc"
theorem mZ:f8 ["t","apart"] ["t"] (e9 Z6):=by walk_at "sc"
theorem nc:f8 ["table","a","b","c","d"] ["table"] (e9 Z7):=by walk_at "sc"
theorem sX:f8 ["table","a","b","c","d"] ["table"] (e9 eE):=by walk_at "sc"
theorem DQ:f8 ["hall","table","word"] ["hall"] (e9 tq):=by walk_at "sc"
theorem jZ:f8 ["pool","hall","ray","stops","at","farthest","word","number","p","q","r","scale","low","some"] ["pool","hall","ray"] (e9 V4):=by walk_at "sc"
theorem iQ:f8 ["ray","factor"] ["ray","factor"] (e9 S6):=by walk_at "sc"
theorem kr:f8 ["hall","other","a","b","c","d","told","k","found"] ["hall","other"] (e9 W3):=by walk_at "sc"
theorem bJ:f8 ["pool","tops","bottoms"] ["pool","tops","bottoms"] (e9 N2):=by walk_at "sc"
theorem qO:f8 ["pool","hall","way_drawn","ray","factor","along","little"] ["pool","hall"] (e9 cD):=by walk_at "sc"
theorem kc:f8 ["pool","parts","count","found","k","r"] ["pool","parts","count"] (e9 V5):=by walk_at "sc"
theorem iR:f8 ["pool","gap","count","found","k","piece"] ["pool","gap"] (e9 S7):=by walk_at "sc"
theorem cc:f8 ["pool","pairs","near","far","bottoms","halves","gap","parts","first"] ["pool"] (e9 J2):=by walk_at "sc"
theorem nu:f8 ["pool","way_drawn","power_drawn","parts","k"] ["pool"] (e9 aj):=by walk_at "sc"
theorem nq:f8 ["cell"] ["cell"] (e9 ag):=by walk_at "sc"
theorem HM:f8 ["script","cell","pool","hall","ray","kept","told","paper"] ["script"] (e9 Af):=by walk_at "sc"
structure Txt(K:Ra)(mg:Str→Option Value):Prop where
 b_abs:mg "abs" = none
 b_bool:mg "bool" = none
 b_enumerate:mg "enumerate" = none
 b_int:mg "int" = none
 b_isinstance:mg "isinstance" = none
 b_len:mg "len" = none
 b_list:mg "list" = none
 b_max:mg "max" = none
 b_min:mg "min" = none
 b_range:mg "range" = none
 b_reversed:mg "reversed" = none
 b_tuple:mg "tuple" = none
 b_zip:mg "zip" = none
 sub:Cr K
 c_AXIS_RAY:GlD K mg "AXIS_RAY" (.tup [(.tup [(.int 0),(.int 1)]),(.tup [(.int 1),(.int 1)])])
 c_FIRST_ROUNDS:GlD K mg "FIRST_ROUNDS" (.int 60)
 c_FOUR:GlD K mg "FOUR" (.tup [(.int 4),(.int 1)])
 c_LEVEL_RAY:GlD K mg "LEVEL_RAY" (.tup [(.tup [(.int 1),(.int 1)]),(.tup [(.int 0),(.int 1)])])
 c_NOUGHT:GlD K mg "NOUGHT" (.tup [(.int 0),(.int 1)])
 c_ONE:GlD K mg "ONE" (.tup [(.int 1),(.int 1)])
 c_SELF:GlD K mg "SELF" (.tup [(.tup [(.int 1),(.int 1)]),(.tup [(.int 0),(.int 1)]),(.tup [(.int 0),(.int 1)]),(.tup [(.int 1),(.int 1)])])
 c_TWO:GlD K mg "TWO" (.tup [(.int 2),(.int 1)])
section
variable {P:Program} {w:World} {K:Ra} {mg:Str→Option Value} {base:Heap}
theorem tZ(T:Txt K mg)(d:Df K mg "divisor" eF ["one","other"]):Fn P w K mg base "divisor" 1 ["one","other"] N8:=by
 have sc:=sY
 refine i8 d sc (fun ds M R Y h=>?_) (fun f cdv A outer s H E ds M R Y hr h=>?_)
 ·obtain⟨a,b,rfl,_⟩:=h;rfl
 ·obtain⟨a,b,rfl,k⟩:=h
  refine⟨_,(d5 (eV PassesOwn.never (jtm bM (a8 1) d4) (d6 (oR (i:=0) (j:=1) rfl sc.nd rfl rfl (by decide) rfl rfl (a7 (a8 1) (a7 (f9 ju (a8 0) (a8 1)) a9))))) (d6 (d9 (a8 0)))),?_⟩
  refine⟨fun m e M'=>M'=M∧∃ u:Nat,e=[some (.int (u:Int)),some (.int (m:Int))]∧RW u m=RW a b,⟨b,rfl,a,rfl,rfl⟩,?_⟩
  rintro v e M' ⟨rfl,u,rfl,hg⟩
  refine⟨_,rfl,_,rfl,_,rfl,?_⟩
  refine Bs (fun h0=>?_) (fun h0=>?_)
  ·have hv:0<v:=by omega
   refine⟨_,rfl,_,rfl,_,rfl,_,_,rfl,rfl,by omega,_,_,rfl,?_⟩
   exact⟨u % v,Nat.mod_lt _ hv,rfl,v,rfl,by rw[← RM.Bx u v (by omega)];exact hg⟩
  ·have hv:v=0:=by omega
   subst hv
   rw[Nat.gcd_zero_right]at hg
   subst hg
   exact⟨_,rfl,k⟩
theorem rC(T:Txt K mg)(d:Df K mg "is_whole" cA ["thing"]):Fn P w K mg base "is_whole" 1 ["thing"] de:=by
 have sc:=qM
 refine i8 d sc (fun ds M R Y h=>?_) (fun f cdv A outer s H E ds M R Y hr h=>?_)
 ·obtain⟨n,rfl,_⟩:=h;rfl
 ·obtain⟨n,rfl,k⟩:=h
  refine⟨_,(d6 (d9 (G2 (p7 (fJ T.sub) rfl T.b_isinstance A6 (a7 (a8 0) (a7 (fE rfl T.b_int Jv) a9))) (J6 (gK (p7 (fJ T.sub) rfl T.b_isinstance A6 (a7 (a8 0) (a7 (fE rfl T.b_bool pj) a9)))))))),?_⟩
  refine⟨_,rfl,_,_,_,_,rfl,rfl,rfl,_,rfl,?_⟩
  refine Nj ?_
  exact⟨_,rfl,_,_,_,_,rfl,rfl,rfl,_,rfl,k⟩
theorem AS(T:Txt K mg)(d:Df K mg "ratio" gg ["top","bottom"])(NM:Fn P w K mg base "is_whole" 1 ["thing"] de)(NT:Fn P w K mg base "divisor" 1 ["one","other"] N8):Fn P w K mg base "ratio" 2 ["top","bottom"] X9:=by
 have sc:=qJ
 refine i8 d sc (fun ds M R Y h=>?_) (fun f cdv A outer s H E ds M R Y hr h=>?_)
 ·obtain⟨p,b,rfl,_⟩:=h;rfl
 ·obtain⟨a,b,rfl,hb,hl,k⟩:=h
  refine⟨_,(d5 (g7 (F2 (C2 (F6 (p9 (jc NM hr (a7 (a8 0) a9)))) (C2 (F6 (p9 (jc NM hr (a7 (a8 1) a9)))) (D8 (jtm Y1 (a8 1) d4))))) (d6 mH) f7) (d5 (jst 2 sc.nd (jc NT hr (a7 (p7 aC rfl T.b_abs R1 (a7 (a8 0) a9)) (a7 (p7 aC rfl T.b_abs R1 (a7 (a8 1) a9)) a9)))) (d5 (g7 (jtm cM (a8 1) d4) (d6 (jst 2 sc.nd (A1 (a8 2)))) f7) (d6 (d9 (e7 (a7 (f9 F4 (a8 0) (a8 2)) (a7 (f9 F4 (a8 1) (a8 2)) a9)))))))),?_⟩
  refine⟨_,rfl,_,rfl,true,rfl,?_⟩
  refine LH ?_
  refine⟨_,rfl,_,rfl,true,rfl,?_⟩
  refine LH ?_
  refine⟨_,rfl,_,rfl,_,rfl,?_⟩
  refine xT (fun h=>absurd h hb) (fun _=>?_)
  refine⟨_,rfl,_,rfl,_,rfl,_,rfl,a.natAbs,b.natAbs,rfl,?_⟩
  have hn:=By (a:=a) hb
  have hlg:=EZ (a:=a) hb hl
  refine⟨_,rfl,_,rfl,_,rfl,?_⟩
  refine xT (fun h1=>?_) (fun h1=>?_)
  ·have c1:∀ i:Int,CFd i (-((RW a.natAbs b.natAbs:Nat):Int)):=fun i=>⟨by omega,by rw[SM];exact hlg⟩
   refine⟨_,rfl,_,rfl,_,rfl,_,rfl,_,_,rfl,rfl,c1 _,_,rfl,_,rfl,_,_,rfl,rfl,c1 _,sl 2,?_⟩
   exact gJ hb (by rw[if_pos h1]) k
  ·have c1:∀ i:Int,CFd i ((RW a.natAbs b.natAbs:Nat):Int):=fun i=>⟨hn,hlg⟩
   refine⟨_,rfl,_,rfl,_,_,rfl,rfl,c1 _,_,rfl,_,rfl,_,_,rfl,rfl,c1 _,sl 2,?_⟩
   exact gJ hb (by rw[if_neg h1]) k
theorem EE(T:Txt K mg)(d:Df K mg "over" tm ["one","other"])(NH:Fn P w K mg base "ratio" 2 ["top","bottom"] X9):Fn P w K mg base "over" 3 ["one","other"] U5:=by
 have sc:=DP
 refine i8 d sc (fun ds M R Y h=>?_) (fun f cdv A outer s H E ds M R Y hr h=>?_)
 ·obtain⟨q,r,rfl,_⟩:=h;rfl
 ·obtain⟨q,r,rfl,h0,hz,k⟩:=h
  refine⟨_,(d6 (d9 (jc NH hr (a7 (f9 o8 (jx (a8 0) d4) (jx (a8 1) d4)) (a7 (f9 o8 (jx (a8 0) d4) (jx (a8 1) d4)) a9))))),?_⟩
  refine⟨_,rfl,_,rfl,_,rfl,_,rfl,_,_,rfl,rfl,mND hz,_,rfl,_,rfl,_,rfl,_,rfl,_,_,rfl,rfl,mDN hz,_,_,rfl,Sw (RM.E1 q) (IL h0),lDN hz,?_⟩
  rw[RM.BL]at k
  exact k
theorem ox(T:Txt K mg)(d:Df K mg "tops_over" Z5 ["ratios","bottom"]):Fn P w K mg base "tops_over" 1 ["ratios","bottom"] Ah:=by
 have sc:=mY
 walk_at "fn"
 obtain⟨x,b,rfl,qs,hx,⟨hl,hb,b0,hq⟩,k⟩:=h
 have hb':b<2 ^ 8501:=Rv hb (Tr (by decide) (by decide))
 have key:∀ s∈qs,IntMulOk s.num ((b:Int).fdiv (s.den:Int))∧CFd (b:Int) (s.den:Int):=fun s hs=>by
  obtain⟨_,hs⟩:=hq s hs
  have e1:((b:Int).fdiv (s.den:Int))=((b / s.den:Nat):Int):=by
   rw[L0 (by omega) (by omega)];norm_cast
  refine⟨?_,?_⟩
  ·rw[e1]
   exact u4 8900 8501 (u0 s hs) (by rw[Rb];exact Rv (TC _ _) hb') (by decide)
  ·exact⟨by have:=s.den_pos;omega,by rw[Rb];exact Rk (F5 (o9 s hs) (by decide)) (by decide)⟩
 rcases hx with rfl|rfl
 all_goals
  refine⟨_,(d6 (d9 (T8 [1] ["one"] ["bottom"] rfl (by decide +kernel) rfl (by decide +kernel) (by decide +kernel) rfl (fW ⟨rfl,rfl⟩) (fW (Or.inl rfl)) (A5 (a8 0)) (fun _ _ _ _ _ _=>(jn 0 (show(["one","bottom"]:List Str).Nodup by decide +kernel))) (fun _ _ _ _ _ _=>A3) (fun _ _ _ _ _ _=>(f9 o8 (jx (a8 0) d4) (f9 F4 (a8 1) (jx (a8 0) d4))))))),?_⟩
  walk_at "sim"
  refine A7 (xs:=qs) (enc:=d8) (fun s=>D.int (s.num*(b:Int).fdiv (s.den:Int))) hl (by simp only[C9,j9]) (fun s hs Q hQ=>?_) k
  obtain⟨k1,k2⟩:=key s hs
  walk_at "sim"
  exact⟨k2,k1,hQ⟩
theorem eR(T:Txt K mg)(d:Df K mg "common_bottom" L8 ["ratios"])(NT:Fn P w K mg base "divisor" 1 ["one","other"] N8):Fn P w K mg base "common_bottom" 2 ["ratios"] Am:=by
 have sc:=eC
 walk_at "fn"
 obtain⟨x,rfl,qs,hx,hz,k⟩:=h
 have key:∀(i:Nat) (b:Nat) (q:Rat),qs[i]? = some q→0<b→b≤2 ^ (szs (qs.take i))→(∀ r∈qs.take i,r.den ∣ b)→CFd (b:Int) ((RW b q.den:Nat):Int)∧IntMulOk ((b:Int).fdiv ((RW b q.den:Nat):Int)) (q.den:Int)∧((b:Int).fdiv ((RW b q.den:Nat):Int))*(q.den:Int)=((b / RW b q.den*q.den:Nat):Int)∧0<b / RW b q.den*q.den∧b / RW b q.den*q.den≤2 ^ (szs (qs.take (i+1)))∧(∀ r∈qs.take (i+1),r.den ∣ b / RW b q.den*q.den)∧(b ∣ ((qs.take i).map fun q:Rat=>q.den).prod→b / RW b q.den*q.den ∣ ((qs.take (i+1)).map fun q:Rat=>q.den).prod):=fun i b q hq b0 bl hd=>by
  have q0:=q.den_pos
  have ql:=o9 q (Rx _)
  have zt:=zS hq
  have zl:=HD qs i
  have zm:=fY (Rg hq)
  have g0:=SY b q0
  have gl:RW b q.den<2 ^ sz q:=Rv (TU b q0) ql
  obtain⟨c,hc⟩:=Nat.gcd_dvd_left b q.den
  have ec:b / RW b q.den=c:=by
   conv=>lhs;lhs;rw[hc]
   exact Nat.mul_div_cancel_left c g0
  have e1:((b:Int).fdiv ((RW b q.den:Nat):Int))=(c:Int):=by
   rw[L0 (by omega) (by omega),← ec];norm_cast
  have cb:c≤b:=by rw[← ec];exact TC _ _
  have c0:0<c:=Nat.pos_of_ne_zero fun z=>by rw[z,Nat.mul_zero]at hc;omega
  rw[e1,ec]
  have bl3:b<2 ^ (szs (qs.take i)+1):=by rw[Uk];have:=Sx (szs (qs.take i));omega
  refine⟨⟨by omega,by rw[Rb];exact Rk (F5 (q9 gl (show sz q≤8500 by omega)) (by decide)) (by decide)⟩,u4 8501 8500 (by rw[Rb];exact q9 (Rv cb bl3) (by omega)) (by rw[Rb];exact q9 ql (by omega)) (by decide),by rw[Sj],Tz c0 q0,?_,fun r hr=>?_,fun hp=>?_⟩
  ·rw[zt,Uv]
   exact Tg (Ro cb bl) (TK ql)
  ·rw[SO,hq]at hr
   rcases RI.mp hr with hr|hr
   ·obtain⟨e,he⟩:=hd r hr
    obtain⟨f',hf⟩:=Nat.gcd_dvd_right b q.den
    refine Nat.dvd_trans (hd r hr) ?_
    rw[hf]
    refine⟨f',?_⟩
    conv=>rhs;lhs;rw[hc]
    rw[VG _ c,Vq]
   ·rw[Ry.mp hr];exact Nat.dvd_mul_left _ _
  ·rw[SO,hq,RB,List.prod_append]
   show c*q.den ∣ _*(q.den*1)
   rw[Nat.mul_one]
   exact Nat.mul_dvd_mul (Nat.dvd_trans ⟨RW b q.den,by rw[VG];exact hc⟩ hp) (Nat.dvd_refl _)
 rcases hx with rfl|rfl
 all_goals
  refine⟨_,(d5 (jst 1 sc.nd d4) (d5 (u8 PassesOwn.never rfl (A5 (a8 0)) (jn 2 sc.nd) (d6 (jst 1 sc.nd (f9 o8 (f9 F4 (a8 1) (jc NT hr (a7 (a8 1) (a7 (jx (a8 2) d4) a9)))) (jx (a8 2) d4))))) (d6 (d9 (a8 1))))),?_⟩
  walk_at "sim"
  refine R4.by (fun i e M'=>M'=M∧∃(b:Nat) (z:Option D),e=[some _,some (.int (b:Int)),z]∧0<b∧b≤2 ^ (szs (qs.take i))∧(∀ r∈qs.take i,r.den ∣ b)∧b ∣ ((qs.take i).map fun q:Rat=>q.den).prod) ⟨rfl,1,_,rfl,by decide,by show 1≤2 ^ 0;decide,fun r hr=>(by cases hr),Nat.dvd_refl _⟩ (fun _ _ _ _ _=>by simp only[C9,j9]) ?_ ?_
  ·rintro i dd e M' hd ⟨rfl,b,z,rfl,b0,bl,hdv,hdp⟩
   rw[Rj]at hd
   obtain⟨q,hq,rfl⟩:=Ru.mp hd
   obtain⟨k1,k2,k3,k4,k5,k6,k7⟩:=key i b q hq b0 bl hdv
   walk_at "sim"
   exact⟨k1,k2,_,some (d8 q),by rw[k3],k4,k5,k6,k7 hdp⟩
  ·rintro e M' ⟨rfl,b,z,rfl,b0,bl,hdv,hdp⟩
   rw[Rh,RG]at *
   walk_at "sim"
   exact k b b0 bl hdv hdp
theorem AQ(T:Txt K mg)(d:Df K mg "swing" nv ["t","x","later"])(NY:Fn P w K mg base "tops_over" 1 ["ratios","bottom"] Ah)(NL:Fn P w K mg base "common_bottom" 2 ["ratios"] Am):Fn P w K mg base "swing" 3 ["t","x","later"] gj:=by
 have sc:=Ab
 walk_at "fn"
 obtain⟨t,x,f',rfl,⟨ht,hz⟩,k⟩:=h
 have es:szs [x,f']=sz x+sz f':=by unfold szs;simp only[Sh,SV,Vt,VH];omega
 have xn:=J5 x
 have xd:=G6 x
 have fn:=J5 f'
 have fd:=G6 f'
 rw[Rb]at xd fd
 refine⟨_,(d5 (jst 3 sc.nd (jc NL hr (a7 (e7 (a7 (a8 1) (a7 (a8 2) a9))) a9))) (d5 (u9 (jc NY hr (a7 (e7 (a7 (a8 1) (a7 (a8 2) a9))) (a7 (a8 3) a9))) (jE (n:=2) rfl (d7 (jn 4 sc.nd) (d7 (jn 5 sc.nd) i0)))) (d6 (d9 (e7 (a7 (f9 bK (f9 o8 (jx (a8 0) d4) (f9 F7 (f9 o8 (a8 4) (a8 4)) (f9 o8 (a8 5) (a8 5)))) (f9 o8 (f9 o8 (jx (a8 0) d4) (a8 4)) (a8 5))) (a7 (f9 o8 (a8 3) (a8 3)) a9))))))),?_⟩
 walk_at "sim"
 refine⟨[x,f'],.inl rfl,by omega,fun B B0 Bl hB _=>⟨[x,f'],.inl rfl,⟨by show 2≤1000;decide,Ro Bl (RE (by decide) (by omega)),B0,fun q hq=>⟨hB q hq,?_⟩⟩,?_⟩⟩
 ·have:=fY hq;omega
 have cl1:B<2 ^ 4201:=Rv Bl (Tr (by decide) (by omega))
 obtain⟨o1,o2⟩:=L1 (hB x (by simp))
 obtain⟨p1,p2⟩:=L1 (hB f' (by simp))
 have o3:(x.num*(B:Int).fdiv (x.den:Int)).natAbs<2 ^ 8401:=by
  refine Rv o2 (Rk (o6 xn cl1) (RE (by decide) (by omega)))
 have p3:(f'.num*(B:Int).fdiv (f'.den:Int)).natAbs<2 ^ 8401:=by
  refine Rv p2 (Rk (o6 fn cl1) (RE (by decide) (by omega)))
 walk_at "sim"
 generalize x.num*(B:Int).fdiv (x.den:Int)=O at *
 generalize f'.num*(B:Int).fdiv (f'.den:Int)=P at *
 have td:=o9 t ht
 have tn:=u0 t ht
 have td':(t.den:Int).natAbs<2 ^ 231:=by rw[Rb];exact td
 have B':(B:Int).natAbs<2 ^ 4201:=by rw[Rb];exact cl1
 have oo:=e8 o3 o3
 have pp:=e8 p3 p3
 have op:=Co oo pp
 have tdo:=e8 td' op
 have tno:=e8 tn o3
 have tnop:=e8 tno p3
 refine⟨u4 _ _ o3 o3 (by decide),u4 _ _ p3 p3 (by decide),u4 _ _ td' op (by decide),u4 _ _ tn o3 (by decide),u4 _ _ tno p3 (by decide),u4 _ _ B' B' (by decide),?_⟩
 refine k _ _ ?_ ?_ ?_ ?_
 ·have:(0:Int)<(B:Int):=by omega
  exact Int.mul_pos this this
 ·exact q9 (e8 B' B') (by decide)
 ·exact q9 (Z0 (q9 tdo (show _≤17034 by decide)) (q9 tnop (by decide))) (by decide)
 ·have e:=v8 t
  rw[Ta,Rm,SF,Rm,Rm,Rm,Rm,Rm,Rq,Rq,o1,p1,← e]
  grind
theorem rm(T:Txt K mg)(d:Df K mg "reach_by" cu ["t","x","later"])(OW:Fn P w K mg base "swing" 3 ["t","x","later"] gj):Fn P w K mg base "reach_by" 4 ["t","x","later"] qP:=by
 have sc:=qI
 walk_at "fn"
 obtain⟨t,x,f',rfl,⟨ht,t1,t2,hz⟩,k⟩:=h
 have td:=o9 t ht
 have tn:=u0 t ht
 have td':(t.den:Int).natAbs<2 ^ 231:=by rw[Rb];exact td
 have e:=v8 t
 have d0:(0:Rat)<(t.den:Rat):=by
  have:=t.den_pos
  exact_mod_cast this
 have h4:=qw t1 t2
 refine⟨_,(d5 (u9 (jc OW hr (a7 (a8 0) (a7 (a8 1) (a7 (a8 2) a9)))) (i9 (n:=2) rfl (d7 (jn 3 sc.nd) (d7 (jn 4 sc.nd) i0)))) (d6 (d9 (e7 (a7 (f9 o8 (f9 o8 d4 (a8 3)) (jx (a8 0) d4)) (a7 (f9 o8 (a8 4) (f9 bK (f9 o8 (f9 o8 d4 (jx (a8 0) d4)) (jx (a8 0) d4)) (f9 o8 (jx (a8 0) d4) (jx (a8 0) d4)))) a9)))))),?_⟩
 walk_at "sim"
 refine⟨⟨ht,hz⟩,fun T B b0 bB bT eT=>?_⟩
 have t4d:(4*(t.den:Int)).natAbs<2 ^ (3+231):=e8 (show(4:Int).natAbs<2 ^ 3 by decide) td'
 have tdd:=e8 t4d td'
 have tnn:=e8 tn tn
 have bd:=Z0 tdd (q9 tnn (by decide))
 have rat:(((4*(t.den:Int)*(t.den:Int) - t.num*t.num:Int)):Rat)=(4 - t*t)*((t.den:Rat)*(t.den:Rat)):=by
  rw[Ta,Rm,Rm,Rm,Rq,← e]
  rw[show(((4:Int)):Rat)=4 from rfl]
  grind
 have pos:0<4*(t.den:Int)*(t.den:Int) - t.num*t.num:=by
  have:(0:Rat)<((4*(t.den:Int)*(t.den:Int) - t.num*t.num:Int):Rat):=by
   rw[rat];exact Sm h4 (Sm d0 d0)
  exact_mod_cast this
 have t4:=e8 (show(4:Int).natAbs<2 ^ 3 by decide) bT
 have t4t:=e8 t4 td'
 refine⟨rG (by decide) (by decide),u4 _ _ t4 td' (by decide),rG (by decide) (by decide),u4 _ _ t4d td' (by decide),u4 _ _ tn tn (by decide),u4 _ _ bB bd (by decide),?_⟩
 refine k _ _ (Int.mul_pos b0 pos) (q9 (e8 bB bd) (by decide)) (q9 t4t (by decide)) ?_
 have b0':(0:Rat)<(B:Rat):=by exact_mod_cast b0
 rw[Sv,Rm,Rm,Rm,rat,eT,Rq]
 unfold M0
 rw[show(((4:Int)):Rat)=4 from rfl]
 exact DZ (fun z=>by rw[z]at d0;exact absurd d0 (by decide)) (fun z=>by rw[z]at b0';exact absurd b0' (by decide)) (fun z=>by rw[z]at h4;exact absurd h4 (by decide))
theorem ED(T:Txt K mg)(d:Df K mg "plus" nA ["one","other"])(NH:Fn P w K mg base "ratio" 2 ["top","bottom"] X9):Fn P w K mg base "plus" 3 ["one","other"] G9:=by
 have sc:=vL
 refine i8 d sc (fun ds M R Y h=>?_) (fun f cdv A outer s H E ds M R Y hr h=>?_)
 ·obtain⟨q,r,rfl,_⟩:=h;rfl
 ·obtain⟨q,r,rfl,hz,k⟩:=h
  refine⟨_,(d6 (d9 (jc NH hr (a7 (f9 F7 (f9 o8 (jx (a8 0) d4) (jx (a8 1) d4)) (f9 o8 (jx (a8 1) d4) (jx (a8 0) d4))) (a7 (f9 o8 (jx (a8 0) d4) (jx (a8 1) d4)) a9))))),?_⟩
  refine⟨_,rfl,_,rfl,_,rfl,_,rfl,_,_,rfl,rfl,mND hz,_,rfl,_,rfl,_,rfl,_,rfl,_,_,rfl,rfl,mND (by omega),_,rfl,_,rfl,_,rfl,_,rfl,_,rfl,_,_,rfl,rfl,mDD hz,_,_,rfl,Sw (RM.E1 q) (RM.E1 r),lDD hz,?_⟩
  rw[RM.uC]at k
  exact k
theorem EB(T:Txt K mg)(d:Df K mg "t_of" tf ["table"])(NI:Fn P w K mg base "plus" 3 ["one","other"] G9):Fn P w K mg base "t_of" 4 ["table"] ku:=by
 have sc:=DN
 walk_at "fn"
 obtain⟨x,rfl,⟨a,b,c,d⟩,hx,cd,k⟩:=h
 have hx':x=et a b c d:=hx
 subst hx'
 have t4:=CD.t4 cd
 have h1:sz a≤230:=t4.a
 have h4:sz d≤230:=t4.d
 refine⟨_,(d6 (d9 (jc NI hr (a7 (jx (a8 0) d4) (a7 (jx (a8 0) d4) a9))))),?_⟩
 walk_at "sim"
 exact⟨by omega,k⟩
theorem rA(T:Txt K mg)(d:Df K mg "opposite" cy ["one"]):Fn P w K mg base "opposite" 1 ["one"] mr:=by
 have sc:=qK
 refine i8 d sc (fun ds M R Y h=>?_) (fun f cdv A outer s H E ds M R Y hr h=>?_)
 ·obtain⟨q,rfl,_⟩:=h;rfl
 ·obtain⟨q,rfl,k⟩:=h
  refine⟨_,(d6 (d9 (e7 (a7 (A1 (jx (a8 0) d4)) (a7 (jx (a8 0) d4) a9))))),?_⟩
  refine⟨_,rfl,_,rfl,_,rfl,_,rfl,_,rfl,sl 2,?_⟩
  have e:d8 (-q) = .tup [.int (-q.num),.int (q.den:Int)]:=by unfold d8;rw[Ve,Vf]
  rw[e]at k
  exact k
theorem dI(T:Txt K mg)(d:Df K mg "rounds_to_self" K1 ["table"])(NO:Fn P w K mg base "opposite" 1 ["one"] mr)(NR:Fn P w K mg base "t_of" 4 ["table"] ku):Fn P w K mg base "rounds_to_self" 5 ["table"] xu:=by
 have sc:=df
 walk_at "fn"
 obtain⟨x,rfl,⟨a,b,c,d⟩,hx,cd,k⟩:=h
 have hx':x=et a b c d:=hx
 subst hx'
 refine⟨_,(d5 (g7 (jtm (C0 hu) (a8 0) (v7 rfl T.c_SELF)) (d6 (d9 d4)) f7) (d5 (g7 (jtm (C0 hu) (a8 0) (oU Cf rfl T.b_tuple aD (a7 (T8 [] ["entry"] [] rfl (by decide +kernel) rfl (by decide +kernel) (by decide +kernel) rfl bI bI (A5 (v7 rfl T.c_SELF)) (fun _ _ _ _ _ _=>(jn 0 (show(["entry"]:List Str).Nodup by decide +kernel))) (fun _ _ _ _ _ _=>A3) (fun _ _ _ _ _ _=>(jc NO hr (a7 (a8 0) a9)))) a9))) (d6 (d9 d4)) f7) (d5 (jst 1 sc.nd (jc NR hr (a7 (a8 0) a9))) (d5 (g7 (jtm (C0 hu) (a8 1) (jc NO hr (a7 (v7 rfl T.c_ONE) a9))) (d6 (d9 d4)) f7) (d5 (g7 (jtm (C0 hu) (a8 1) (v7 rfl T.c_NOUGHT)) (d6 (d9 d4)) f7) (d6 (d9 (dO (jtm (C0 hu) (a8 1) (v7 rfl T.c_ONE)) d4 D9)))))))),?_⟩
 walk_at "sim"
 refine⟨fun e=>?_,fun e=>?_⟩
 ·have e:=qv (m:=(a,b,c,d)) (k:=(1,0,0,1)) (@of_decide_eq_true _ (RJ _) e)
  unfold eK at k
  rw[if_pos e]at k
  exact k
 ·have e1:¬ (a,b,c,d)=((1,0,0,1):Q4):=fun z=>@of_decide_eq_false _ (RJ _) e (congrArg J9 z)
  refine A7 (xs:=[1,0,0,1]) (enc:=d8) (fun q=>d8 (-q)) (by show 4≤1000;decide) (by simp only[C9]) (fun q hq Q hQ=>?_) ?_
  ·walk_at "sim"
   exact hQ
  ·walk_at "sim"
   unfold eK at k
   rw[if_neg e1]at k
   refine⟨fun e=>?_,fun e=>⟨(a,b,c,d),rfl,cd,fun e3=>?_,fun e3=>⟨fun e4=>?_,fun e4=>⟨fun e5=>?_,fun e5=>?_⟩⟩⟩⟩
   ·have e:=qv (m:=(a,b,c,d)) (k:=(-1,0,0,-1)) e
    rw[if_pos e]at k
    exact k
   ·have e2:¬ (a,b,c,d)=((-1,0,0,-1):Q4):=fun z=>e (congrArg J9 z)
    rw[if_neg e2,if_pos e3]at k
    exact k
   ·have e2:¬ (a,b,c,d)=((-1,0,0,-1):Q4):=fun z=>e (congrArg J9 z)
    rw[if_neg e2,if_neg e3,if_pos e4]at k
    exact k
   ·have e2:¬ (a,b,c,d)=((-1,0,0,-1):Q4):=fun z=>e (congrArg J9 z)
    rw[if_neg e2,if_neg e3,if_neg e4,if_pos e5]at k
    exact k
   ·have e2:¬ (a,b,c,d)=((-1,0,0,-1):Q4):=fun z=>e (congrArg J9 z)
    rw[if_neg e2,if_neg e3,if_neg e4,if_neg e5]at k
    exact k
theorem rj(T:Txt K mg)(d:Df K mg "shown_by" cp ["word","table","x","later"])(NW:Fn P w K mg base "over" 3 ["one","other"] U5)(NH:Fn P w K mg base "ratio" 2 ["top","bottom"] X9)(Oc:Fn P w K mg base "reach_by" 4 ["t","x","later"] qP)(NR:Fn P w K mg base "t_of" 4 ["table"] ku)(NF:Fn P w K mg base "rounds_to_self" 5 ["table"] xu):Fn P w K mg base "shown_by" 6 ["word","table","x","later"] iV:=by
 have sc:=qG
 walk_at "fn"
 obtain⟨w',x,a,f',rfl,m,r,rfl,rfl,⟨cd,hd,hl,hx⟩,k⟩:=h
 have zt:sz (trQ m)≤231:=CD.tr cd
 have xf:sz a+sz f'≤4200:=hl.xf
 have body:¬ (a=0∧f'=0)→(kwS m=Str.ofString "same" → ∃ m_1,J9 m=J9 m_1∧CDQ 230 m_1∧R (D.tup [D.str (Str.ofString "round"),eK m_1]) M)∧(¬ kwS m=Str.ofString "same" → (kwS m=Str.ofString "turns" → ∃ m_1,J9 m=J9 m_1∧CDQ 230 m_1∧(sz (trQ m_1)≤231∧-2<trQ m_1∧trQ m_1<2∧sz a+sz f'≤4200)∧∀(T B:Int),0<B→B.natAbs<2 ^ 8870→T.natAbs<2 ^ 17400→RZ T B=M0 (trQ m_1) a f'→B≠0∧B.natAbs.log2<9000∧R (D.tup [D.str (Str.ofString "reach"),d8 (RZ T B)]) M)∧(¬ kwS m=Str.ofString "turns" → a≠0∧sz f'+sz a≤8900∧R (D.tup [D.str (Str.ofString "kept"),d8 (f' / a)]) M)):=fun h0=>by
  unfold F3 at k
  rw[if_neg (show ¬ ((a,f',r).1=0∧(a,f',r).2.1=0)from h0)]at k
  rcases Q7 m with⟨c1,e⟩|⟨c1,c2,e⟩|⟨c1,c2,c3,e⟩|⟨c1,c2,c3,e⟩
  ·rw[if_pos c1]at k
   refine⟨fun _=>⟨m,rfl,cd,?_⟩,fun h=>absurd e h⟩
   rw[cF m c1];exact k
  ·have c3:¬ f6 (trQ m)<2:=by rw[c2];decide
   rw[if_neg c1,if_neg c3]at k
   rw[e]
   refine⟨fun h=>absurd h (by decide),fun _=>⟨fun h=>absurd h (by decide),fun _=>⟨fun z=>h0 ⟨z,hx c1 c3 z⟩,by omega,k⟩⟩⟩
  ·rw[if_neg c1,if_pos c3]at k
   rw[e]
   obtain⟨t1,t2⟩:=J7.mp c3
   refine⟨fun h=>absurd h (by decide),fun _=>⟨fun _=>⟨m,rfl,cd,⟨zt,t1,t2,xf⟩,fun T B b0 bB bT eT=>⟨by omega,Rk (F5 bB (by decide)) (by decide),?_⟩⟩,fun h=>absurd rfl h⟩⟩
   rw[eT];exact k
  ·rw[if_neg c1,if_neg c3]at k
   rw[e]
   refine⟨fun h=>absurd h (by decide),fun _=>⟨fun h=>absurd h (by decide),fun _=>⟨fun z=>h0 ⟨z,hx c1 c3 z⟩,by omega,k⟩⟩⟩
 refine⟨_,(d5 (g7 (F2 (jG (jtm (C0 hu) (a8 2) (v7 rfl T.c_NOUGHT)) (dP (jtm (C0 hu) (a8 3) (v7 rfl T.c_NOUGHT))))) (d6 (d9 (e7 (a7 j5 a9)))) f7) (d5 (g7 (jtm D6 (a8 0) j5) (d6 (d9 (e7 (a7 j5 (a7 (jc NF hr (a7 (a8 1) a9)) a9))))) f7) (d5 (g7 (jtm D6 (a8 0) j5) (d5 (u9 (jc Oc hr (a7 (jc NR hr (a7 (a8 1) a9)) (a7 (a8 2) (a7 (a8 3) a9)))) (i9 (n:=2) rfl (d7 (jn 4 sc.nd) (d7 (jn 5 sc.nd) i0)))) (d6 (d9 (e7 (a7 j5 (a7 (jc NH hr (a7 (a8 4) (a7 (a8 5) a9))) a9)))))) f7) (d6 (d9 (e7 (a7 j5 (a7 (jc NW hr (a7 (a8 3) (a7 (a8 2) a9))) a9)))))))),?_⟩
 walk_at "sim"
 refine⟨fun h1=>⟨fun h2=>?_,fun h2=>body fun z=>h2 z.2⟩,fun h1=>body fun z=>h1 z.1⟩
 unfold F3 at k
 rw[if_pos (show(a,f',r).1=0∧(a,f',r).2.1=0 from⟨h1,h2⟩)]at k
 exact k
theorem EF(T:Txt K mg)(d:Df K mg "less" nD ["one","other"]):Fn P w K mg base "less" 1 ["one","other"] bX:=by
 have sc:=vM
 refine i8 d sc (fun ds M R Y h=>?_) (fun f cdv A outer s H E ds M R Y hr h=>?_)
 ·obtain⟨q,r,rfl,_⟩:=h;rfl
 ·obtain⟨q,r,rfl,hz,k⟩:=h
  refine⟨_,(d6 (d9 (jm cM (f9 o8 (jx (a8 0) d4) (jx (a8 1) d4)) (f9 o8 (jx (a8 1) d4) (jx (a8 0) d4))))),?_⟩
  refine⟨_,rfl,_,rfl,_,rfl,_,rfl,_,_,rfl,rfl,mND hz,_,rfl,_,rfl,_,rfl,_,rfl,_,_,rfl,rfl,mND (by omega),_,rfl,?_⟩
  rw[← RM.LF]at k
  exact k
theorem rb(T:Txt K mg)(d:Df K mg "unsigned" cj ["one"]):Fn P w K mg base "unsigned" 1 ["one"] qA:=by
 have sc:=qD
 walk_at "fn"
 obtain⟨q,rfl,k⟩:=h
 refine⟨_,(d6 (d9 (e7 (a7 (p7 aC rfl T.b_abs R1 (a7 (jx (a8 0) d4) a9)) (a7 (jx (a8 0) d4) a9))))),?_⟩
 walk_at "sim"
 exact k
theorem oF(T:Txt K mg)(d:Df K mg "kind_word" Z9 ["table"])(Of:Fn P w K mg base "less" 1 ["one","other"] bX)(NU:Fn P w K mg base "unsigned" 1 ["one"] qA)(NR:Fn P w K mg base "t_of" 4 ["table"] ku)(NF:Fn P w K mg base "rounds_to_self" 5 ["table"] xu):Fn P w K mg base "kind_word" 6 ["table"] sKw:=by
 have sc:=ni
 walk_at "fn"
 obtain⟨x,rfl,⟨a,b,c,d⟩,hx,cd,k⟩:=h
 have hx':x=et a b c d:=hx
 subst hx'
 have ht:sz (trQ (a,b,c,d))≤231:=CD.tr cd
 have hs:=GM.eu (trQ (a,b,c,d))
 have z2:sz 2≤2:=by decide +kernel
 refine⟨_,(d5 (g7 (jtm dJ (jc NF hr (a7 (a8 0) a9)) D9) (d6 (d9 j5)) f7) (d5 (jst 1 sc.nd (jc NU hr (a7 (jc NR hr (a7 (a8 0) a9)) a9))) (d5 (g7 (jtm (C0 hu) (a8 1) (v7 rfl T.c_TWO)) (d6 (d9 j5)) f7) (d6 (d9 (dO (p9 (jc Of hr (a7 (a8 1) (a7 (v7 rfl T.c_TWO) a9)))) j5 j5)))))),?_⟩
 walk_at "sim"
 refine⟨(a,b,c,d),rfl,cd,?_⟩
 unfold kwS at k
 by_cases h1:p8 (a,b,c,d)
 ·rw[if_pos h1]at k
  obtain⟨n,e⟩:=DV h1
  rw[e,bU rfl]
  walk_at "sim"
  exact k
 ·rw[if_neg h1]at k
  rw[DU h1,bU rfl]
  walk_at "sim"
  refine⟨(a,b,c,d),rfl,cd,fun e=>?_,fun e=>⟨by omega,fun e2=>?_,fun e2=>?_⟩⟩
  ·rw[if_pos e]at k;exact k
  ·rw[if_neg e,if_pos e2]at k;exact k
  ·rw[if_neg e,if_neg e2]at k;exact k
theorem ky(T:Txt K mg)(d:Df K mg "next_state" U8 ["t","state"]):Fn P w K mg base "next_state" 1 ["t","state"] nR:=by
 have sc:=jT
 walk_at "fn"
 obtain⟨t,x,rfl,s,rfl,⟨ht,kk,b1,b2,b3,hk⟩,k⟩:=h
 have td:=o9 t ht
 have tn:=u0 t ht
 have td':(t.den:Int).natAbs<2 ^ 231:=by rw[Rb];exact td
 unfold stD at *
 refine⟨_,(d5 (u9 (a8 1) (i9 (n:=3) rfl (d7 (jn 2 sc.nd) (d7 (jn 3 sc.nd) (d7 (jn 4 sc.nd) i0))))) (d6 (d9 (e7 (a7 (a8 3) (a7 (f9 bK (f9 o8 (jx (a8 0) d4) (a8 3)) (f9 o8 (f9 o8 (jx (a8 0) d4) (jx (a8 0) d4)) (a8 2))) (a7 (f9 o8 (a8 4) (jx (a8 0) d4)) a9))))))),?_⟩
 walk_at "sim"
 exact⟨u4 _ _ tn b2 (by omega),u4 _ _ td' td' (by decide),u4 _ _ (e8 td' td') b1 (by omega),u4 _ _ b3 td' (by omega),k⟩
theorem jk(T:Txt K mg)(d:Df K mg "first_state" S5 ["t","x","later","r"])(NY:Fn P w K mg base "tops_over" 1 ["ratios","bottom"] Ah)(NL:Fn P w K mg base "common_bottom" 2 ["ratios"] Am):Fn P w K mg base "first_state" 3 ["t","x","later","r"] jb:=by
 have sc:=iP
 walk_at "fn"
 obtain⟨t,x,f',r,rfl,⟨ht,hz,zx,zf,zr⟩,k⟩:=h
 have es:szs [x,f',r]=sz x+sz f'+sz r:=by unfold szs;simp only[Sh,SV,Vt,VH];omega
 have td:=o9 t ht
 have td':(t.den:Int).natAbs<2 ^ 231:=by rw[Rb];exact td
 refine⟨_,(d5 (jst 4 sc.nd (e7 (a7 (a8 1) (a7 (a8 2) (a7 (a8 3) a9))))) (d5 (u9 (jc NY hr (a7 (a8 4) (a7 (jc NL hr (a7 (a8 4) a9)) a9))) (jE (n:=3) rfl (d7 (jn 5 sc.nd) (d7 (jn 6 sc.nd) (d7 (jn 7 sc.nd) i0))))) (d6 (d9 (e7 (a7 (a8 5) (a7 (f9 o8 (a8 6) (jx (a8 0) d4)) (a7 (a8 7) a9)))))))),?_⟩
 walk_at "sim"
 refine⟨[x,f',r],.inl rfl,by omega,fun B B0 Bl hB _=>⟨[x,f',r],.inl rfl,⟨by show 3≤1000;decide,Ro Bl (RE (by decide) (by omega)),B0,fun q hq=>⟨hB q hq,?_⟩⟩,?_⟩⟩
 ·have:=fY hq;omega
 have Bb:B<2 ^ 8501:=Rv Bl (Tr (by decide) (by omega))
 obtain⟨o1,o2⟩:=L1 (hB x (by simp))
 obtain⟨p1,p2⟩:=L1 (hB f' (by simp))
 obtain⟨q1,q2⟩:=L1 (hB r (by simp))
 have n1:=Rv o2 (o6 (u0 x zx) Bb)
 have n2:=Rv p2 (o6 (u0 f' zf) Bb)
 have n3:=Rv q2 (o6 (u0 r zr) Bb)
 walk_at "sim"
 generalize x.num*(B:Int).fdiv (x.den:Int)=a at *
 generalize f'.num*(B:Int).fdiv (f'.den:Int)=b at *
 generalize r.num*(B:Int).fdiv (r.den:Int)=c at *
 refine⟨u4 _ _ n2 td' (by decide),?_⟩
 refine k (a,b*(t.den:Int),c) ⟨⟨B,B0,o1,?_,q1⟩,q9 n1 (by decide),q9 (e8 n2 td') (by decide),q9 n3 (by decide)⟩
 show((b*(t.den:Int):Int):Rat)=f'*((B:Rat)*(t.den:Rat))
 rw[Rm,p1,Rq];grind
theorem jh(T:Txt K mg)(d:Df K mg "stop_within" S2 ["t","numbers","watched","rounds"])(OK:Fn P w K mg base "next_state" 1 ["t","state"] nR)(OI:Fn P w K mg base "first_state" 3 ["t","x","later","r"] jb):Fn P w K mg base "stop_within" 4 ["t","numbers","watched","rounds"] tD:=by
 have sc:=iL
 walk_at "fn"
 obtain⟨t,x,y,N,rfl,ls,ws,rfl,rfl,⟨ht,⟨hl,hw⟩,hN,hok,hk⟩,k⟩:=h
 have at':∀ j∈ws,∃ l,ls[j]? = some l∧ls.getD j (0,0,0)=l∧jN l:=fun j hj=>by
  have h1:=Rr (hk j hj)
  exact⟨_,h1,by rw[Sf,h1];rfl,hok _ (Rg h1)⟩
 have bA:∀ j∈ws,∀ n,y8 t ls j n=decide (C5 t (ls.getD j (0,0,0)) n):=fun j hj n=>by
  obtain⟨l,h1,h2,_⟩:=at' j hj
  unfold y8;rw[h1,h2]
 refine⟨_,(d5 (C7 (i:=4) [0] ["x","later","r"] ["t"] sc.nd rfl (Or.inl rfl) rfl (by decide +kernel) rfl (by decide +kernel) (by decide +kernel) rfl (fW ⟨rfl,rfl⟩) (fW (Or.inl rfl)) (A5 (T8 [1] ["k"] ["numbers"] rfl (by decide +kernel) rfl (by decide +kernel) (by decide +kernel) rfl (fW ⟨rfl,rfl⟩) (fW (Or.inl rfl)) (A5 (a8 2)) (fun _ _ _ _ _ _=>(jn 0 (show(["k","numbers"]:List Str).Nodup by decide +kernel))) (fun _ _ _ _ _ _=>A3) (fun _ _ _ _ _ _=>(jx (a8 1) (a8 0))))) (fun _ _ _ _ _ _=>(i9 (n:=3) rfl (d7 (jn 0 (show(["x","later","r","t"]:List Str).Nodup by decide +kernel)) (d7 (jn 1 (show(["x","later","r","t"]:List Str).Nodup by decide +kernel)) (d7 (jn 2 (show(["x","later","r","t"]:List Str).Nodup by decide +kernel)) i0))))) (fun _ _ _ _ _ _=>A3) (fun _ _ _ _ _ _=>(jc OI hr (a7 (a8 3) (a7 (a8 0) (a7 (a8 1) (a7 (a8 2) a9))))))) (d5 (u8 PassesOwn.never rfl (bj rfl T.b_range (a7 (a8 3) a9)) (jn 5 sc.nd) (d5 (u8 PassesOwn.never rfl (oP rfl T.b_zip (a7 (a8 2) (a7 (a8 4) a9))) (i9 (n:=2) rfl (d7 (jn 6 sc.nd) (d7 (jn 7 sc.nd) i0))) (d6 (g7 (jtm kP (p7 aC rfl T.b_abs R1 (a7 (jx (a8 7) d4) a9)) (jx (a8 7) d4)) (d6 (d9 (e7 (a7 (a8 5) (a7 (a8 6) a9))))) f7))) (d6 (C7 (i:=4) [0] ["state"] ["t"] sc.nd rfl (Or.inl rfl) rfl (by decide +kernel) rfl (by decide +kernel) (by decide +kernel) rfl (fW ⟨rfl,rfl⟩) (fW (Or.inl rfl)) (A5 (a8 4)) (fun _ _ _ _ _ _=>(jn 0 (show(["state","t"]:List Str).Nodup by decide +kernel))) (fun _ _ _ _ _ _=>A3) (fun _ _ _ _ _ _=>(jc OK hr (a7 (a8 1) (a7 (a8 0) a9)))))))) (d6 (d9 D9)))),?_⟩
 walk_at "sim"
 refine A7 (xs:=ws) (enc:=fun k:Nat=>D.int (k:Int)) (fun k=>r9 (ls.getD k (0,0,0))) (by omega) (by simp only[j9]) (fun j hj Q hQ=>?_) ?_
 ·obtain⟨l,h1,h2,_⟩:=at' j hj
  walk_at "sim"
  exact⟨_,w6 (n:=j) (by rw[Rj,h1,h2];rfl),hQ⟩
 walk_at "sim"
 refine Ca stD (fun i s=>∃ k,ws[i]? = some k∧kX t (ls.getD k (0,0,0)) 0 s) (by rw[Rh];omega) (by simp only[j9]) (fun i d hd Q hQ=>?_) (fun ss hlen hss=>?_)
 ·rw[Rj]at hd
  obtain⟨j,hj,rfl⟩:=Ru.mp hd
  obtain⟨l,h1,h2,h3⟩:=at' j (Rg hj)
  rw[h2]
  walk_at "sim"
  have:=h3.xf;have:=h3.x;have:=h3.f;have:=h3.r
  exact⟨⟨ht,by omega,by omega,by omega,by omega⟩,fun s hs=>hQ s ⟨j,hj,by rw[h2];exact hs⟩⟩
 rw[Rh]at hlen
 refine⟨⟨by omega,by omega⟩,?_⟩
 rw[SD]
 refine R4.by (fun i e M'=>M'=M∧∃(ss:List (Int × Int × Int)) (z5 z6 z7:Option D),e=[some (d8 t),some (.vl (ls.map r9)),some (.vl (ws.map fun k:Nat=>D.int (k:Int))),some (.int (N:Int)),some (.vl (ss.map stD)),z5,z6,z7]∧ss.length=ws.length∧(∀ j s,ss[j]? = some s→∃ k,ws[j]? = some k∧kX t (ls.getD k (0,0,0)) i s)∧∀ n,n<i→∀ k∈ws,y8 t ls k n=false) ⟨rfl,ss,_,_,_,rfl,hlen,hss,fun n hn=>absurd hn (by omega)⟩ (fun _ _ _ _ _=>trivial) ?_ ?_
 ·rintro i dd e M' hd ⟨rfl,ss,z5,z6,z7,rfl,hlen,hss,hno⟩
  obtain⟨hi,rfl⟩:=eM hd
  rw[show(0:Int)+(i:Int)=(i:Int)by omega]
  walk_at "sim"
  refine R4.by (fun j e M''=>M''=M'∧∃(z6 z7:Option D),e=[some (d8 t),some (.vl (ls.map r9)),some (.vl (ws.map fun k:Nat=>D.int (k:Int))),some (.int (N:Int)),some (.vl (ss.map stD)),some (.int (i:Int)),z6,z7]∧∀ j',j'<j→∀ k',ws[j']? = some k'→y8 t ls k' i=false) ⟨rfl,_,_,rfl,fun j hj=>absurd hj (by omega)⟩ (fun _ _ _ _ _=>by simp only[j9,and_self]) ?_ ?_
  ·rintro j dd e M'' hd2 ⟨rfl,z6,z7,rfl,hn2⟩
   obtain⟨k',s',rfl,hkj,hsj⟩:∃(k':Nat) (s':Int × Int × Int),dd = .tup [.int (k':Int),stD s']∧ws[j]? = some k'∧ss[j]? = some s':=by
    unfold bx at hd2
    rw[Su,Rj,Rj]at hd2
    cases h1:ws[j]? with
    | none=>rw[h1]at hd2;simp at hd2
    | some a =>
     cases h2:ss[j]? with
     | none=>rw[h1,h2]at hd2;simp at hd2
     | some b=>rw[h1,h2]at hd2;exact⟨a,b,(Option.some.inj hd2).symm,rfl,rfl⟩
   obtain⟨k2,hk2,hst⟩:=hss j s' hsj
   obtain rfl:k'=k2:=by rw[hkj]at hk2;exact Option.some.inj hk2
   have hb:=hst.bey
   have hbA:=bA k' (Rg hkj) i
   unfold stD
   walk_at "sim"
   refine⟨fun h1=>?_,fun h1=>⟨_,_,rfl,fun j' hj' k3 hk3=>?_⟩⟩
   ·rw[sR hi hkj (by rw[hbA];exact decide_eq_true (hb.mp h1)) hno hn2]at k
    exact k
   ·rcases Sk j' j with z|z
    ·exact hn2 j' z k3 hk3
    ·have:j'=j:=by omega
     subst this
     rw[hkj]at hk3
     obtain rfl:=Option.some.inj hk3
     rw[hbA];exact decide_eq_false fun z=>h1 (hb.mpr z)
  ·rintro e M'' ⟨rfl,z6,z7,rfl,hn2⟩
   have hzl:(bx (ws.map fun k:Nat=>D.int (k:Int)) (ss.map stD)).length=ws.length:=by rw[Y7,Rh,Rh];omega
   rw[hzl]at hn2
   walk_at "sim"
   refine A7 (xs:=ss) (enc:=stD) (fun s=>stD (s.2.1,t.num*s.2.1 - (t.den:Int)*(t.den:Int)*s.1,s.2.2*(t.den:Int))) (by omega) (by simp only[j9]) (fun s hs Q hQ=>?_) ?_
   ·obtain⟨j,hj⟩:=Sa hs
    obtain⟨k2,hk2,hst⟩:=hss j s hj
    walk_at "sim"
    exact⟨s,rfl,⟨ht,12000+470*i,hst.b1,hst.b2,hst.b3,by omega⟩,hQ⟩
   ·walk_at "sim"
    refine⟨ss.map fun s=>(s.2.1,t.num*s.2.1 - (t.den:Int)*(t.den:Int)*s.1,s.2.2*(t.den:Int)),some (.int (i:Int)),z6,z7,by rw[Sg];rfl,by rw[Rh];exact hlen,fun j s hs=>?_,fun n hn k3 hk3=>?_⟩
    ·rw[Rj]at hs
     obtain⟨s0,hs0,rfl⟩:=Ru.mp hs
     obtain⟨k2,hk2,hst⟩:=hss j s0 hs0
     exact⟨k2,hk2,hst.next ht⟩
    ·rcases Sk n i with z|z
     ·exact hno n z k3 hk3
     ·have:n=i:=by omega
      subst this
      obtain⟨j,hj⟩:=Sa hk3
      exact hn2 j (Rc.mp hj).1 k3 hj
 ·rw[p5]
  rintro e M' ⟨rfl,ss,z5,z6,z7,rfl,hlen,hss,hno⟩
  walk_at "sim"
  rw[sS hno]at k
  exact k
theorem eP(T:Txt K mg)(d:Df K mg "sheared_round" L6 ["t","x","later","r"])(NY:Fn P w K mg base "tops_over" 1 ["ratios","bottom"] Ah)(NL:Fn P w K mg base "common_bottom" 2 ["ratios"] Am):Fn P w K mg base "sheared_round" 3 ["t","x","later","r"] tE:=by
 have sc:=eA
 walk_at "fn"
 obtain⟨t,x,f',r,rfl,⟨ht,hl,h0,hw⟩,k⟩:=h
 have es:szs [x,f',r]=sz x+sz f'+sz r:=by unfold szs;simp only[Sh,SV,Vt,VH];omega
 have zx:sz x≤3000:=hl.x
 have zf:sz f'≤3000:=hl.f
 have zr:sz r≤3000:=hl.r
 have xf:sz x+sz f'≤4200:=hl.xf
 have tp:(0<t.num)↔0<t:=by
  constructor
  ·intro h
   rw[UW];simpa using h
  ·exact oN
 refine⟨_,(d5 (jst 4 sc.nd (e7 (a7 (a8 1) (a7 (a8 2) (a7 (a8 3) a9))))) (d5 (u9 (jc NY hr (a7 (a8 4) (a7 (jc NL hr (a7 (a8 4) a9)) a9))) (jE (n:=3) rfl (d7 (jn 5 sc.nd) (d7 (jn 6 sc.nd) (d7 (jn 7 sc.nd) i0))))) (d5 (jst 8 sc.nd (f9 bK (dO (jtm kP (jx (a8 0) d4) d4) (a8 6) (A1 (a8 6))) (a8 5))) (d5 (jst 9 sc.nd (dO (jtm kP (a8 8) d4) (f9 bK (a8 7) (a8 5)) (f9 F7 (a8 7) (a8 5)))) (d6 (d9 (f9 F7 (f9 F4 (a8 9) (p7 aC rfl T.b_abs R1 (a7 (a8 8) a9))) d4))))))),?_⟩
 walk_at "sim"
 refine⟨[x,f',r],.inl rfl,by omega,fun B B0 Bl hB hBp=>⟨[x,f',r],.inl rfl,⟨by show 3≤1000;decide,Ro Bl (RE (by decide) (by omega)),B0,fun q hq=>⟨hB q hq,?_⟩⟩,?_⟩⟩
 ·have:=fY hq;omega
 obtain⟨o1,o2⟩:=L1 (hB x (by simp))
 obtain⟨p1,p2⟩:=L1 (hB f' (by simp))
 obtain⟨q1,q2⟩:=L1 (hB r (by simp))
 have hBp:B ∣ x.den*(f'.den*r.den):=by simpa using hBp
 have o3:(x.num*(B:Int).fdiv (x.den:Int)).natAbs<2 ^ 8000:=vE (hB x (by simp)) hBp (J5 x) (Tz f'.den_pos r.den_pos) (o6 (o9 f' (Rx _)) (o9 r (Rx _))) (by omega)
 have p3:(f'.num*(B:Int).fdiv (f'.den:Int)).natAbs<2 ^ 8000:=vE (hB f' (by simp)) (by rw[Ur]at hBp;exact hBp) (J5 f') (Tz x.den_pos r.den_pos) (o6 (o9 x (Rx _)) (o9 r (Rx _))) (by omega)
 have hdn:=iK ht hw
 have B0':(0:Rat)<(B:Rat):=by exact_mod_cast B0
 walk_at "sim"
 generalize x.num*(B:Int).fdiv (x.den:Int)=a at *
 generalize f'.num*(B:Int).fdiv (f'.den:Int)=b at *
 generalize r.num*(B:Int).fdiv (r.den:Int)=c at *
 have fin:∀ bb:Int,bb.natAbs<2 ^ 8000→(bb:Rat)=(if 0<t then f' else -f')*(B:Rat)→∀ g:Int,g=(if 0<bb - a then c - a else c+a)→CFd g (((bb - a).natAbs:Nat):Int)∧R (.int (g.fdiv (((bb - a).natAbs:Nat):Int)+1)) M:=fun bb hbb ebb g hg=>by
  generalize hd:(if 0<t then f' else -f') - x=d at *
  have es2:((bb - a:Int):Rat)=d*(B:Rat):=by rw[Ta,ebb,o1,← hd];grind
  have sp:(0<bb - a)↔0<d:=by
   have e1:(0<bb - a)↔(0:Rat)<((bb - a:Int):Rat):=by exact_mod_cast Iff.rfl
   rw[e1,es2]
   constructor
   ·intro z
    apply RA
    intro nz
    have:=RU (a:=-d) (b:=(B:Rat)) (by grind) (by grind)
    grind
   ·intro z;exact Sm z B0'
  have sne:bb - a≠0:=fun z=>by
   rw[z]at es2
   have es2:(0:Rat)=d*(B:Rat):=es2
   rcases RR.mp es2.symm with z|z
   ·exact hdn z
   ·rw[z]at B0';exact absurd B0' (by decide)
  have sl:(bb - a).natAbs<2 ^ 8001:=Z0 hbb o3
  have sz1:(((bb - a).natAbs:Nat):Rat)=f6 d*(B:Rat):=by
   rw[← wL,es2,aF,show f6 (B:Rat)=(B:Rat)by unfold f6;rw[if_pos (by grind)]]
  have hgq:(g:Rat)=(if 0<d then r - x else r+x)*(B:Rat):=by
   rw[hg]
   by_cases h:0<d
   ·rw[if_pos (sp.mpr h),if_pos h,Ta,q1,o1];grind
   ·rw[if_neg (fun z=>h (sp.mp z)),if_neg h,SF,q1,o1];grind
  have xr:x≤r∧-r≤x:=by
   unfold f6 at h0;split at h0<;>exact⟨by grind,by grind⟩
  have g0:0≤g:=by
   have:(0:Rat)≤(g:Rat):=by
    rw[hgq]
    refine RU ?_ (by grind)
    split<;>grind
   exact_mod_cast this
  obtain⟨G,rfl⟩:∃ G:Nat,g=(G:Int):=⟨g.toNat,by omega⟩
  generalize hS:(bb - a).natAbs=Sn at *
  have S0:0<Sn:=by omega
  refine⟨⟨by omega,by rw[Rb];exact Rk (F5 sl (by decide)) (by decide)⟩,?_⟩
  rw[L0 (by omega) (by omega)]
  have eN:((G:Int) / (Sn:Int))+1=((G / Sn+1:Nat):Int):=by norm_cast
  rw[eN]
  have d1:G / Sn*Sn≤G:=Nat.div_mul_le_self G Sn
  have d2:G<(G / Sn+1)*Sn:=by rw[Vk,VY];exact Nat.lt_div_mul_add S0
  generalize G / Sn=N at *
  have f1:(N:Rat)*(Sn:Rat)≤(G:Rat):=by exact_mod_cast d1
  have f2:(G:Rat)<((N:Rat)+1)*(Sn:Rat):=by exact_mod_cast d2
  have hgq:(G:Rat)=(if 0<d then r - x else r+x)*(B:Rat):=hgq
  rw[sz1,hgq]at f1 f2
  obtain⟨k1,k2⟩:=qC (f:=f') (N:=N) ht h0 hd.symm hdn rfl (by
   apply RA
   intro nz
   have:=Sm (a:=(N:Rat)*f6 d - (if 0<d then r - x else r+x)) (b:=(B:Rat)) (by grind) B0'
   grind) (by
   apply RA
   intro nz
   have:=RU (a:=(if 0<d then r - x else r+x) - ((N:Rat)+1)*f6 d) (b:=(B:Rat)) (by grind) (by grind)
   grind)
  exact k _ k1 k2
 refine⟨fun h=>?_,fun h=>?_⟩
 ·have:=fin b p3 (by rw[if_pos (tp.mp h)];exact p1)
  exact⟨fun h2=>this _ (by rw[if_pos h2]),fun h2=>this _ (by rw[if_neg h2])⟩
 ·have:=fin (-b) (by rw[SM];exact p3) (by rw[if_neg (fun z=>h (tp.mpr z)),UR,p1];grind)
  exact⟨fun h2=>this _ (by rw[if_pos h2]),fun h2=>this _ (by rw[if_neg h2])⟩
theorem eQ(T:Txt K mg)(d:Df K mg "first_sheared" L7 ["t","numbers","late"])(OB:Fn P w K mg base "sheared_round" 3 ["t","x","later","r"] tE):Fn P w K mg base "first_sheared" 4 ["t","numbers","late"] HQ:=by
 have sc:=eB
 walk_at "fn"
 obtain⟨t,x,y,rfl,ls,ws,rfl,rfl,⟨ht,⟨hl,hwl⟩,hok,hk⟩,k0,k⟩:=h
 refine⟨_,(d5 (jst 3 sc.nd (ay a9)) (d5 (u8 PassesOwn.never rfl (A5 (a8 2)) (jn 4 sc.nd) (d5 (u9 (jx (a8 1) (a8 4)) (i9 (n:=3) rfl (d7 (jn 5 sc.nd) (d7 (jn 6 sc.nd) (d7 (jn 7 sc.nd) i0))))) (d6 (C1 (T7 PySem.F.slot_list_append PySem.F.type_list_append C4 (a8 3) (a7 (e7 (a7 (jc OB hr (a7 (a8 0) (a7 (a8 5) (a7 (a8 6) (a7 (a8 7) a9))))) (a7 (a8 4) a9))) a9)))))) (d6 (d9 (R0 (wg hu rfl rfl T.b_min Ci (a7 (Q9 (a8 3)) a9))))))),?_⟩
 walk_at "sim"
 intro p hp
 refine R4.by (fun i e M'=>∃(ps:List (Int × Int)) (z4 z5 z6 z7:Option D),e=[some (d8 t),some (D.vl (ls.map r9)),some (D.vl (ws.map fun k:Nat=>D.int (k:Int))),some (.ref p),z4,z5,z6,z7]∧M'=B2 M p (.lst (ps.map eO))∧ps.length=i∧∀(j:Nat) (q:Int × Int),ps[j]? = some q→∃(N k:Nat) (l:Rat × Rat × Rat),q=((N:Int),(k:Int))∧ws[j]? = some k∧ls[k]? = some l∧C5 t l N∧∀ n,n<N→¬ C5 t l n) ⟨[],_,_,_,_,rfl,rfl,rfl,fun j q h=>by simp at h⟩ (fun _ _ _ _ _=>by simp only[j9]) ?_ ?_
 ·rintro i dd e M' hd ⟨ps,z4,z5,z6,z7,rfl,rfl,hpl,hps⟩
  rw[Rj]at hd
  obtain⟨k1,hk1,rfl⟩:=Ru.mp hd
  obtain⟨l,hl1,hsw⟩:=hk k1 (Rg hk1)
  obtain⟨ok,h0⟩:=hok l (Rg hl1)
  have hi:=(Rc.mp hk1).1
  walk_at "sim"
  refine⟨r9 l,w6 (n:=k1) (by rw[Rj,hl1];rfl),?_⟩
  walk_at "sim"
  refine K6 g9 ⟨⟨ht,ok,h0,hsw⟩,fun N b1 b2=>?_⟩
  walk_at "sim"
  refine R5 g9 (by rw[Rh];omega) ⟨ps++[((N:Int),(k1:Int))],_,_,_,_,rfl,?_,by rw[RD,hpl];rfl,fun j q hq=>?_⟩
  ·rw[Y9,RB];rfl
  ·rcases Sk j ps.length with z|z
   ·rw[Ts z]at hq;exact hps j q hq
   ·rw[Tq z]at hq
    have hj:j - ps.length=0:=by
     have:=(Rc.mp hq).1
     simp at this;omega
    rw[hj]at hq
    have e5:q=((N:Int),(k1:Int)):=by simpa using hq.symm
    exact⟨N,k1,l,e5,by rw[show j=i by omega];exact hk1,hl1,b1,b2⟩
 ·rintro e M' ⟨ps,z4,z5,z6,z7,rfl,rfl,hpl,hps⟩
  rw[Rh]at hpl
  walk_at "sim"
  rw[bV g9,L5 hp]
  walk_at "sim"
  refine yZ.mpr ⟨fun z=>M9 (M2:=M) (fun _ _ h=>h) (k0 (TY (by rw[z]at hpl;exact hpl.symm))),fun q hq hm=>M9 (M2:=M) (fun _ _ h=>h) ?_⟩
  obtain⟨j,hj⟩:=Sa hq
  obtain⟨N,k1,l,rfl,hw1,hl1,b1,b2⟩:=hps j q hj
  have of:∀ k'∈ws,∃(N':Nat) (l':Rat × Rat × Rat),((N':Int),(k':Int))∈ps∧ls[k']? = some l'∧∀ n,n<N'→¬ C5 t l' n:=fun k' hk'=>by
   obtain⟨j',hj'⟩:=Sa hk'
   have hlt:j'<ps.length:=by rw[hpl];exact(Rc.mp hj').1
   have hq':=Rr hlt
   obtain⟨N',k2,l',e5,hw2,hl2,_,b4⟩:=hps j' _ hq'
   rw[hj']at hw2
   obtain rfl:=Option.some.inj hw2
   exact⟨N',l',by rw[← e5];exact VO hlt,hl2,b4⟩
  refine k N k1 (Rg hw1) (E9.mpr ⟨l,hl1,b1⟩) (fun n' hn k' hk'=>?_) (fun k' hk' hlt=>?_)
  ·obtain⟨N',l',hm',hl',b4⟩:=of k' hk'
   have:=hm _ hm'
   refine F0.mpr fun l2 e2=>?_
   rw[hl']at e2
   obtain rfl:=Option.some.inj e2
   exact b4 n' (by omega)
  ·obtain⟨N',l',hm',hl',b4⟩:=of k' hk'
   have:=hm _ hm'
   refine F0.mpr fun l2 e2=>?_
   rw[hl']at e2
   obtain rfl:=Option.some.inj e2
   exact b4 N (by omega)
theorem kC(T:Txt K mg)(d:Df K mg "first_stop" V2 ["table","numbers","late"])(OA:Fn P w K mg base "stop_within" 4 ["t","numbers","watched","rounds"] tD)(OC:Fn P w K mg base "first_sheared" 4 ["t","numbers","late"] HQ)(NF:Fn P w K mg base "rounds_to_self" 5 ["table"] xu)(NN:Fn P w K mg base "kind_word" 6 ["table"] sKw)(NR:Fn P w K mg base "t_of" 4 ["table"] ku)(Of:Fn P w K mg base "less" 1 ["one","other"] bX)(NU:Fn P w K mg base "unsigned" 1 ["one"] qA):Fn P w K mg base "first_stop" 7 ["table","numbers","late"] tM:=by
 have sc:=jX
 walk_at "fn"
 obtain⟨x,y,z,rfl,m,ls,rfl,rfl,rfl,⟨cd,hd,hl,hok⟩,k⟩:=h
 have zt:sz (trQ m)≤231:=CD.tr cd
 refine⟨_,(d5 (u8 PassesOwn.never rfl (Q8 rfl T.b_enumerate (a7 (a8 1) a9)) (i9 (n:=2) rfl (d7 (jn 3 sc.nd) (d7 (i9 (n:=3) rfl (d7 (jn 4 sc.nd) (d7 (jn 5 sc.nd) (d7 (jn 6 sc.nd) i0)))) i0))) (d6 (g7 (p9 (jc Of hr (a7 (a8 6) (a7 (jc NU hr (a7 (a8 4) a9)) a9)))) (d6 (d9 (e7 (a7 d4 (a7 (a8 3) a9))))) f7))) (d5 (jst 7 sc.nd (jc NR hr (a7 (a8 0) a9))) (d5 (jst 8 sc.nd (jc NN hr (a7 (a8 0) a9))) (d5 (g7 (jtm D6 (a8 8) j5) (d6 (d9 (jc OA hr (a7 (a8 7) (a7 (a8 1) (a7 (oT rfl rfl T.b_list R7 rfl T.b_range (a7 (p7 J8 rfl T.b_len D4 (a7 (a8 1) a9)) a9)) (a7 (jc NF hr (a7 (a8 0) a9)) a9))))))) f7) (d5 (g7 (jtm D6 (a8 8) j5) (d6 (d9 (jc OC hr (a7 (a8 7) (a7 (a8 1) (a7 (a8 2) a9)))))) f7) (d6 (d9 (jc OA hr (a7 (a8 7) (a7 (a8 1) (a7 (a8 2) (a7 (v7 rfl T.c_FIRST_ROUNDS) a9)))))))))))),?_⟩
 walk_at "sim"
 rw[gM]
 refine R4.by (fun i e M'=>M'=M∧(∃ z3 z4 z5 z6 z7 z8:Option D,e=[some (J9 m),some (D.vl (ls.map r9)),some (D.vl ((B1 m ls).map fun k:Nat=>D.int (k:Int))),z3,z4,z5,z6,z7,z8])∧∀(j:Nat) l,j<i→ls[j]? = some l→¬ l.2.2<f6 l.1) ⟨rfl,⟨_,_,_,_,_,_,rfl⟩,fun j l h=>absurd h (by omega)⟩ (fun _ _ _ _ _=>by simp only[j9]) ?_ ?_
 ·rintro i dd e M' hd2 ⟨rfl,⟨z3,z4,z5,z6,z7,z8,rfl⟩,hno⟩
  rw[Rj]at hd2
  obtain⟨zz,hz,rfl⟩:=Ru.mp hd2
  obtain⟨l,rfl,hli⟩:∃ l,zz=(l,i)∧ls[i]? = some l:=by
   rw[SW]at hz
   obtain⟨l,hl1,e5⟩:=Ru.mp hz
   exact⟨l,by rw[← e5];simp,hl1⟩
  have ok:=(hok l (Rg hli)).1
  have:=ok.x;have:=ok.r
  have ax:=eu l.1
  walk_at "sim"
  refine⟨by omega,fun h1=>?_,fun h1=>⟨⟨_,_,_,_,_,_,rfl⟩,fun j l' hj hl'=>?_⟩⟩
  ·refine k (some (0,i)) ⟨E9.mpr ⟨l,hli,h1⟩,fun n hn=>absurd hn (by omega),fun j hj=>F0.mpr fun l' hl'=>hno j l' hj hl',.inr (by show 0<60;decide)⟩
  ·rcases Sk j i with z|z
   ·exact hno j l' z hl'
   ·have:j=i:=by omega
    subst this
    rw[hli]at hl'
    obtain rfl:=Option.some.inj hl'
    exact h1
 ·rw[Rh,RO]
  rintro e M' ⟨rfl,⟨z3,z4,z5,z6,z7,z8,rfl⟩,hno⟩
  have h0:∀ l∈ls,¬ l.2.2<f6 l.1:=fun l hl=>by
   obtain⟨j,hj⟩:=Sa hl
   exact hno j l (Rc.mp hj).1 hj
  have stays:¬ p8 m→∀ j,j∉B1 m ls→∀ n,y8 (trQ m) ls j n=false:=fun hs j hj n=>F0.mpr fun l hl=>by
   have lm:=Rg hl
   refine jC hs (hok l lm).1.p ?_ (h0 l lm) n
   cases e:u7 m l.1 l.2.1 l.2.2 with
   | false=>rfl
   | true=>exact absurd (Q6.mpr ⟨l,hl,e⟩) hj
  have lk:∀ j∈B1 m ls,j<ls.length:=fun j hj=>by
   obtain⟨l,h1,_⟩:=Q6.mp hj
   exact(Rc.mp h1).1
  have ll:(B1 m ls).length≤40:=by
   unfold B1
   rw[Rh]
   have:=To (fun z:(Rat × Rat × Rat) × Nat=>u7 m z.1.1 z.1.2.1 z.1.2.2) ls.zipIdx
   rw[RO]at this;omega
  walk_at "sim"
  refine⟨m,rfl,cd,m,rfl,cd,fun hsm=>?_,fun hsm=>⟨fun hsh=>?_,fun hsh=>?_⟩⟩
  ·have hs:p8 m:=by
    rcases Q7 m with⟨c1,_⟩|⟨_,_,e⟩|⟨_,_,_,e⟩|⟨_,_,_,e⟩
    ·exact c1
    ·rw[e]at hsm;exact absurd hsm (by decide)
    ·rw[e]at hsm;exact absurd hsm (by decide)
    ·rw[e]at hsm;exact absurd hsm (by decide)
   have rt6:rtN m≤6:=by
    unfold rtN;repeat' split
    all_goals decide
   rw[ME]
   walk_at "sim"
   refine⟨ls.length,by rw[Rh],by omega,m,rfl,cd,?_⟩
   rw[cF m hs]
   refine(cT (N:=rtN m)).mpr ⟨ls,Sl ls.length,rfl,rfl,⟨zt,⟨hl,by rw[Us];exact hl⟩,by omega,fun l h=>(hok l h).1,fun j hj=>Sq.mp hj⟩,?_⟩
   have rg:∀{j:Nat},j<ls.length→(Sl ls.length)[j]? = some j:=fun{j} hj=>by rw[List.getElem?_range hj]
   have out:∀{j n:Nat},¬ j<ls.length→y8 (trQ m) ls j n=false:=fun{j n} hj=>F0.mpr fun l e5=>absurd (Rc.mp e5).1 hj
   cases e:Z4 (trQ m) ls (Sl ls.length) (rtN m)with
   | none =>
    have inv:=Z3 e
    refine k none fun n j _=>F0.mpr fun l hl5=>?_
    have lm:=Rg hl5
    have jl:=(Rc.mp hl5).1
    exact iT hd hs (hok l lm).2 (fun n5 hn5=>F0.mp (inv n5 hn5 j (Sq.mpr jl)) l hl5) n
   | some z =>
    obtain⟨h1,⟨i5,h2,h3⟩,h4,h5⟩:=Z2 e
    have ei:i5=z.2∧i5<ls.length:=by
     have hlt:=(Rc.mp h2).1
     rw[Us]at hlt
     rw[rg hlt]at h2
     exact⟨Option.some.inj h2,hlt⟩
    refine k (some z) ⟨h4,fun n hn j=>?_,fun j hj=>?_,.inl (.inl hs)⟩
    ·by_cases hj:j<ls.length
     ·exact h5 n hn j (Sq.mpr hj)
     ·exact out hj
    ·by_cases hj2:j<ls.length
     ·exact h3 j (by omega) j (rg hj2)
     ·exact out hj2
  ·obtain⟨hs,h2⟩:¬ p8 m∧f6 (trQ m)=2:=by
    rcases Q7 m with⟨_,e⟩|⟨c1,c2,_⟩|⟨_,_,_,e⟩|⟨_,_,_,e⟩
    ·exact absurd e hsm
    ·exact⟨c1,c2⟩
    ·rw[e]at hsh;exact absurd hsh (by decide)
    ·rw[e]at hsh;exact absurd hsh (by decide)
   have st:=stays hs
   have h3:¬ f6 (trQ m)<2:=by rw[h2];decide
   refine⟨ls,B1 m ls,rfl,rfl,⟨h2,⟨hl,ll⟩,fun l h=>⟨(hok l h).1,h0 l h⟩,fun j hj=>?_⟩,fun hn=>?_,fun n j hj b1 b2 b3=>?_⟩
   ·obtain⟨l,e1,e2⟩:=Q6.mp hj
    refine⟨l,e1,fun z=>?_⟩
    unfold u7 at e2
    rw[if_neg hs,if_neg h3,if_neg (fun w=>w z),if_pos h2]at e2
    cases e2
   ·refine k none fun n j _=>st j (fun z=>?_) n
    rw[hn]at z;cases z
   ·refine k (some (n,j)) ⟨b1,fun n' hn' j'=>?_,fun j' hj'=>?_,.inl (.inr h2)⟩
    ·by_cases z:j'∈B1 m ls
     ·exact b2 n' hn' j' z
     ·exact st j' z n'
    ·by_cases z:j'∈B1 m ls
     ·exact b3 j' z hj'
     ·exact st j' z n
  ·obtain⟨hs,hnr⟩:¬ p8 m∧¬ mD m:=by
    rcases Q7 m with⟨_,e⟩|⟨_,_,e⟩|⟨c1,c2,_⟩|⟨c1,c2,_⟩
    ·exact absurd e hsm
    ·exact absurd e hsh
    ·exact⟨c1,fun z=>z.elim c1 c2⟩
    ·exact⟨c1,fun z=>z.elim c1 c2⟩
   have st:=stays hs
   refine(cT (N:=60)).mpr ⟨ls,B1 m ls,rfl,rfl,⟨zt,⟨hl,ll⟩,by decide,fun l h=>(hok l h).1,lk⟩,?_⟩
   have asc:∀{i j a b:Nat},(B1 m ls)[i]? = some a→(B1 m ls)[j]? = some b→a<b→i<j:=Bj
   cases e:Z4 (trQ m) ls (B1 m ls) 60 with
   | none =>
    have inv:=Z3 e
    refine k none fun n j hn=>?_
    by_cases z:j∈B1 m ls
    ·exact inv n (hn.resolve_left hnr) j z
    ·exact st j z n
   | some z =>
    obtain⟨h1,⟨i5,h2,h3⟩,h4,h5⟩:=Z2 e
    refine k (some z) ⟨h4,fun n hn j=>?_,fun j hj=>?_,.inr h1⟩
    ·by_cases zz:j∈B1 m ls
     ·exact h5 n hn j zz
     ·exact st j zz n
    ·by_cases zz:j∈B1 m ls
     ·obtain⟨i6,h6⟩:=Sa zz
      exact h3 i6 (asc h6 h2 hj) j h6
     ·exact st j zz z.1
theorem tX(T:Txt K mg)(d:Df K mg "less" nD ["one","other"]):Fn P w K mg base "less" 1 ["one","other"] eI:=by
 have sc:=vM
 walk_at "fn"
 obtain⟨q,T',B,rfl,⟨b0,zq,zB,zT⟩,k⟩:=h
 have e:decide (q<RZ T' B)=decide (q.num*B<T'*(q.den:Int)):=decide_eq_decide.mpr (Be b0).symm
 rw[e]at k
 refine⟨_,(d6 (d9 (jm cM (f9 o8 (jx (a8 0) d4) (jx (a8 1) d4)) (f9 o8 (jx (a8 1) d4) (jx (a8 0) d4))))),?_⟩
 walk_at "sim"
 exact⟨u4 _ _ (u0 q zq) zB (by decide),u4 _ _ zT (by rw[Rb];exact o9 q zq) (by decide),k⟩
theorem AO(T:Txt K mg)(d:Df K mg "times" gf ["one","other"])(NH:Fn P w K mg base "ratio" 2 ["top","bottom"] X9):Fn P w K mg base "times" 3 ["one","other"] E6:=by
 have sc:=qE
 refine i8 d sc (fun ds M R Y h=>?_) (fun f cdv A outer s H E ds M R Y hr h=>?_)
 ·obtain⟨q,r,rfl,_⟩:=h;rfl
 ·obtain⟨q,r,rfl,hz,k⟩:=h
  refine⟨_,(d6 (d9 (jc NH hr (a7 (f9 o8 (jx (a8 0) d4) (jx (a8 1) d4)) (a7 (f9 o8 (jx (a8 0) d4) (jx (a8 1) d4)) a9))))),?_⟩
  refine⟨_,rfl,_,rfl,_,rfl,_,rfl,_,_,rfl,rfl,mNN hz,_,rfl,_,rfl,_,rfl,_,rfl,_,_,rfl,rfl,mDD hz,_,_,rfl,Sw (RM.E1 q) (RM.E1 r),lDD hz,?_⟩
  rw[RM.ud]at k
  exact k
theorem kv(T:Txt K mg)(d:Df K mg "shows_late" U7 ["word","t","x","later","r"])(Of:Fn P w K mg base "less" 1 ["one","other"] bX)(NU:Fn P w K mg base "unsigned" 1 ["one"] qA)(OW:Fn P w K mg base "swing" 3 ["t","x","later"] gj)(NX:Fn P w K mg base "less" 1 ["one","other"] eI)(Oc:Fn P w K mg base "reach_by" 4 ["t","x","later"] qP)(NC:Fn P w K mg base "times" 3 ["one","other"] E6):Fn P w K mg base "shows_late" 5 ["word","t","x","later","r"] nK:=by
 have sc:=jS
 walk_at "fn"
 obtain⟨w',t,x,f',r,rfl,m,rfl,rfl,⟨cd,hd,hz,hr',r0⟩,k⟩:=h
 have zt:sz (trQ m)≤231:=CD.tr cd
 have zr:=RM.u5 r r
 have ax:=eu x
 have af:=eu f'
 have dn:((trQ m).den:Rat)≠0:=by
  intro z;exact(trQ m).den_nz (by exact_mod_cast z)
 have tz:∀{T B:Int},0<B→(T:Rat)=(trQ m).den*(x*x - trQ m*(x*f')+f'*f')*B→(T=0↔swQ (trQ m) x f'=0):=fun{T B} b0 e=>by
  have hB:(B:Rat)≠0:=by intro z;exact absurd (show B=0 by exact_mod_cast z) (by omega)
  unfold swQ
  generalize x*x - trQ m*(x*f')+f'*f'=v at *
  constructor
  ·intro z
   rw[z]at e
   have e:(0:Rat)=(trQ m).den*v*B:=e
   grind
  ·intro z
   rw[z]at e
   have:(T:Rat)=0:=by grind
   exact_mod_cast this
 unfold u7 at k
 refine⟨_,(d5 (g7 (jtm D6 (a8 0) j5) (d6 (d9 D3)) f7) (d5 (g7 (jtm D6 (a8 0) j5) (d6 (d9 (jc NX hr (a7 (jc NC hr (a7 (a8 4) (a7 (a8 4) a9))) (a7 (jc Oc hr (a7 (a8 1) (a7 (a8 2) (a7 (a8 3) a9)))) a9))))) f7) (d5 (g7 (jtm bM (jx (jc OW hr (a7 (a8 1) (a7 (a8 2) (a7 (a8 3) a9)))) d4) d4) (d6 (d9 D3)) f7) (d6 (d9 (G2 (jm D6 (a8 0) j5) (J6 (Bq (jc Of hr (a7 (jc NU hr (a7 (a8 2) a9)) (a7 (jc NU hr (a7 (a8 3) a9)) a9))) (J6 (jc Of hr (a7 (a8 4) (a7 (jc NU hr (a7 (a8 2) a9)) a9)))))))))))),?_⟩
 walk_at "sim"
 rcases Q7 m with⟨c1,e⟩|⟨c1,c2,e⟩|⟨c1,c2,c3,e⟩|⟨c1,c2,c3,e⟩
 ·rw[e]
  rw[if_pos c1]at k
  exact⟨fun _=>k,fun h=>absurd rfl h⟩
 ·have c3:¬ f6 (trQ m)<2:=by rw[c2];decide
  rw[if_neg c1,if_neg c3]at k
  rw[e]
  refine⟨fun h=>absurd h (by decide),fun _=>⟨fun h=>absurd h (by decide),fun _=>⟨⟨zt,hz⟩,fun T' B b0 bB bT eT=>⟨fun h=>?_,fun h=>⟨fun h=>absurd h (by decide),fun _=>?_⟩⟩⟩⟩⟩
  ·rw[if_pos (fun z=>h ((tz b0 eT).mpr z))]at k;exact k
  ·rw[if_neg (fun z=>z ((tz b0 eT).mp h)),if_pos c2]at k;exact k
 ·rw[if_neg c1,if_pos c3]at k
  rw[e]
  obtain⟨t1,t2⟩:=J7.mp c3
  refine⟨fun h=>absurd h (by decide),fun _=>⟨fun _=>⟨by omega,⟨zt,t1,t2,hz⟩,fun T' B b0 bB bT eT=>⟨⟨b0,by omega,q9 bB (by decide),q9 bT (by decide)⟩,?_⟩⟩,fun h=>absurd rfl h⟩⟩
  rw[eT];exact k
 ·rw[if_neg c1,if_neg c3]at k
  rw[e]
  refine⟨fun h=>absurd h (by decide),fun _=>⟨fun h=>absurd h (by decide),fun _=>⟨⟨zt,hz⟩,fun T' B b0 bB bT eT=>⟨fun h=>?_,fun h=>⟨fun _=>⟨by omega,fun h2=>?_,fun h2=>⟨by omega,?_⟩⟩,fun h=>absurd rfl h⟩⟩⟩⟩⟩
  ·rw[if_pos (fun z=>h ((tz b0 eT).mpr z))]at k;exact k
  ·rw[if_neg (fun z=>z ((tz b0 eT).mp h)),if_neg c2,decide_eq_true (.inl h2)]at k;exact k
  ·rw[if_neg (fun z=>z ((tz b0 eT).mp h)),if_neg c2]at k
   rw[show decide (f6 x<f6 f'∨r<f6 x)=decide (r<f6 x)from decide_eq_decide.mpr ⟨fun z=>z.resolve_left h2,.inr⟩]at k
   exact k
theorem kz(T:Txt K mg)(d:Df K mg "late_lines" U9 ["table","numbers"])(OL:Fn P w K mg base "shows_late" 5 ["word","t","x","later","r"] nK)(NR:Fn P w K mg base "t_of" 4 ["table"] ku)(NN:Fn P w K mg base "kind_word" 6 ["table"] sKw):Fn P w K mg base "late_lines" 7 ["table","numbers"] nX:=by
 have sc:=jU
 walk_at "fn"
 obtain⟨x,y,rfl,m,ls,rfl,rfl,⟨cd,hd,hl,hok⟩,k⟩:=h
 refine⟨_,(d5 (jst 2 sc.nd (jc NN hr (a7 (a8 0) a9))) (d5 (jst 3 sc.nd (jc NR hr (a7 (a8 0) a9))) (d6 (d9 (T8 [2,3] ["k","x","later","r"] ["word","t"] rfl (by decide +kernel) rfl (by decide +kernel) (by decide +kernel) rfl (yg ⟨rfl,rfl⟩ ⟨rfl,rfl⟩) (yg (Or.inl rfl) (Or.inl rfl)) (Q8 rfl T.b_enumerate (a7 (a8 1) a9)) (fun _ _ _ _ _ _=>(i9 (n:=2) rfl (d7 (jn 0 (show(["k","x","later","r","word","t"]:List Str).Nodup by decide +kernel)) (d7 (i9 (n:=3) rfl (d7 (jn 1 (show(["k","x","later","r","word","t"]:List Str).Nodup by decide +kernel)) (d7 (jn 2 (show(["k","x","later","r","word","t"]:List Str).Nodup by decide +kernel)) (d7 (jn 3 (show(["k","x","later","r","word","t"]:List Str).Nodup by decide +kernel)) i0)))) i0)))) (fun _ _ _ _ _ _=>(eW (p9 (jc OL hr (a7 (a8 4) (a7 (a8 5) (a7 (a8 1) (a7 (a8 2) (a7 (a8 3) a9))))))))) (fun _ _ _ _ _ _=>(a8 0))))))),?_⟩
 walk_at "sim"
 refine⟨m,rfl,cd,m,rfl,cd,?_⟩
 rw[gM]
 refine X5 (xs:=ls.zipIdx) (fun z=>u7 m z.1.1 z.1.2.1 z.1.2.2) (fun z=>D.int (z.2:Int)) (by rw[RO];omega) (by simp only[j9]) (fun z hz Q N h1 h2=>?_) ?_
 ·have ok:=hok z.1 (Rg (Si.mp hz))
  walk_at "sim"
  refine⟨m,rfl,rfl,⟨cd,hd,ok.xf,ok.r,ok.p⟩,?_⟩
  walk_at "sim"
  exact⟨h1,h2⟩
 ·rw[show(ls.zipIdx.filter fun z=>u7 m z.1.1 z.1.2.1 z.1.2.2).map (fun z=>D.int (z.2:Int))=(B1 m ls).map fun k:Nat=>D.int (k:Int)by unfold B1;rw[Sg];rfl]
  exact k
theorem oA(T:Txt K mg)(d:Df K mg "number_of" Z8 ["p","q","ray"])(NI:Fn P w K mg base "plus" 3 ["one","other"] G9)(NC:Fn P w K mg base "times" 3 ["one","other"] E6):Fn P w K mg base "number_of" 4 ["p","q","ray"] nQ:=by
 have sc:=nh
 walk_at "fn"
 obtain⟨p,q,y,u,rfl,hz,k⟩:=h
 have z1:=RM.u5 p y
 have z2:=RM.u5 q u
 refine⟨_,(d6 (d9 (jc NI hr (a7 (jc NC hr (a7 (a8 0) (a7 (jx (a8 2) d4) a9))) (a7 (jc NC hr (a7 (a8 1) (a7 (jx (a8 2) d4) a9))) a9))))),?_⟩
 walk_at "sim"
 exact⟨by omega,by omega,by omega,k⟩
theorem II(T:Txt K mg)(d:Df K mg "led" Ae ["table","ray"])(NI:Fn P w K mg base "plus" 3 ["one","other"] G9)(NC:Fn P w K mg base "times" 3 ["one","other"] E6):Fn P w K mg base "led" 4 ["table","ray"] DS:=by
 have sc:=HK
 walk_at "fn"
 obtain⟨a,b,c,d,y,u,rfl,h1,h2,k⟩:=h
 refine⟨_,(d5 (u9 (a8 0) (i9 (n:=4) rfl (d7 (jn 2 sc.nd) (d7 (jn 3 sc.nd) (d7 (jn 4 sc.nd) (d7 (jn 5 sc.nd) i0)))))) (d5 (u9 (a8 1) (i9 (n:=2) rfl (d7 (jn 6 sc.nd) (d7 (jn 7 sc.nd) i0)))) (d6 (d9 (e7 (a7 (jc NI hr (a7 (jc NC hr (a7 (a8 2) (a7 (a8 6) a9))) (a7 (jc NC hr (a7 (a8 3) (a7 (a8 7) a9))) a9))) (a7 (jc NI hr (a7 (jc NC hr (a7 (a8 4) (a7 (a8 6) a9))) (a7 (jc NC hr (a7 (a8 5) (a7 (a8 7) a9))) a9))) a9))))))),?_⟩
 walk_at "sim"
 exact⟨by walk_at "size",by walk_at "size",by walk_at "size",by walk_at "size",by walk_at "size",by walk_at "size",k⟩
theorem oG(T:Txt K mg)(d:Df K mg "first_two" aa ["table","ray","lines"])(Ob:Fn P w K mg base "number_of" 4 ["p","q","ray"] nQ)(PL:Fn P w K mg base "led" 4 ["table","ray"] DS):Fn P w K mg base "first_two" 5 ["table","ray","lines"] cE:=by
 have sc:=nj
 walk_at "fn"
 obtain⟨x,y,u,z,rfl,L,ls,rfl,rfl,⟨S,cL,cd0,hS,hl,hs⟩,k⟩:=h
 have cd:CD 1700 y 0 u 0:=cd0.mono hS
 have ol:=N4 L y u
 have ray:=(aw cL cd).t2
 have r1:=ray.y
 have r2:=ray.u
 have ty:=cd.t2.y
 have tu:=cd.t2.u
 have o1:(h8 L (y,u)).1=(tbQ L).1*y+(tbQ L).2.1*u:=ol.1
 have o2:(h8 L (y,u)).2=(tbQ L).2.2.1*y+(tbQ L).2.2.2*u:=ol.2
 have t4:=CD.t4 cL
 rw[o1]at r1
 rw[o2]at r2
 rw[Sg]at k
 unfold J9
 refine⟨_,(d5 (jst 3 sc.nd (jc PL hr (a7 (a8 0) (a7 (a8 1) a9)))) (d6 (d9 (T8 [1,3] ["p","q","r"] ["ray","later"] rfl (by decide +kernel) rfl (by decide +kernel) (by decide +kernel) rfl (yg ⟨rfl,rfl⟩ ⟨rfl,rfl⟩) (yg (Or.inl rfl) (Or.inl rfl)) (A5 (a8 2)) (fun _ _ _ _ _ _=>(i9 (n:=3) rfl (d7 (jn 0 (show(["p","q","r","ray","later"]:List Str).Nodup by decide +kernel)) (d7 (jn 1 (show(["p","q","r","ray","later"]:List Str).Nodup by decide +kernel)) (d7 (jn 2 (show(["p","q","r","ray","later"]:List Str).Nodup by decide +kernel)) i0))))) (fun _ _ _ _ _ _=>A3) (fun _ _ _ _ _ _=>(e7 (a7 (jc Ob hr (a7 (a8 0) (a7 (a8 1) (a7 (a8 3) a9)))) (a7 (jc Ob hr (a7 (a8 0) (a7 (a8 1) (a7 (a8 4) a9)))) (a7 (a8 2) a9))))))))),?_⟩
 walk_at "sim"
 generalize tbQ L=m at *
 obtain⟨a,b,c,d⟩:=m
 have z3:sz a≤230:=t4.a
 have z4:sz b≤230:=t4.b
 have z5:sz c≤230:=t4.c
 have z6:sz d≤230:=t4.d
 have r1:sz (a*y+b*u)≤230+1700+1:=r1
 have r2:sz (c*y+d*u)≤230+1700+1:=r2
 have o1:(h8 L (y,u)).1=a*y+b*u:=o1
 have o2:(h8 L (y,u)).2=c*y+d*u:=o2
 refine⟨by show sz a+sz y+(sz b+sz u)≤8900;omega,by show sz c+sz y+(sz d+sz u)≤8900;omega,?_⟩
 refine A7 (xs:=ls) (enc:=r9) (fun l=>r9 (M7 L y u l)) (by omega) (by simp only[j9]) (fun l hl Q hQ=>?_) k
 obtain⟨q1,q2⟩:=hs l hl
 unfold r9 M7 at *
 rw[o1,o2]at hQ
 walk_at "sim"
 exact⟨by omega,by omega,hQ⟩
theorem AU(T:Txt K mg)(d:Df K mg "minus" nB ["one","other"])(NI:Fn P w K mg base "plus" 3 ["one","other"] G9)(NO:Fn P w K mg base "opposite" 1 ["one"] mr):Fn P w K mg base "minus" 4 ["one","other"] E7:=by
 have sc:=Ad
 refine i8 d sc (fun ds M R Y h=>?_) (fun f cdv A outer s H E ds M R Y hr h=>?_)
 ·obtain⟨q,r,rfl,_⟩:=h;rfl
 ·obtain⟨q,r,rfl,hz,k⟩:=h
  refine⟨_,(d6 (d9 (jc NI hr (a7 (a8 0) (a7 (jc NO hr (a7 (a8 1) a9)) a9))))),?_⟩
  refine⟨_,rfl,_,rfl,r,rfl,q,-r,rfl,by rw[RM.O6];exact hz,?_⟩
  rw[Vo]at k
  exact k
theorem jj(T:Txt K mg)(d:Df K mg "led_by_part" S4 ["part","ray"])(ND:Fn P w K mg base "minus" 4 ["one","other"] E7)(NC:Fn P w K mg base "times" 3 ["one","other"] E6)(NI:Fn P w K mg base "plus" 3 ["one","other"] G9):Fn P w K mg base "led_by_part" 5 ["part","ray"] iZ:=by
 have sc:=iN
 walk_at "fn"
 obtain⟨x,y,u,rfl,hz,k⟩:=h
 refine⟨_,(d5 (u9 (a8 0) (i9 (n:=2) rfl (d7 (jn 2 sc.nd) (d7 (jn 3 sc.nd) i0)))) (d5 (u9 (a8 1) (i9 (n:=2) rfl (d7 (jn 4 sc.nd) (d7 (jn 5 sc.nd) i0)))) (d5 (g7 (jtm D6 (a8 2) j5) (d6 (d9 (e7 (a7 (jc NI hr (a7 (a8 4) (a7 (jc NC hr (a7 (a8 3) (a7 (a8 5) a9))) a9))) (a7 (a8 5) a9))))) f7) (d5 (g7 (jtm D6 (a8 2) j5) (d6 (d9 (e7 (a7 (a8 4) (a7 (jc ND hr (a7 (a8 5) (a7 (jc NC hr (a7 (a8 3) (a7 (a8 4) a9))) a9))) a9))))) f7) (d6 (d9 (a8 1))))))),?_⟩
 walk_at "sim"
 unfold B5 at k
 refine⟨fun h1=>?_,fun h1=>⟨fun h2=>?_,fun h2=>?_⟩⟩
 ·rw[if_pos h1]at k;exact⟨by omega,by walk_at "size",k⟩
 ·rw[if_neg h1,if_pos h2]at k;exact⟨by omega,by walk_at "size",k⟩
 ·rw[if_neg h1,if_neg h2]at k;exact k
theorem rB(T:Txt K mg)(d:Df K mg "lines_of" cz ["bench"])(NS:Fn P w K mg base "led_by_part" 5 ["part","ray"] iZ):Fn P w K mg base "lines_of" 6 ["bench"] nV:=by
 have sc:=qL
 walk_at "fn"
 obtain⟨bs,rfl,⟨⟨hz,hl⟩,hc⟩,k⟩:=h
 refine⟨_,(d5 (jst 1 sc.nd (ay a9)) (d5 (jst 2 sc.nd (v7 rfl T.c_LEVEL_RAY)) (d5 (jst 3 sc.nd (v7 rfl T.c_AXIS_RAY)) (d5 (u8 PassesOwn.never rfl (A5 (a8 0)) (jn 4 sc.nd) (O0 (g7 (jtm D6 (jx (a8 4) d4) j5) (d6 (C1 (T7 PySem.F.slot_list_append PySem.F.type_list_append C4 (a8 1) (a7 (e7 (a7 (jx (a8 2) d4) (a7 (jx (a8 3) d4) (a7 (jx (a8 4) d4) a9)))) a9)))) f7) (d5 (jst 2 sc.nd (jc NS hr (a7 (a8 4) (a7 (a8 2) a9)))) (d6 (jst 3 sc.nd (jc NS hr (a7 (a8 4) (a7 (a8 3) a9)))))))) (d6 (d9 (R0 (Q9 (a8 1))))))))),?_⟩
 walk_at "sim"
 intro p hp
 refine R4.by (fun i e M'=>(∃ y0 z:Option D,e=[y0,some (.ref p),some (u3 (h8 (bs.take i) (1,0)).1 (h8 (bs.take i) (1,0)).2),some (u3 (h8 (bs.take i) (0,1)).1 (h8 (bs.take i) (0,1)).2),z])∧M'=B2 M p (.lst ((B3 bs i).map r9))) ⟨⟨_,_,rfl⟩,rfl⟩ (fun i e M' _ _=>by simp only[j9,C9]) ?_ ?_
 ·rintro i dd e M' hd ⟨⟨y0,z,rfl⟩,rfl⟩
  obtain⟨pt,hpt,rfl⟩:=mB hd
  have t4:=CD.t4 (hc i)
  have a1:sz (h8 (bs.take i) (1,0)).1≤230:=t4.a
  have a2:sz (h8 (bs.take i) (0,1)).1≤230:=t4.b
  have b1:sz (h8 (bs.take i) (1,0)).2≤230:=t4.c
  have b2:sz (h8 (bs.take i) (0,1)).2≤230:=t4.d
  have q2:=hz pt (Rg hpt)
  have o1:=Q3 hpt (1,0)
  have o2:=Q3 hpt (0,1)
  have hll:=O7 bs i
  have hi:=(Rc.mp hpt).1
  have on:=fZ hpt
  walk_at "sim"
  refine fc (fun e' M'=>e'=[y0,some (.ref p),some (u3 (h8 (bs.take i) (1,0)).1 (h8 (bs.take i) (1,0)).2),some (u3 (h8 (bs.take i) (0,1)).1 (h8 (bs.take i) (0,1)).2),some (g6 pt)]∧M'=B2 M p (.lst ((B3 bs (i+1)).map r9))) ?_ ?_
  ·walk_at "sim"
   refine⟨fun h1=>K6 g9 (R5 g9 (by rw[Rh];omega) ?_),fun h1=>?_⟩
   ·rw[Y9,on,if_pos h1,RB];rfl
   ·rw[on,if_neg h1]
  ·rintro e' M' ⟨rfl,rfl⟩
   walk_at "sim"
   refine⟨by omega,by omega,⟨y0,some (g6 pt),?_⟩⟩
   rw[o1,o2]
 ·rintro e M' ⟨⟨y0,z,rfl⟩,rfl⟩
  walk_at "sim"
  rw[bV g9,L5 hp]
  walk_at "sim"
  rw[Rh]
  exact⟨_,fun _ _ h=>h,k⟩
theorem fQ(T:Txt K mg)(d:Df K mg "turned_bench" O8 ["bench"]):Fn P w K mg base "turned_bench" 1 ["bench"] nF:=by
 have sc:=fN
 walk_at "fn"
 obtain⟨x0,xs,rfl,hx0,k⟩:=h
 rcases hx0 with rfl|rfl
 all_goals
  refine⟨_,(d6 (d9 (rN rfl rfl T.b_list R7 rfl T.b_reversed aE (a8 0)))),?_⟩
  walk_at "sim"
  exact k
theorem ji(T:Txt K mg)(d:Df K mg "round_bench" S3 ["hall"])(OH:Fn P w K mg base "turned_bench" 1 ["bench"] nF):Fn P w K mg base "round_bench" 2 ["hall"] iX:=by
 have sc:=iM
 walk_at "fn"
 obtain⟨x0,near,bs,far,rfl,hx0,hl,k⟩:=h
 rw[show e6 near bs far=bs++[(Str.ofString "glass",far)]++bs.reverse++[(Str.ofString "glass",near)]from rfl,RB,RB,RB,Tw]at k
 have l1:(bs.map g6).length=bs.length:=Rh ..
 have hs:1000≤sizeLine:=by decide
 rcases hx0 with rfl|rfl
 all_goals
  refine⟨_,(d5 (u9 (a8 0) (i9 (n:=3) rfl (d7 (jn 1 sc.nd) (d7 (jn 2 sc.nd) (d7 (jn 3 sc.nd) i0))))) (d6 (d9 (R6 (R6 (R6 (dN rfl T.b_list R7 (a7 (a8 2) a9)) (p6 (a7 (e7 (a7 j5 (a7 (a8 3) a9))) a9))) (jc OH hr (a7 (a8 2) a9))) (p6 (a7 (e7 (a7 j5 (a7 (a8 1) a9))) a9)))))),?_⟩
  walk_at "sim"
  refine⟨by omega,by simp only[RD,RQ,RV,SQ];omega,by simp only[RD,RQ,RV,SQ];omega,?_⟩
  exact k
theorem kA(T:Txt K mg)(d:Df K mg "hall_lines" V0 ["hall"])(OY:Fn P w K mg base "lines_of" 6 ["bench"] nV)(Oe:Fn P w K mg base "round_bench" 2 ["hall"] iX):Fn P w K mg base "hall_lines" 7 ["hall"] ar:=by
 have sc:=jV
 walk_at "fn"
 obtain⟨x0,near,bs,far,rfl,hx0,hok,k⟩:=h
 have hs:=hok.szs
 have hc:=hok.cd
 have hl:=hok.len
 have hl2:=U0 near far bs
 have fl:=wA bs
 have sz1:1000≤sizeLine:=by decide
 rcases hx0 with rfl|rfl
 all_goals
  refine⟨_,(d5 (C7 (i:=1) [] ["number","part"] [] sc.nd rfl (Or.inl rfl) rfl (by decide +kernel) rfl (by decide +kernel) (by decide +kernel) rfl bI bI (Q8 rfl T.b_enumerate (a7 (jx (a8 0) d4) a9)) (fun _ _ _ _ _ _=>(i9 (n:=2) rfl (d7 (jn 0 (show(["number","part"]:List Str).Nodup by decide +kernel)) (d7 (jn 1 (show(["number","part"]:List Str).Nodup by decide +kernel)) i0)))) (fun _ _ _ _ _ _=>(eW (jtm D6 (jx (a8 1) d4) j5))) (fun _ _ _ _ _ _=>(e7 (a7 j5 (a7 (a8 0) a9))))) (d5 (C7 (i:=2) [] ["way","number"] [] sc.nd rfl (Or.inl rfl) rfl (by decide +kernel) rfl (by decide +kernel) (by decide +kernel) rfl bI bI (Bo rfl T.b_reversed aE (a7 (a8 1) a9)) (fun _ _ _ _ _ _=>(i9 (n:=2) rfl (d7 (jn 0 (show(["way","number"]:List Str).Nodup by decide +kernel)) (d7 (jn 1 (show(["way","number"]:List Str).Nodup by decide +kernel)) i0)))) (fun _ _ _ _ _ _=>A3) (fun _ _ _ _ _ _=>(e7 (a7 j5 (a7 (a8 1) a9))))) (d5 (jst 3 sc.nd (jc OY hr (a7 (jc Oe hr (a7 (a8 0) a9)) a9))) (d6 (d9 (jF [] ["line","way","number"] [] rfl (by decide +kernel) rfl (by decide +kernel) (by decide +kernel) rfl bI bI (oP rfl T.b_zip (a7 (R6 (a8 1) (a8 2)) (a7 (a8 3) a9))) (fun _ _ _ _ _ _=>(i9 (n:=2) rfl (d7 (i9 (n:=2) rfl (d7 (jn 1 (show(["line","way","number"]:List Str).Nodup by decide +kernel)) (d7 (jn 2 (show(["line","way","number"]:List Str).Nodup by decide +kernel)) i0))) (d7 (jn 0 (show(["line","way","number"]:List Str).Nodup by decide +kernel)) i0)))) (fun _ _ _ _ _ _=>A3) (fun _ _ _ _ _ _=>(e7 (a7 (a8 1) (a7 (a8 2) (a7 (a8 0) a9))))))))))),?_⟩
  walk_at "sim"
  rw[eX]
  refine X5 (xs:=bs.zipIdx) (fun x=>x.1.1 == Str.ofString "stop") fwD (by rw[RO];omega) (by simp only[j9,C9]) (fun x hx Q N h1 h2=>?_) ?_
  ·walk_at "sim"
   exact⟨fun e=>h1 (by rw[e];exact beq_self_eq_true _),fun e=>h2 (beq_eq_false_iff_ne.mpr e)⟩
  ·walk_at "sim"
   rw[show Ux (fun x:(Str × Rat) × Nat=>x.1.1 == Str.ofString "stop") bs.zipIdx=frW bs from rfl,← Tw]
   refine A7 (xs:=(frW bs).reverse) (enc:=fwD) bwD (by rw[RQ];omega) trivial (fun x hx Q hQ=>?_) ?_
   ·unfold fwD
    walk_at "sim"
    exact hQ
   ·walk_at "sim"
    refine⟨hl,⟨⟨hs,by omega⟩,hc⟩,Ro (by rw[Rh,Rh,RQ];omega) sz1,?_⟩
    rw[Jm near far bs,Hm]
    have zl:=O7 (e6 near bs far) (e6 near bs far).length
    refine A7 (fun z=>hlD z.1 z.2) (by rw[UU];omega) (by simp only[j9,and_self]) (fun z hz Q hQ=>?_) ?_
    ·unfold prD
     walk_at "sim"
     exact hQ
    ·rw[Jc]
     exact k
theorem kD(T:Txt K mg)(d:Df K mg "by_columns" V3 ["first","second"]):Fn P w K mg base "by_columns" 1 ["first","second"] ey:=by
 have sc:=jY
 walk_at "fn"
 obtain⟨a,b,c,d,rfl,k⟩:=h
 refine⟨_,(d6 (d9 (e7 (a7 (jx (a8 0) d4) (a7 (jx (a8 1) d4) (a7 (jx (a8 0) d4) (a7 (jx (a8 1) d4) a9))))))),?_⟩
 walk_at "sim"
 exact k
theorem rh(T:Txt K mg)(d:Df K mg "table_of" ck ["bench"])(OM:Fn P w K mg base "by_columns" 1 ["first","second"] ey)(NS:Fn P w K mg base "led_by_part" 5 ["part","ray"] iZ):Fn P w K mg base "table_of" 6 ["bench"] Ag:=by
 have sc:=qF
 walk_at "fn"
 obtain⟨bs,rfl,⟨⟨hz,hl⟩,hc⟩,k⟩:=h
 refine⟨_,(d5 (jst 1 sc.nd (v7 rfl T.c_LEVEL_RAY)) (d5 (jst 2 sc.nd (v7 rfl T.c_AXIS_RAY)) (d5 (u8 PassesOwn.never rfl (A5 (a8 0)) (jn 3 sc.nd) (d5 (jst 1 sc.nd (jc NS hr (a7 (a8 3) (a7 (a8 1) a9)))) (d6 (jst 2 sc.nd (jc NS hr (a7 (a8 3) (a7 (a8 2) a9))))))) (d6 (d9 (jc OM hr (a7 (a8 1) (a7 (a8 2) a9)))))))),?_⟩
 walk_at "sim"
 refine R4.by (fun i e M'=>M'=M∧∃ z:Option D,e=[some _,some (u3 (h8 (bs.take i) (1,0)).1 (h8 (bs.take i) (1,0)).2),some (u3 (h8 (bs.take i) (0,1)).1 (h8 (bs.take i) (0,1)).2),z]) ⟨rfl,_,rfl⟩ (fun i e M' _ _=>by simp only[j9]) ?_ ?_
 ·rintro i dd e M' hd ⟨rfl,z,rfl⟩
  obtain⟨pt,hpt,rfl⟩:=mB hd
  have t4:=CD.t4 (hc i)
  have a1:sz (h8 (bs.take i) (1,0)).1≤230:=t4.a
  have a2:sz (h8 (bs.take i) (0,1)).1≤230:=t4.b
  have b1:sz (h8 (bs.take i) (1,0)).2≤230:=t4.c
  have b2:sz (h8 (bs.take i) (0,1)).2≤230:=t4.d
  have q2:=hz pt (Rg hpt)
  have o1:=Q3 hpt (1,0)
  have o2:=Q3 hpt (0,1)
  walk_at "sim"
  rw[← o1,← o2]
  exact⟨by omega,by omega,_,rfl⟩
 ·rw[Rh]
  rintro e M' ⟨rfl,z,rfl⟩
  rw[RG]
  walk_at "sim"
  exact k
theorem rk(T:Txt K mg)(d:Df K mg "round_of" cq ["hall"])(OZ:Fn P w K mg base "table_of" 6 ["bench"] Ag)(Oe:Fn P w K mg base "round_bench" 2 ["hall"] iX):Fn P w K mg base "round_of" 7 ["hall"] iW:=by
 have sc:=qH
 walk_at "fn"
 obtain⟨x0,near,bs,far,rfl,hx0,hok,k⟩:=h
 have hs:=hok.szs
 have hc:=hok.cd
 have hl:=hok.len
 have hl2:=U0 near far bs
 rcases hx0 with rfl|rfl
 all_goals
  refine⟨_,(d6 (d9 (jc OZ hr (a7 (jc Oe hr (a7 (a8 0) a9)) a9)))),?_⟩
  walk_at "sim"
  exact⟨hl,⟨⟨hs,by omega⟩,hc⟩,k⟩
theorem EH(T:Txt K mg)(d:Df K mg "ever" tw ["hall","ray"])(Pa:Fn P w K mg base "shown_by" 6 ["word","table","x","later"] iV)(NN:Fn P w K mg base "kind_word" 6 ["table"] sKw)(ON:Fn P w K mg base "first_stop" 7 ["table","numbers","late"] tM)(OO:Fn P w K mg base "late_lines" 7 ["table","numbers"] nX)(OR:Fn P w K mg base "first_two" 5 ["table","ray","lines"] cE)(Oh:Fn P w K mg base "hall_lines" 7 ["hall"] ar)(NQ:Fn P w K mg base "round_of" 7 ["hall"] iW):Fn P w K mg base "ever" 8 ["hall","ray"] oa:=by
 have sc:=DR
 walk_at "fn"
 obtain⟨x0,near,bs,far,y,u,rfl,hx0,⟨hw,S,cd,hS⟩,k⟩:=h
 have cL:=hw.cd (e6 near bs far).length
 rw[RG]at cL
 have dL:=iG (e6 near bs far)
 have lsl:=O7 (e6 near bs far) (e6 near bs far).length
 have hl2:=U0 near far bs
 have hbl:=hw.len
 have hN:=aA hw cd hS
 have hF:=jH (near:=near) (far:=far) (bs:=bs) (y:=y) (u:=u)
 have hNl:=O4 near far bs y u
 have hmet:∀ j l,(t9 near bs far y u)[j]? = some l→∃(w0:D × D) (l0:Rat × Rat × Rat),(hlN (g8 near bs far) (g8 near bs far).length)[j]? = some (hlD w0 l0)∧(A8 (g8 near bs far) (g8 near bs far).length).getD j (.non,.non)=w0:=fun j l hj=>by
  unfold t9 at hj
  rw[Rj]at hj
  obtain⟨l0,hl0,rfl⟩:=Ru.mp hj
  have h1:(B3 ((g8 near bs far).map fun z=>z.2.2) (g8 near bs far).length)[j]? = some l0:=by rw[G3,C3];exact hl0
  have hj2:=(Rc.mp h1).1
  rw[← K7]at hj2
  refine⟨(A8 (g8 near bs far) (g8 near bs far).length)[j],l0,?_,?_⟩
  ·unfold hlN
   rw[Su,h1,Rr hj2]
  ·rw[Sf,Rr hj2];rfl
 refine⟨_,(d5 (jst 2 sc.nd (jc NQ hr (a7 (a8 0) a9))) (d5 (jst 3 sc.nd (Q9 (jc Oh hr (a7 (a8 0) a9)))) (d5 (jst 4 sc.nd (jc OR hr (a7 (a8 2) (a7 (a8 1) (a7 (T8 [] ["way","number","line"] [] rfl (by decide +kernel) rfl (by decide +kernel) (by decide +kernel) rfl bI bI (A5 (a8 3)) (fun _ _ _ _ _ _=>(i9 (n:=3) rfl (d7 (jn 0 (show(["way","number","line"]:List Str).Nodup by decide +kernel)) (d7 (jn 1 (show(["way","number","line"]:List Str).Nodup by decide +kernel)) (d7 (jn 2 (show(["way","number","line"]:List Str).Nodup by decide +kernel)) i0))))) (fun _ _ _ _ _ _=>A3) (fun _ _ _ _ _ _=>(a8 2))) a9))))) (d5 (jst 5 sc.nd (jc OO hr (a7 (a8 2) (a7 (a8 4) a9)))) (d5 (jst 6 sc.nd (jc ON hr (a7 (a8 2) (a7 (a8 4) (a7 (a8 5) a9))))) (d5 (g7 (jtm dJ (a8 6) D9) (d5 (u9 (a8 6) (i9 (n:=2) rfl (d7 (jn 7 sc.nd) (d7 (jn 8 sc.nd) i0)))) (d6 (d9 (e7 (a7 j5 (a7 (a8 7) (a7 (jx (jx (a8 3) (a8 8)) d4) (a7 (jx (jx (a8 3) (a8 8)) d4) a9)))))))) f7) (d5 (g7 (jtm kP (p7 J8 rfl T.b_len D4 (a7 (a8 5) a9)) d4) (d6 (d9 (e7 (a7 j5 (a7 (jx (a8 5) d4) a9))))) f7) (d5 (jst 9 sc.nd (jc NN hr (a7 (a8 2) a9))) (d6 (d9 (e7 (a7 j5 (a7 (jF [2,9] ["x","later","r"] ["table","word"] rfl (by decide +kernel) rfl (by decide +kernel) (by decide +kernel) rfl (yg ⟨rfl,rfl⟩ ⟨rfl,rfl⟩) (yg (Or.inl rfl) (Or.inl rfl)) (A5 (a8 4)) (fun _ _ _ _ _ _=>(i9 (n:=3) rfl (d7 (jn 0 (show(["x","later","r","table","word"]:List Str).Nodup by decide +kernel)) (d7 (jn 1 (show(["x","later","r","table","word"]:List Str).Nodup by decide +kernel)) (d7 (jn 2 (show(["x","later","r","table","word"]:List Str).Nodup by decide +kernel)) i0))))) (fun _ _ _ _ _ _=>A3) (fun _ _ _ _ _ _=>(jc Pa hr (a7 (a8 4) (a7 (a8 3) (a7 (a8 0) (a7 (a8 1) a9))))))) a9))))))))))))),?_⟩
 refine i3 fun P1 hP1=>?_
 walk_at "sim"
 refine⟨x0,near,bs,far,rfl,hx0,hw,hP1 _ _ ?_⟩
 clear hP1 P1
 refine i3 fun P2 hP2=>?_
 walk_at "sim"
 refine⟨x0,near,bs,far,rfl,hx0,hw,fun p hp=>?_⟩
 walk_at "sim"
 rw[bV g9,L5 hp]
 refine hP2 _ _ ?_
 clear hP2 P2
 refine i3 fun P3 hP3=>?_
 walk_at "sim"
 rw[oV]
 refine A7 (fun z=>r9 z.2) (by rw[UU,C3];omega) (by simp only[j9]) (fun z hz Q hQ=>?_) ?_
 ·unfold hlD
  walk_at "sim"
  exact hQ
 rw[wR]
 refine⟨e6 near bs far,B3 (e6 near bs far) (e6 near bs far).length,rfl,rfl,⟨S,cL,cd,hS,by omega,fun l hl=>(hw.ln cd hS hl).2⟩,?_⟩
 rw[show Td (M7 (e6 near bs far) y u) (B3 (e6 near bs far) (e6 near bs far).length)=t9 near bs far y u from rfl,← oV]
 refine hP3 _ _ ?_
 clear hP3 P3
 generalize t9 near bs far y u=ls at *
 generalize hlN (g8 near bs far) (g8 near bs far).length=HL at *
 generalize A8 (g8 near bs far) (g8 near bs far).length=WS at *
 refine i3 fun P4 hP4=>?_
 walk_at "sim"
 refine⟨_,ls,rfl,rfl,⟨cL,dL,by omega,hN⟩,hP4 _ _ ?_⟩
 clear hP4 P4
 refine i3 fun P5 hP5=>?_
 walk_at "sim"
 refine⟨_,ls,rfl,rfl,rfl,⟨cL,dL,by omega,fun l h=>⟨hN l h,hF l h⟩⟩,fun o ho=>hP5 _ _ ?_⟩
 clear hP5 P5
 generalize tbQ (e6 near bs far)=m at *
 cases o with
 | some z =>
  obtain⟨n,j⟩:=z
  have hk:R (.tup [.str (Str.ofString "stopped"),.int (n:Int),(WS.getD j (.non,.non)).1,(WS.getD j (.non,.non)).2]) M:=k (.stopped n j) ho
  obtain⟨l,hl5,_⟩:=E9.mp ho.1
  obtain⟨w0,l0,e1,e2⟩:=hmet j l hl5
  rw[e2]at hk
  unfold vI
  refine i3 fun P6 hP6=>?_
  clear hP6
  walk_at "sim"
  rw[bU rfl]
  walk_at "sim"
  refine⟨_,w6 (n:=j) e1,?_⟩
  unfold hlD
  walk_at "sim"
  refine⟨_,w6 (n:=j) e1,?_⟩
  unfold hlD
  walk_at "sim"
  exact hk
 | none =>
  unfold vI
  refine i3 fun P6 hP6=>?_
  walk_at "sim"
  rw[bU rfl,cX]
  refine⟨fun h=>(by cases h),fun _=>hP6 _ _ ?_⟩
  clear hP6 P6
  refine i3 fun P7 hP7=>?_
  walk_at "sim"
  cases e:B1 m ls with
  | cons a E8 =>
   have hk:R (.tup [.str (Str.ofString "late"),.int (a:Int)]) M:=k (.late a) ⟨ho,by rw[e];rfl⟩
   refine⟨fun _=>?_,fun h=>absurd (by rw[Sh,RV];omega) h⟩
   walk_at "sim"
   exact hk
  | nil =>
   have hk:∀ p,M p=none→R (.tup [.str (Str.ofString "never"),.ref p]) (B2 M p (.lst ((ls.map (F3 m)).map enD))):=k .never ⟨ho,e⟩
   refine⟨fun h=>absurd h (by decide),fun _=>hP7 _ _ ?_⟩
   clear hP7 P7
   refine i3 fun P8 hP8=>?_
   walk_at "sim"
   refine⟨m,rfl,cL,hP8 _ _ ?_⟩
   clear hP8 P8
   walk_at "sim"
   rw[Sg]at hk
   refine A7 (xs:=ls) (enc:=r9) (fun l=>enD (F3 m l)) (by omega) (by simp only[j9]) (fun l hl Q hQ=>?_) hk
   walk_at "sim"
   refine⟨m,l.2.2,rfl,rfl,⟨cL,dL,hN l hl,fun c1 c3 h0=>?_⟩,hQ⟩
   apply RA
   intro hf
   obtain⟨j,hj⟩:=Sa hl
   have:j∈B1 m ls:=Q6.mpr ⟨l,hj,by
    unfold u7
    rw[if_neg c1,if_neg c3,if_pos (by rw[h0];unfold swQ;grind)]⟩
   rw[e]at this;cases this
theorem jr(T:Txt K mg)(d:Df K mg "_law_beyond" S8 ["x","r"]):Fn P w K mg base "_law_beyond" 1 ["x","r"] dB:=by
 have sc:=iS
 walk_at "fn"
 obtain⟨x,r,rfl,hz,k⟩:=h
 obtain⟨n1,n2⟩:=Jz x
 have e:decide (r<f6 x)=decide (r.num*(x.den:Int)<(x.num.natAbs:Int)*(r.den:Int)):=decide_eq_decide.mpr (by rw[UW,n1,n2])
 rw[e]at k
 have xn:=J5 x
 have rn:=J5 r
 refine⟨_,(d6 (d9 (jm kP (f9 o8 (p7 aC rfl T.b_abs R1 (a7 (jx (a8 0) d4) a9)) (jx (a8 1) d4)) (f9 o8 (jx (a8 1) d4) (jx (a8 0) d4))))),?_⟩
 walk_at "sim"
 exact⟨u4 _ _ (by rw[Rb];exact xn) (G6 r) (by omega),u4 _ _ rn (G6 x) (by omega),k⟩
theorem kL(T:Txt K mg)(d:Df K mg "_law_parts" V9 ["hall"]):Fn P w K mg base "_law_parts" 1 ["hall"] gB:=by
 have sc:=kl
 walk_at "fn"
 obtain⟨near,bs,far,rfl,hl,k⟩:=h
 refine⟨_,(d5 (oQ (i:=1) [] ["k","part"] [] sc.nd rfl (Or.inl rfl) rfl (by decide +kernel) rfl (by decide +kernel) (by decide +kernel) rfl bI bI (Q8 rfl T.b_enumerate (a7 (jx (a8 0) d4) a9)) (fun _ _ _ _ _ _=>(i9 (n:=2) rfl (d7 (jn 0 (show(["k","part"]:List Str).Nodup by decide +kernel)) (d7 (jn 1 (show(["k","part"]:List Str).Nodup by decide +kernel)) i0)))) (fun _ _ _ _ _ _=>A3) (fun _ _ _ _ _ _=>(e7 (a7 j5 (a7 (a8 0) (a7 (a8 1) a9)))))) (d5 (C1 (T7 PySem.F.slot_list_append PySem.F.type_list_append C4 (a8 1) (a7 (e7 (a7 D9 (a7 D9 (a7 (e7 (a7 j5 (a7 (jx (a8 0) d4) a9))) a9)))) a9))) (d5 (C1 (T7 PySem.F.slot_list_extend PySem.F.type_list_extend yb (a8 1) (a7 (jF [0] ["k"] ["hall"] rfl (by decide +kernel) rfl (by decide +kernel) (by decide +kernel) rfl (fW ⟨rfl,rfl⟩) (fW (Or.inl rfl)) (Bn rfl T.b_reversed aE rfl T.b_range boot_range (a7 (p7 J8 rfl T.b_len D4 (a7 (jx (a8 0) d4) a9)) a9)) (fun _ _ _ _ _ _=>(jn 0 (show(["k","hall"]:List Str).Nodup by decide +kernel))) (fun _ _ _ _ _ _=>A3) (fun _ _ _ _ _ _=>(e7 (a7 j5 (a7 (a8 0) (a7 (jx (jx (a8 1) d4) (a8 0)) a9)))))) a9))) (d5 (C1 (T7 PySem.F.slot_list_append PySem.F.type_list_append C4 (a8 1) (a7 (e7 (a7 D9 (a7 D9 (a7 (e7 (a7 j5 (a7 (jx (a8 0) d4) a9))) a9)))) a9))) (d6 (d9 (R0 (Q9 (a8 1))))))))),?_⟩
 walk_at "sim"
 rw[eX]
 refine A7 (fun x:(Str × Rat) × Nat=>lpD (.str "forth") (.int (x.2:Int)) x.1) (by rw[RO];omega) (by simp only[j9]) (fun x hx Q hQ=>?_) (fun p hp=>?_)
 ·walk_at "sim"
  exact hQ
 ·refine K6 g9 (R5 g9 (by rw[Rh,RO];omega) (K6 g9 ⟨by rw[Rh];omega,?_⟩))
  rw[Rh,SD,BJ]
  refine A7 (fun x:(Str × Rat) × Nat=>lpD (.str "back") (.int (x.2:Int)) x.1) (by rw[RQ,RO];omega) trivial (fun x hx Q hQ=>?_) (fun b hb=>?_)
  ·have hx1:bs[x.2]? = some x.1:=by
    have:=SU.mp hx
    obtain⟨y,j⟩:=x
    exact Si.mp this
   walk_at "sim"
   exact⟨g6 x.1,w6 (n:=x.2) (by rw[Rj,hx1];rfl),hQ⟩
  ·have hbp:b≠p:=fun e=>by rw[e,g9]at hb;cases hb
   have hMb:M b=none:=by rw[A2 hbp,A2 hbp]at hb;exact hb
   have hlz:(bs.zipIdx.map fun x:(Str × Rat) × Nat=>lpD (.str "forth") (.int (x.2:Int)) x.1).length=bs.length:=by rw[Rh,RO]
   have hlr:(bs.zipIdx.reverse.map fun x:(Str × Rat) × Nat=>lpD (.str "back") (.int (x.2:Int)) x.1).length=bs.length:=by rw[Rh,RQ,RO]
   refine JL (by rw[A2 (Ne.symm hbp)];exact g9) g9 (by rw[RD,hlz,hlr];show bs.length+1+bs.length≤1000;omega) (K6 g9 (R5 g9 (by rw[RD,RD,hlz,hlr];show bs.length+1+bs.length<1000;omega) ⟨p,_,rfl,g9,M9 (M2:=M) (fun c o h=>?_) k⟩))
   have c1:c≠p:=fun e=>by rw[e,hp]at h;cases h
   have c2:c≠b:=fun e=>by rw[e,hMb]at h;cases h
   rw[gN c1,A2 c1,A2 c1,A2 c2,A2 c1,A2 c1]
   exact h
theorem oJ(T:Txt K mg)(d:Df K mg "_law_part" ah ["part","ray"])(ND:Fn P w K mg base "minus" 4 ["one","other"] E7)(NC:Fn P w K mg base "times" 3 ["one","other"] E6)(NI:Fn P w K mg base "plus" 3 ["one","other"] G9):Fn P w K mg base "_law_part" 5 ["part","ray"] iZ:=by
 have sc:=nr
 walk_at "fn"
 obtain⟨x,y,u,rfl,hz,k⟩:=h
 refine⟨_,(d5 (u9 (a8 0) (i9 (n:=2) rfl (d7 (jn 2 sc.nd) (d7 (jn 3 sc.nd) i0)))) (d5 (g7 (jtm D6 (a8 2) j5) (d6 (d9 (e7 (a7 (jc NI hr (a7 (jx (a8 1) d4) (a7 (jc NC hr (a7 (a8 3) (a7 (jx (a8 1) d4) a9))) a9))) (a7 (jx (a8 1) d4) a9))))) f7) (d5 (g7 (jtm D6 (a8 2) j5) (d6 (d9 (e7 (a7 (jx (a8 1) d4) (a7 (jc ND hr (a7 (jx (a8 1) d4) (a7 (jc NC hr (a7 (a8 3) (a7 (jx (a8 1) d4) a9))) a9))) a9))))) f7) (d6 (d9 (a8 1)))))),?_⟩
 walk_at "sim"
 unfold B5 at k
 refine⟨fun h1=>?_,fun h1=>⟨fun h2=>?_,fun h2=>?_⟩⟩
 ·rw[if_pos h1]at k;exact⟨by omega,by walk_at "size",k⟩
 ·rw[if_neg h1,if_pos h2]at k;exact⟨by omega,by walk_at "size",k⟩
 ·rw[if_neg h1,if_neg h2]at k;exact k
theorem kH(T:Txt K mg)(d:Df K mg "_law_round" V6 ["hall","ray"])(Oi:Fn P w K mg base "_law_parts" 1 ["hall"] gB)(Og:Fn P w K mg base "_law_part" 5 ["part","ray"] iZ):Fn P w K mg base "_law_round" 6 ["hall","ray"] au:=by
 have sc:=ke
 walk_at "fn"
 obtain⟨near,bs,far,y,u,rfl,⟨hok,S,cd,hS⟩,k⟩:=h
 refine⟨_,(d5 (u8 PassesOwn.never rfl (A5 (jc Oi hr (a7 (a8 0) a9))) (i9 (n:=3) rfl (d7 (jn 2 sc.nd) (d7 (jn 3 sc.nd) (d7 (jn 4 sc.nd) i0)))) (d6 (jst 1 sc.nd (jc Og hr (a7 (a8 4) (a7 (a8 1) a9)))))) (d6 (d9 (a8 1)))),?_⟩
 walk_at "sim"
 refine⟨hok.len,?_⟩
 refine R4.by (fun i e M'=>M'=M∧∃ z2 z3 z4:Option D,e=[some (.tup [d8 near,.vl (bs.map g6),d8 far]),some (u3 (h8 ((e6 near bs far).take i) (y,u)).1 (h8 ((e6 near bs far).take i) (y,u)).2),z2,z3,z4]) ⟨rfl,_,_,_,rfl⟩ (fun i e M' _ _=>by simp only[j9]) ?_ ?_
 ·rintro i dd e M' hd ⟨rfl,z2,z3,z4,rfl⟩
  obtain⟨w,n,x,rfl,hx⟩:=xW hd
  have t2:=(aw (hok.cd i) cd).t2
  have a1:=t2.y
  have a2:=t2.u
  have q2:=hok.szs x (Rg hx)
  have o1:=Q3 hx (y,u)
  walk_at "sim"
  rw[← o1]
  exact⟨by omega,_,_,_,rfl⟩
 ·rw[mK]
  rintro e M' ⟨rfl,z2,z3,z4,rfl⟩
  rw[RG]
  walk_at "sim"
  exact k
theorem oH(T:Txt K mg)(d:Df K mg "_law_same" ae ["hall"])(NP:Fn P w K mg base "_law_round" 6 ["hall","ray"] au):Fn P w K mg base "_law_same" 7 ["hall"] dw:=by
 have sc:=nk
 walk_at "fn"
 obtain⟨near,bs,far,rfl,hok,k⟩:=h
 have cd:=hok.cd (e6 near bs far).length
 rw[RG]at cd
 have hdet:=iG (e6 near bs far)
 refine⟨_,(d5 (jst 1 sc.nd (p6 (a7 (e7 (a7 (e7 (a7 d4 (a7 d4 a9))) (a7 (e7 (a7 d4 (a7 d4 a9))) a9))) (a7 (e7 (a7 (e7 (a7 d4 (a7 d4 a9))) (a7 (e7 (a7 d4 (a7 d4 a9))) a9))) a9)))) (d5 (jst 2 sc.nd (dN rfl T.b_list R7 (a7 (a8 1) a9))) (d5 (u8 PassesOwn.never rfl (Bm rfl T.b_range (a7 d4 (a7 d4 a9))) (jn 3 sc.nd) (d5 (C7 (i:=2) [0] ["ray"] ["hall"] sc.nd rfl (Or.inl rfl) rfl (by decide +kernel) rfl (by decide +kernel) (by decide +kernel) rfl (fW ⟨rfl,rfl⟩) (fW (Or.inl rfl)) (A5 (a8 2)) (fun _ _ _ _ _ _=>(jn 0 (show(["ray","hall"]:List Str).Nodup by decide +kernel))) (fun _ _ _ _ _ _=>A3) (fun _ _ _ _ _ _=>(jc NP hr (a7 (a8 1) (a7 (a8 0) a9))))) (d6 (g7 (jtm (C0 hu) (a8 2) (a8 1)) (d6 (d9 (a8 3))) f7)))) (d6 (d9 d4))))),?_⟩
 walk_at "sim"
 refine⟨⟨by decide,by decide,by decide,by decide⟩,?_⟩
 obtain⟨m,hm⟩:∃ m,tbQ (e6 near bs far)=m:=⟨_,rfl⟩
 rw[hm]at cd hdet k
 have c1:∀ i,i≤6→CD 1500 (B9 m (1,0) i).1 0 (B9 m (1,0) i).2 0:=fun i hi=>(tP cd cdA i).mono (by omega)
 have c2:∀ i,i≤6→CD 1500 (B9 m (0,1) i).1 0 (B9 m (0,1) i).2 0:=fun i hi=>(tP cd cdB i).mono (by omega)
 refine R4.by (fun i e M'=>M'=M∧(∃ z:Option D,e=[some (D.tup [d8 near,D.vl (Td g6 bs),d8 far]),some (D.vl [D.tup [d8 1,d8 0],D.tup [d8 0,d8 1]]),some (D.vl [u3 (B9 m (1,0) i).1 (B9 m (1,0) i).2,u3 (B9 m (0,1) i).1 (B9 m (0,1) i).2]),z])∧∀ j,0<j→j≤i→pwQ m j≠(1,0,0,1)) ⟨rfl,⟨_,rfl⟩,fun j h0 h1=>absurd h0 (by omega)⟩ (fun _ _ _ _ _=>trivial) ?_ ?_
 ·rintro i dd e M' hd ⟨rfl,⟨z,rfl⟩,hb⟩
  obtain⟨hi,rfl⟩:=eM hd
  have hi:i<6:=hi
  have o1:=vQ (bs:=e6 near bs far) (1,0) i
  have o2:=vQ (bs:=e6 near bs far) (0,1) i
  rw[hm]at o1 o2
  walk_at "sim"
  refine A7 (xs:=[B9 m (1,0) i,B9 m (0,1) i]) (enc:=fun r=>u3 r.1 r.2) (fun r=>u3 (h8 (e6 near bs far) r).1 (h8 (e6 near bs far) r).2) (by show 2≤1000;decide) (by simp only[j9]) (fun r hr Q hQ=>?_) ?_
  ·walk_at "sim"
   refine⟨⟨hok,?_⟩,hQ⟩
   simp only[RC,RS,or_false]at hr
   rcases hr with rfl|rfl
   ·exact⟨_,c1 i (by omega),by decide⟩
   ·exact⟨_,c2 i (by omega),by decide⟩
  ·walk_at "sim"
   rw[o1,o2]
   refine⟨fun he=>?_,fun he=>⟨⟨_,rfl⟩,fun j j0 j1=>?_⟩⟩
   ·have h1:=si.mp he
    have h2:=Ao hdet (by omega) h1 fun j j0 j1=>hb j j0 (by omega)
    rw[h2]at k
    rw[show(1:Int)+(i:Int)=((i+1:Nat):Int)by omega]
    exact k
   ·rcases Sk i j with z|z
    ·have:j=i+1:=by omega
     rw[this]
     exact fun h=>he (si.mpr h)
    ·exact hb j j0 z
 ·rintro e M' ⟨rfl,⟨z,rfl⟩,hb⟩
  rw[p5]at hb
  have h2:=An hdet fun j j0 j1=>hb j j0 j1
  rw[h2]at k
  walk_at "sim"
  exact k
theorem fR(T:Txt K mg)(d:Df K mg "_law_turning" O9 ["hall","t"])(NZ:Fn P w K mg base "_law_same" 7 ["hall"] dw)(Of:Fn P w K mg base "less" 1 ["one","other"] bX):Fn P w K mg base "_law_turning" 8 ["hall","t"] gu:=by
 have sc:=fO
 walk_at "fn"
 obtain⟨near,bs,far,t,rfl,⟨hok,ht⟩,k⟩:=h
 have cL:=hok.cd (e6 near bs far).length
 rw[RG]at cL
 have zt:sz (trQ (tbQ (e6 near bs far)))≤231:=CD.tr cL
 rw[← ht]at zt
 have s2:sz (2:Rat)≤2:=by decide +kernel
 have s3:sz (-2:Rat)≤2:=by rw[RM.O6];exact s2
 refine⟨_,(d6 (d9 (G2 (jc Of hr (a7 (e7 (a7 (A1 d4) (a7 d4 a9))) (a7 (a8 1) a9))) (G2 (jc Of hr (a7 (a8 1) (a7 (e7 (a7 d4 (a7 d4 a9))) a9))) (J6 (jm Y1 (jc NZ hr (a7 (a8 0) a9)) d4)))))),?_⟩
 walk_at "sim"
 refine⟨by omega,fun h1=>⟨by omega,fun h2=>⟨hok,?_⟩,fun h2=>?_⟩,fun h1=>?_⟩
 ·rw[show decide ((rtN (tbQ (e6 near bs far)):Int)=0)=decide (f6 t<2∧rtN (tbQ (e6 near bs far))=0)from decide_eq_decide.mpr ⟨fun e=>⟨J7.mpr ⟨h1,h2⟩,by omega⟩,fun e=>by omega⟩]
  exact k
 ·rw[show decide (f6 t<2∧rtN (tbQ (e6 near bs far))=0)=false from decide_eq_false fun e=>h2 (J7.mp e.1).2]at k
  exact k
 ·rw[show decide (f6 t<2∧rtN (tbQ (e6 near bs far))=0)=false from decide_eq_false fun e=>h1 (J7.mp e.1).1]at k
  exact k
theorem kJ(T:Txt K mg)(d:Df K mg "_law_reach" V8 ["t","x","further"])(NW:Fn P w K mg base "over" 3 ["one","other"] U5)(ND:Fn P w K mg base "minus" 4 ["one","other"] E7)(NC:Fn P w K mg base "times" 3 ["one","other"] E6)(NI:Fn P w K mg base "plus" 3 ["one","other"] G9):Fn P w K mg base "_law_reach" 5 ["t","x","further"] dz:=by
 have sc:=ki
 walk_at "fn"
 obtain⟨t,x,f',rfl,⟨ht,hx,hf,t1,t2⟩,k⟩:=h
 have h4:=qw t1 t2
 have m1:=RM.u5 x x
 have m2:=RM.u5 x f'
 have m3:=RM.u5 t (x*f')
 have m4:=RM.G7 (x*x) (t*(x*f'))
 have m5:=RM.u5 f' f'
 have m6:=RM.U4 (x*x - t*(x*f')) (f'*f')
 have m7:=RM.u5 4 (x*x - t*(x*f')+f'*f')
 have m8:=RM.u5 t t
 have m9:=RM.G7 4 (t*t)
 have s4:sz (4:Rat)≤3:=by decide +kernel
 refine⟨_,(d5 (jst 3 sc.nd (jc NI hr (a7 (jc ND hr (a7 (jc NC hr (a7 (a8 1) (a7 (a8 1) a9))) (a7 (jc NC hr (a7 (a8 0) (a7 (jc NC hr (a7 (a8 1) (a7 (a8 2) a9))) a9))) a9))) (a7 (jc NC hr (a7 (a8 2) (a7 (a8 2) a9))) a9)))) (d6 (d9 (jc NW hr (a7 (jc NC hr (a7 (e7 (a7 d4 (a7 d4 a9))) (a7 (a8 3) a9))) (a7 (jc ND hr (a7 (e7 (a7 d4 (a7 d4 a9))) (a7 (jc NC hr (a7 (a8 0) (a7 (a8 0) a9))) a9))) a9)))))),?_⟩
 walk_at "sim"
 exact⟨by omega,by omega,by omega,by omega,by omega,by omega,by omega,by omega,by omega,fun z=>by rw[z]at h4;exact absurd h4 (by decide),by omega,k⟩
theorem kN(T:Txt K mg)(d:Df K mg "_law_lines" W2 ["hall"])(Oi:Fn P w K mg base "_law_parts" 1 ["hall"] gB)(Og:Fn P w K mg base "_law_part" 5 ["part","ray"] iZ):Fn P w K mg base "_law_lines" 6 ["hall"] dA:=by
 have sc:=ko
 walk_at "fn"
 obtain⟨near,bs,far,rfl,hok,k⟩:=h
 have hl:=hok.len
 have hl2:=U0 near far bs
 refine⟨_,(d5 (jst 1 sc.nd (e7 (a7 (e7 (a7 d4 (a7 d4 a9))) (a7 (e7 (a7 d4 (a7 d4 a9))) a9)))) (d5 (jst 2 sc.nd (e7 (a7 (e7 (a7 d4 (a7 d4 a9))) (a7 (e7 (a7 d4 (a7 d4 a9))) a9)))) (d5 (jst 3 sc.nd (ay a9)) (d5 (u8 PassesOwn.never rfl (A5 (jc Oi hr (a7 (a8 0) a9))) (i9 (n:=3) rfl (d7 (jn 4 sc.nd) (d7 (jn 5 sc.nd) (d7 (jn 6 sc.nd) i0)))) (O0 (g7 (jtm D6 (jx (a8 6) d4) j5) (d6 (C1 (T7 PySem.F.slot_list_append PySem.F.type_list_append C4 (a8 3) (a7 (e7 (a7 (a8 4) (a7 (a8 5) (a7 (e7 (a7 (jx (a8 1) d4) (a7 (jx (a8 2) d4) (a7 (jx (a8 6) d4) a9)))) a9)))) a9)))) f7) (d5 (jst 1 sc.nd (jc Og hr (a7 (a8 6) (a7 (a8 1) a9)))) (d6 (jst 2 sc.nd (jc Og hr (a7 (a8 6) (a7 (a8 2) a9)))))))) (d6 (d9 (R0 (Q9 (a8 3))))))))),?_⟩
 walk_at "sim"
 intro p hp
 refine⟨hl,?_⟩
 refine R4.by (fun i e M'=>∃ z6 z7 z8:Option D,e=[some (D.tup [d8 near,D.vl (Td g6 bs),d8 far]),some (u3 (h8 ((e6 near bs far).take i) (1,0)).1 (h8 ((e6 near bs far).take i) (1,0)).2),some (u3 (h8 ((e6 near bs far).take i) (0,1)).1 (h8 ((e6 near bs far).take i) (0,1)).2),some (D.ref p),z6,z7,z8]∧M'=B2 M p (.lst (hlN (g8 near bs far) i))) ⟨_,_,_,rfl,rfl⟩ (fun i e M' _ _=>by simp only[j9]) ?_ ?_
 ·rintro i dd e M' hd ⟨z6,z7,z8,rfl,rfl⟩
  obtain⟨w,n,x,rfl,hT,hx⟩:=ur hd
  have t4:=CD.t4 (hok.cd i)
  have a1:sz (h8 ((e6 near bs far).take i) (1,0)).1≤230:=t4.a
  have a2:sz (h8 ((e6 near bs far).take i) (0,1)).1≤230:=t4.b
  have b1:sz (h8 ((e6 near bs far).take i) (1,0)).2≤230:=t4.c
  have b2:sz (h8 ((e6 near bs far).take i) (0,1)).2≤230:=t4.d
  have q2:=hok.szs x (Rg hx)
  have o1:=Q3 hx (1,0)
  have o2:=Q3 hx (0,1)
  have hi:=(Rc.mp hx).1
  have on:=Je hT
  rw[G3]at on
  have l1:=EV (g8 near bs far) i
  walk_at "sim"
  refine fc (fun e' M'=>e'=[some (D.tup [d8 near,D.vl (Td g6 bs),d8 far]),some (u3 (h8 ((e6 near bs far).take i) (1,0)).1 (h8 ((e6 near bs far).take i) (1,0)).2),some (u3 (h8 ((e6 near bs far).take i) (0,1)).1 (h8 ((e6 near bs far).take i) (0,1)).2),some (D.ref p),some w,some n,some (g6 x)]∧M'=B2 M p (.lst (hlN (g8 near bs far) (i+1)))) ?_ ?_
  ·walk_at "sim"
   refine⟨fun h1=>?_,fun h1=>by rw[on,if_neg h1]⟩
   refine K6 g9 (R5 g9 (by omega) ?_)
   rw[Y9,on,if_pos h1]
  ·rintro e' M' ⟨rfl,rfl⟩
   walk_at "sim"
   refine⟨by omega,by omega,some w,some n,some (g6 x),?_⟩
   rw[o1,o2]
 ·rintro e M' ⟨z6,z7,z8,rfl,rfl⟩
  rw[mK,← C3]
  walk_at "sim"
  rw[bV g9,L5 hp]
  exact M9 (M2:=M) (fun _ _ h=>h) k
theorem fT(T:Txt K mg)(d:Df K mg "_law_numbers" P9 ["hall","ray"])(Oj:Fn P w K mg base "_law_lines" 6 ["hall"] dA)(NI:Fn P w K mg base "plus" 3 ["one","other"] G9)(NC:Fn P w K mg base "times" 3 ["one","other"] E6)(NP:Fn P w K mg base "_law_round" 6 ["hall","ray"] au):Fn P w K mg base "_law_numbers" 7 ["hall","ray"] T5:=by
 have sc:=fP
 walk_at "fn"
 obtain⟨near,bs,far,y,u,rfl,⟨hok,cd⟩,k⟩:=h
 rw[show(t9 near bs far y u).map r9=(B3 (e6 near bs far) (e6 near bs far).length).map (vY (e6 near bs far) y u)by unfold t9;rw[Sg];rfl]at k
 have cL:=hok.cd (e6 near bs far).length
 rw[RG]at cL
 have ray:=(aw cL cd).t2
 have r1:=ray.y
 have r2:=ray.u
 have ty:=cd.t2.y
 have tu:=cd.t2.u
 have hl:=hok.len
 have hl2:=U0 near far bs
 have sl:=O7 (e6 near bs far) (e6 near bs far).length
 have hz:=vH hok.cd (e6 near bs far).length
 refine⟨_,(d5 (jst 2 sc.nd (jc NP hr (a7 (a8 0) (a7 (a8 1) a9)))) (d5 (jst 3 sc.nd (ay a9)) (d5 (u8 PassesOwn.never rfl (A5 (jc Oj hr (a7 (a8 0) a9))) (i9 (n:=3) rfl (d7 (jn 4 sc.nd) (d7 (jn 5 sc.nd) (d7 (i9 (n:=3) rfl (d7 (jn 6 sc.nd) (d7 (jn 7 sc.nd) (d7 (jn 8 sc.nd) i0)))) i0)))) (d5 (jst 9 sc.nd (jc NI hr (a7 (jc NC hr (a7 (a8 6) (a7 (jx (a8 1) d4) a9))) (a7 (jc NC hr (a7 (a8 7) (a7 (jx (a8 1) d4) a9))) a9)))) (d6 (C1 (T7 PySem.F.slot_list_append PySem.F.type_list_append C4 (a8 3) (a7 (e7 (a7 (a8 9) (a7 (jc NI hr (a7 (jc NC hr (a7 (a8 6) (a7 (jx (a8 2) d4) a9))) (a7 (jc NC hr (a7 (a8 7) (a7 (jx (a8 2) d4) a9))) a9))) (a7 (a8 8) a9)))) a9)))))) (d6 (d9 (R0 (Q9 (a8 3)))))))),?_⟩
 walk_at "sim"
 refine⟨⟨hok,_,cd,by decide⟩,fun p hp=>⟨hok,?_⟩⟩
 refine R4.by (fun i e M'=>∃ z4 z5 z6 z7 z8 z9:Option D,e=[some (D.tup [d8 near,D.vl (Td g6 bs),d8 far]),some (u3 y u),some (u3 (h8 (e6 near bs far) (y,u)).1 (h8 (e6 near bs far) (y,u)).2),some (D.ref p),z4,z5,z6,z7,z8,z9]∧M'=B2 M p (.lst (((B3 (e6 near bs far) (e6 near bs far).length).take i).map (vY (e6 near bs far) y u)))) ⟨_,_,_,_,_,_,rfl,rfl⟩ (fun i e M' _ _=>by simp only[j9]) ?_ ?_
 ·rintro i dd e M' hd ⟨z4,z5,z6,z7,z8,z9,rfl,rfl⟩
  obtain⟨w0,l,rfl,hli⟩:=EU hd
  rw[G3,C3]at hli
  obtain⟨s1,s2⟩:=hz l (Rg hli)
  have hi:=(Rc.mp hli).1
  have m1:=RM.u5 l.1 y
  have m2:=RM.u5 l.2.1 u
  have m3:=RM.u5 l.1 (h8 (e6 near bs far) (y,u)).1
  have m4:=RM.u5 l.2.1 (h8 (e6 near bs far) (y,u)).2
  have tk:(B3 (e6 near bs far) (e6 near bs far).length).take (i+1)=(B3 (e6 near bs far) (e6 near bs far).length).take i++[l]:=by rw[SO,hli];rfl
  unfold hlD r9
  walk_at "sim"
  refine⟨by omega,by omega,by omega,K6 g9 ⟨by omega,by omega,by omega,R5 g9 (by rw[Rh,Ss];omega) ⟨_,_,_,_,_,_,rfl,?_⟩⟩⟩
  rw[Y9,tk,RB];rfl
 ·rintro e M' ⟨z4,z5,z6,z7,z8,z9,rfl,rfl⟩
  rw[Jd,G3,C3,RG]
  walk_at "sim"
  rw[bV g9,L5 hp]
  exact M9 (M2:=M) (fun _ _ h=>h) k
theorem xE(T:Txt K mg)(d:Df K mg "_law_t" iU ["hall"])(NI:Fn P w K mg base "plus" 3 ["one","other"] G9)(NP:Fn P w K mg base "_law_round" 6 ["hall","ray"] au):Fn P w K mg base "_law_t" 7 ["hall"] tJ:=by
 have sc:=xq
 walk_at "fn"
 obtain⟨near,bs,far,rfl,hok,k⟩:=h
 have cL:=hok.cd (e6 near bs far).length
 rw[RG]at cL
 have t4:=CD.t4 cL
 have z3:sz (h8 (e6 near bs far) (1,0)).1≤230:=t4.a
 have z6:sz (h8 (e6 near bs far) (0,1)).2≤230:=t4.d
 refine⟨_,(d5 (jst 1 sc.nd (jc NP hr (a7 (a8 0) (a7 (e7 (a7 (e7 (a7 d4 (a7 d4 a9))) (a7 (e7 (a7 d4 (a7 d4 a9))) a9))) a9)))) (d5 (jst 2 sc.nd (jc NP hr (a7 (a8 0) (a7 (e7 (a7 (e7 (a7 d4 (a7 d4 a9))) (a7 (e7 (a7 d4 (a7 d4 a9))) a9))) a9)))) (d6 (d9 (jc NI hr (a7 (jx (a8 1) d4) (a7 (jx (a8 2) d4) a9))))))),?_⟩
 walk_at "sim"
 exact⟨⟨hok,_,cdA,by decide⟩,⟨hok,_,cdB,by decide⟩,by omega,k⟩
theorem cI(T:Txt K mg)(d:Df K mg "_law_late_shown" J1 ["hall","ray","k"])(NK:Fn P w K mg base "_law_beyond" 1 ["x","r"] dB)(NI:Fn P w K mg base "plus" 3 ["one","other"] G9)(NW:Fn P w K mg base "over" 3 ["one","other"] U5)(ND:Fn P w K mg base "minus" 4 ["one","other"] E7)(Oa:Fn P w K mg base "_law_turning" 8 ["hall","t"] gu)(NX:Fn P w K mg base "less" 1 ["one","other"] eI)(Ol:Fn P w K mg base "_law_reach" 5 ["t","x","further"] dz)(NC:Fn P w K mg base "times" 3 ["one","other"] E6)(NZ:Fn P w K mg base "_law_same" 7 ["hall"] dw)(NJ:Fn P w K mg base "_law_numbers" 7 ["hall","ray"] T5)(NV:Fn P w K mg base "_law_t" 7 ["hall"] tJ):Fn P w K mg base "_law_late_shown" 9 ["hall","ray","k"] nU:=by
 have sc:=bZ
 walk_at "fn"
 obtain⟨near,bs,far,y,u,n,rfl,⟨hok,cd⟩,l,hl,k⟩:=h
 have cL:=hok.cd (e6 near bs far).length
 rw[RG]at cL
 have zt:sz (trQ (tbQ (e6 near bs far)))≤231:=CD.tr cL
 obtain⟨_,⟨zr,r0⟩,zx,zf⟩:=hok.line cd (Rg hl)
 have rz:rtN (tbQ (e6 near bs far))=0 ↔ ¬ p8 (tbQ (e6 near bs far)):=⟨fun e hs=>by
  obtain⟨n0,e1,e2,_⟩:=eJ (iG _) hs
  rw[cF _ hs]at e1
  injection e1 with e1
  omega,gD⟩
 refine⟨_,(d5 (jst 3 sc.nd (jc NV hr (a7 (a8 0) a9))) (d5 (u9 (jx (jc NJ hr (a7 (a8 0) (a7 (a8 1) a9))) (a8 2)) (i9 (n:=3) rfl (d7 (jn 4 sc.nd) (d7 (jn 5 sc.nd) (d7 (jn 6 sc.nd) i0))))) (d5 (g7 (jtm kP (jc NZ hr (a7 (a8 0) a9)) d4) (d6 (d9 D3)) f7) (d5 (g7 (p9 (jc Oa hr (a7 (a8 0) (a7 (a8 3) a9)))) (d6 (d9 (jc NX hr (a7 (jc NC hr (a7 (a8 6) (a7 (a8 6) a9))) (a7 (jc Ol hr (a7 (a8 3) (a7 (a8 4) (a7 (a8 5) a9)))) a9))))) f7) (d5 (g7 (jtm (C0 hu) (a8 3) (e7 (a7 d4 (a7 d4 a9)))) (d6 (d9 (jm (jt hu) (a8 5) (a8 4)))) f7) (d5 (g7 (jtm (C0 hu) (a8 3) (e7 (a7 (A1 d4) (a7 d4 a9)))) (d6 (d9 (jm (jt hu) (a8 5) (jc ND hr (a7 (e7 (a7 d4 (a7 d4 a9))) (a7 (a8 4) a9)))))) f7) (d5 (g7 (jtm (C0 hu) (a8 4) (e7 (a7 d4 (a7 d4 a9)))) (d6 (d9 (jm (jt hu) (a8 5) (e7 (a7 d4 (a7 d4 a9)))))) f7) (d5 (jst 7 sc.nd (jc NW hr (a7 (a8 5) (a7 (a8 4) a9)))) (d5 (jst 8 sc.nd (G2 (jm (jt hu) (a8 7) (e7 (a7 d4 (a7 d4 a9)))) (G2 (gK (jc NK hr (a7 (a8 7) (a7 (e7 (a7 d4 (a7 d4 a9))) a9)))) (J6 (jm (C0 hu) (jc NI hr (a7 (a8 7) (a7 (jc NW hr (a7 (e7 (a7 d4 (a7 d4 a9))) (a7 (a8 7) a9))) a9))) (a8 3)))))) (d6 (d9 (Bq (gK (a8 8)) (J6 (jc NK hr (a7 (a8 4) (a7 (a8 6) a9)))))))))))))))),?_⟩
 refine i3 fun P1 hP1=>?_
 walk_at "sim"
 refine⟨hok,hP1 _ _ ?_⟩
 clear hP1 P1
 refine i3 fun P2 hP2=>?_
 walk_at "sim"
 refine⟨⟨hok,cd⟩,vY (e6 near bs far) y u l,w6 (n:=n) (by rw[Rj];unfold t9;rw[Rj,hl];rfl),?_⟩
 unfold vY
 generalize l.1*y+l.2.1*u=x at *
 generalize l.1*(h8 (e6 near bs far) (y,u)).1+l.2.1*(h8 (e6 near bs far) (y,u)).2=f1 at *
 generalize l.2.2=r at *
 walk_at "sim"
 refine hP2 _ _ ?_
 clear hP2 P2
 have zrr:=RM.u5 r r
 have s0:sz (0:Rat)≤1:=by rw[RM.F9];decide
 have s1:sz (1:Rat)=1:=RM.R9
 refine i3 fun P3 hP3=>?_
 walk_at "sim"
 refine⟨hok,fun h0=>?_,fun h0=>hP3 _ _ ?_⟩
 ·have hs:p8 (tbQ (e6 near bs far)):=RA fun z=>by rw[rz.mpr z]at h0;exact absurd h0 (by decide)
  unfold u7 at k
  rw[if_pos hs]at k
  exact k
 clear hP3 P3
 refine i3 fun P4 hP4=>?_
 walk_at "sim"
 refine⟨hok,fun h1=>?_,fun h1=>hP4 _ _ ?_⟩
 ·clear hP4 P4
  generalize tbQ (e6 near bs far)=m at *
  have hs:¬ p8 m:=rz.mp h1.2
  obtain⟨t1,t2⟩:=J7.mp h1.1
  have rs:=tR zt zx zf t1 t2
  unfold u7 at k
  rw[if_neg hs,if_pos h1.1]at k
  refine⟨by omega,⟨zt,zx,zf,t1,t2⟩,r*r,(M0 (trQ m) x f1).num,((M0 (trQ m) x f1).den:Int),rfl,⟨by have:=(M0 (trQ m) x f1).den_pos;omega,by omega,by rw[Rb];exact o9 _ (by omega),u0 _ (by omega)⟩,?_⟩
  rw[Tj];exact k
 clear hP4 P4
 generalize tbQ (e6 near bs far)=m at *
 have hs:¬ p8 m:=rz.mp (by omega)
 have h3:¬ f6 (trQ m)<2:=fun z=>h1 ⟨z,rz.mpr hs⟩
 refine i3 fun P5 hP5=>?_
 walk_at "sim"
 refine⟨fun ht=>?_,fun ht=>hP5 _ _ ?_⟩
 ·rw[Bi hs ht]at k;exact k
 clear hP5 P5
 refine i3 fun P6 hP6=>?_
 walk_at "sim"
 refine⟨fun ht2=>⟨by omega,?_⟩,fun ht2=>hP6 _ _ ?_⟩
 ·rw[xQ hs ht2]at k;exact k
 clear hP6 P6
 have h2:=Fu ht ht2
 refine i3 fun P7 hP7=>?_
 walk_at "sim"
 refine⟨fun hx=>?_,fun hx=>hP7 _ _ ?_⟩
 ·rw[hx,rM hs h3 h2 r0]at k;exact k
 clear hP7 P7
 have d1:=RM.G8 f1 x hx
 refine i3 fun P8 hP8=>?_
 walk_at "sim"
 refine⟨hx,by omega,hP8 _ _ ?_⟩
 clear hP8 P8
 walk_at "sim"
 refine⟨fun hp=>⟨by omega,fun hb=>?_,fun hb=>?_⟩,fun hp=>?_⟩
 ·have d2:=RM.G8 1 (f1 / x) hp
  refine⟨hp,by omega,by omega,fun he=>?_,fun he=>⟨by omega,?_⟩⟩
  ·rw[cO hs h3 h2 hx (.inr (.inr he))]at k;exact k
  ·rw[xR hs h3 h2 hx hp hb he]at k;exact k
 ·rw[cO hs h3 h2 hx (.inr (.inl hb))]at k;exact k
 ·rw[cO hs h3 h2 hx (.inl hp)]at k;exact k
theorem rq(T:Txt K mg)(d:Df K mg "ratio" gg ["top","bottom"])(NT:Fn P w K mg base "divisor" 1 ["one","other"] N8)(NM:Fn P w K mg base "is_whole" 1 ["thing"] de):Fn P w K mg base "ratio" 2 ["top","bottom"] vO:=by
 have sc:=qJ
 walk_at "fn"
 obtain⟨a,b,rfl,⟨hb,hg⟩,k⟩:=h
 have hn:=By (a:=a) hb
 have hlg:((RW a.natAbs b.natAbs:Nat):Int).natAbs.log2<9000:=by rw[Rb];exact F5 hg (by decide)
 refine⟨_,(d5 (g7 (F2 (C2 (F6 (p9 (jc NM hr (a7 (a8 0) a9)))) (C2 (F6 (p9 (jc NM hr (a7 (a8 1) a9)))) (D8 (jtm Y1 (a8 1) d4))))) (d6 mH) f7) (d5 (jst 2 sc.nd (jc NT hr (a7 (p7 aC rfl T.b_abs R1 (a7 (a8 0) a9)) (a7 (p7 aC rfl T.b_abs R1 (a7 (a8 1) a9)) a9)))) (d5 (g7 (jtm cM (a8 1) d4) (d6 (jst 2 sc.nd (A1 (a8 2)))) f7) (d6 (d9 (e7 (a7 (f9 F4 (a8 0) (a8 2)) (a7 (f9 F4 (a8 1) (a8 2)) a9)))))))),?_⟩
 walk_at "sim"
 refine⟨fun h=>absurd h hb,fun _=>⟨fun h1=>?_,fun h1=>?_⟩⟩
 ·have c1:∀ i:Int,CFd i (-((RW a.natAbs b.natAbs:Nat):Int)):=fun i=>⟨by omega,by rw[SM];exact hlg⟩
  exact⟨c1 _,c1 _,gJ hb (by rw[if_pos h1]) k⟩
 ·have c1:∀ i:Int,CFd i ((RW a.natAbs b.natAbs:Nat):Int):=fun i=>⟨hn,hlg⟩
  exact⟨c1 _,c1 _,gJ hb (by rw[if_neg h1]) k⟩
theorem rf(T:Txt K mg)(d:Df K mg "times" gf ["one","other"])(Oy:Fn P w K mg base "ratio" 2 ["top","bottom"] vO):Fn P w K mg base "times" 3 ["one","other"] gh:=by
 have sc:=qE
 walk_at "fn"
 obtain⟨q,r,rfl,⟨hz,hg⟩,k⟩:=h
 rw[RM.ud]at k
 refine⟨_,(d6 (d9 (jc Oy hr (a7 (f9 o8 (jx (a8 0) d4) (jx (a8 1) d4)) (a7 (f9 o8 (jx (a8 0) d4) (jx (a8 1) d4)) a9))))),?_⟩
 walk_at "sim"
 exact⟨u4 _ _ (J5 q) (J5 r) (by omega),u4 _ _ (G6 q) (G6 r) (by omega),⟨Sw (RM.E1 q) (RM.E1 r),hg⟩,k⟩
theorem rD(T:Txt K mg)(d:Df K mg "is_ratio" cC ["thing"])(NT:Fn P w K mg base "divisor" 1 ["one","other"] N8)(NM:Fn P w K mg base "is_whole" 1 ["thing"] de):Fn P w K mg base "is_ratio" 2 ["thing"] tK:=by
 have sc:=qN
 walk_at "fn"
 obtain⟨x,rfl,k⟩:=h
 rcases k with⟨q,rfl,k⟩|⟨n,rfl,k⟩
 ·skip
  refine⟨_,(d5 (g7 (F2 (C2 (F6 (p9 (p7 (fJ T.sub) rfl T.b_isinstance A6 (a7 (a8 0) (a7 (fE rfl T.b_tuple aD) a9))))) (D8 (jtm bM (p7 J8 rfl T.b_len D4 (a7 (a8 0) a9)) d4)))) (d6 (d9 D3)) f7) (d5 (u9 (a8 0) (i9 (n:=2) rfl (d7 (jn 1 sc.nd) (d7 (jn 2 sc.nd) i0)))) (d5 (g7 (F2 (C2 (F6 (p9 (jc NM hr (a7 (a8 1) a9)))) (C2 (F6 (p9 (jc NM hr (a7 (a8 2) a9)))) (D8 (jtm cM (a8 2) d4))))) (d6 (d9 D3)) f7) (d6 (d9 (jm Y1 (jc NT hr (a7 (p7 aC rfl T.b_abs R1 (a7 (a8 1) a9)) (a7 (a8 2) a9))) d4)))))),?_⟩
  walk_at "sim"
  have h1:=q.den_pos
  have h2:q.num.natAbs.gcd q.den=1:=q.reduced
  refine⟨fun h=>absurd h (by omega),fun _=>?_⟩
  rw[h2]
  exact k
 ·skip
  refine⟨_,(d5 (g7 (F2 (C2 (F6 (p9 (p7 (fJ T.sub) rfl T.b_isinstance A6 (a7 (a8 0) (a7 (fE rfl T.b_tuple aD) a9))))) (D8 (jtm bM (p7 J8 rfl T.b_len D4 (a7 (a8 0) a9)) d4)))) (d6 (d9 D3)) f7) (d5 (u9 (a8 0) (i9 (n:=2) rfl (d7 (jn 1 sc.nd) (d7 (jn 2 sc.nd) i0)))) (d5 (g7 (F2 (C2 (F6 (p9 (jc NM hr (a7 (a8 1) a9)))) (C2 (F6 (p9 (jc NM hr (a7 (a8 2) a9)))) (D8 (jtm cM (a8 2) d4))))) (d6 (d9 D3)) f7) (d6 (d9 (jm Y1 (jc NT hr (a7 (p7 aC rfl T.b_abs R1 (a7 (a8 1) a9)) (a7 (a8 2) a9))) d4)))))),?_⟩
  walk_at "sim"
  exact k
theorem kM(T:Txt K mg)(d:Df K mg "_law_march" W1 ["t","x","further","r","rounds"]):Fn P w K mg base "_law_march" 1 ["t","x","further","r","rounds"] nS:=by
 have sc:=km
 walk_at "fn"
 obtain⟨t,x,f',r,N,rfl,⟨ht,hl,hN⟩,k⟩:=h
 have zx:=hl.x
 have zf:=hl.f
 have zr:=hl.r
 have r0:=hl.p
 have xf:=hl.xf
 have zx:sz x≤3000:=zx
 have zf:sz f'≤3000:=zf
 have zr:sz r≤3000:=zr
 have xf:sz x+sz f'≤4200:=xf
 have r0:0<r:=r0
 have rn0:=oN r0
 have rd0:=r.den_pos
 have td:=o9 t ht
 have tn:=u0 t ht
 have td':(t.den:Int).natAbs<2 ^ 231:=by rw[Rb];exact td
 have rd:=o9 r zr
 have rd':(r.den:Int).natAbs<2 ^ 3000:=by rw[Rb];exact rd
 have rn:=u0 r zr
 have xn:=u0 x zx
 have fn:=u0 f' zf
 have xd:(x.den:Int).natAbs<2 ^ 3000:=by rw[Rb];exact o9 x zx
 have fd:(f'.den:Int).natAbs<2 ^ 3000:=by rw[Rb];exact o9 f' zf
 have dn:∀{a:Int} {n:Nat},(a*(r.den:Int)).natAbs<n→a.natAbs<n:=fun{a n} h=>by
  rw[RL,Rb]at h
  exact Rv (Nat.le_mul_of_pos_right _ rd0) h
 have dW:∀{W n:Nat},(r.num*(W:Int)).natAbs<n→(W:Int).natAbs<n:=fun{W n} h=>by
  rw[RL]at h
  exact Rv (UI _ (by omega)) h
 have e1:=v8 x
 have e2:=v8 f'
 have e3:=v8 r
 have st0:kX t (x,f',r) 0 (x.num*(f'.den:Int)*(r.den:Int),f'.num*(x.den:Int)*(t.den:Int)*(r.den:Int),r.num*((x.den*f'.den:Nat):Int)):=by
  refine⟨⟨x.den*f'.den*r.den,Tz (Tz x.den_pos f'.den_pos) rd0,?_,?_,?_⟩,?_,?_,?_⟩
  ·show((x.num*(f'.den:Int)*(r.den:Int):Int):Rat)=x*((x.den*f'.den*r.den:Nat):Rat)
   rw[Rm,Rm,Rq,Rq,RK,RK,← e1];grind
  ·show((f'.num*(x.den:Int)*(t.den:Int)*(r.den:Int):Int):Rat)=f'*(((x.den*f'.den*r.den:Nat):Rat)*(t.den:Rat))
   rw[Rm,Rm,Rm,Rq,Rq,Rq,RK,RK,← e2];grind
  ·show((r.num*((x.den*f'.den:Nat):Int):Int):Rat)=r*((x.den*f'.den*r.den:Nat):Rat)
   rw[Rm,Rq,RK,RK,RK,← e3];grind
  ·exact q9 (e8 (e8 xn fd) rd') (by decide)
  ·exact q9 (e8 (e8 (e8 fn xd) td') rd') (by decide)
  ·rw[Sj];exact q9 (e8 rn (e8 xd fd)) (by decide)
 refine⟨_,(d5 (jst 5 sc.nd (f9 o8 (jx (a8 1) d4) (jx (a8 2) d4))) (d5 (jst 6 sc.nd (f9 o8 (jx (a8 1) d4) (jx (a8 2) d4))) (d5 (jst 7 sc.nd (f9 o8 (f9 o8 (jx (a8 2) d4) (jx (a8 1) d4)) (jx (a8 0) d4))) (d5 (u8 PassesOwn.never rfl (bj rfl T.b_range (a7 (a8 4) a9)) (jn 8 sc.nd) (d5 (g7 (jtm kP (f9 o8 (p7 aC rfl T.b_abs R1 (a7 (a8 6) a9)) (jx (a8 3) d4)) (f9 o8 (jx (a8 3) d4) (a8 5))) (d6 (d9 (a8 8))) f7) (d5 (oR (i:=6) (j:=7) rfl sc.nd rfl rfl (by decide) rfl rfl (a7 (a8 7) (a7 (f9 bK (f9 o8 (jx (a8 0) d4) (a8 7)) (f9 o8 (f9 o8 (jx (a8 0) d4) (jx (a8 0) d4)) (a8 6))) a9))) (d6 (jst 5 sc.nd (f9 o8 (a8 5) (jx (a8 0) d4))))))) (d6 (d9 D9)))))),?_⟩
 refine i3 fun P1 hP1=>?_
 walk_at "sim"
 refine⟨u4 _ _ xd fd (by decide),hP1 _ _ ?_⟩
 clear hP1 P1
 refine i3 fun P2 hP2=>?_
 walk_at "sim"
 refine⟨u4 _ _ xn fd (by decide),hP2 _ _ ?_⟩
 clear hP2 P2
 refine i3 fun P3 hP3=>?_
 walk_at "sim"
 refine⟨u4 _ _ fn xd (by decide),u4 _ _ (e8 fn xd) td' (by decide),hP3 _ _ ?_⟩
 clear hP3 P3
 refine i3 fun P4 hP4=>?_
 walk_at "sim"
 refine⟨⟨by omega,by omega⟩,?_⟩
 rw[SD]
 refine R4.by (fun i e M'=>M'=M∧∃(a b:Int) (W:Nat) (z:Option D),e=[some (d8 t),some (d8 x),some (d8 f'),some (d8 r),some (.int (N:Int)),some (.int (W:Int)),some (.int a),some (.int b),z]∧kX t (x,f',r) i (a*(r.den:Int),b*(r.den:Int),r.num*(W:Int))∧∀ n,n<i→¬ C5 t (x,f',r) n) ⟨rfl,_,_,_,_,by rw[Sj],st0,fun n hn=>absurd hn (by omega)⟩ (fun _ _ _ _ _=>trivial) ?_ ?_
 ·rintro i dd e M' hd ⟨rfl,a,b,W,z,rfl,hst,hno⟩
  obtain⟨hi,rfl⟩:=eM hd
  rw[show(0:Int)+(i:Int)=(i:Int)by omega]
  have ba:=dn hst.b1
  have bb:=dn hst.b2
  have bW:=dW hst.b3
  have hbe:=hst.bey
  rw[show(a*(r.den:Int)).natAbs=a.natAbs*r.den by rw[RL,Rb],Sj]at hbe
  have hnx:=hst.next ht
  refine i3 fun P5 hP5=>?_
  walk_at "sim"
  refine⟨u4 _ _ (by rw[Rb];exact ba) rd' (by omega),u4 _ _ rn bW (by omega),fun h1=>?_,fun h1=>hP5 _ _ ?_⟩
  ·rw[uh hi (hbe.mp h1) hno]at k
   exact k
  clear hP5 P5
  refine i3 fun P6 hP6=>?_
  walk_at "sim"
  refine⟨u4 _ _ tn bb (by omega),u4 _ _ td' td' (by decide),u4 _ _ (e8 td' td') ba (by omega),hP6 _ _ ?_⟩
  clear hP6 P6
  walk_at "sim"
  refine⟨u4 _ _ bW td' (by omega),_,_,W*t.den,_,by rw[Sj],?_,fun n hn=>?_⟩
  ·have e4:(t.num*(b*(r.den:Int)) - (t.den:Int)*(t.den:Int)*(a*(r.den:Int)))=(t.num*b - (t.den:Int)*(t.den:Int)*a)*(r.den:Int):=by rw[Int.sub_mul];simp only[Int.mul_assoc]
   have e5:r.num*(W:Int)*(t.den:Int)=r.num*((W*t.den:Nat):Int):=by rw[Sj,Int.mul_assoc]
   rw[← e4,← e5];exact hnx
  ·rcases Sk n i with z|z
   ·exact hno n z
   ·have:n=i:=by omega
    subst this
    exact fun z=>h1 (hbe.mpr z)
 ·rw[p5]
  rintro e M' ⟨rfl,a,b,W,z,rfl,hst,hno⟩
  refine hP4 _ _ ?_
  walk_at "sim"
  rw[jz hno]at k
  exact k
theorem bF(T:Txt K mg)(d:Df K mg "_law_entry_shown" G5 ["hall","t","x","further","r","entry"])(NI:Fn P w K mg base "plus" 3 ["one","other"] G9)(NW:Fn P w K mg base "over" 3 ["one","other"] U5)(Oz:Fn P w K mg base "times" 3 ["one","other"] gh)(NK:Fn P w K mg base "_law_beyond" 1 ["x","r"] dB)(Pb:Fn P w K mg base "is_ratio" 2 ["thing"] tK)(NX:Fn P w K mg base "less" 1 ["one","other"] eI)(NC:Fn P w K mg base "times" 3 ["one","other"] E6)(Ol:Fn P w K mg base "_law_reach" 5 ["t","x","further"] dz)(Oa:Fn P w K mg base "_law_turning" 8 ["hall","t"] gu)(Om:Fn P w K mg base "_law_march" 1 ["t","x","further","r","rounds"] nS)(NZ:Fn P w K mg base "_law_same" 7 ["hall"] dw):Fn P w K mg base "_law_entry_shown" 9 ["hall","t","x","further","r","entry"] Al:=by
 have sc:=bD
 walk_at "fn"
 obtain⟨x0,t,x,f',r,d,rfl,near,bs,far,e,rfl,rfl,⟨hw,rfl,hl,⟨zx,zf⟩,he,hsm,hLP⟩,k⟩:=h
 have cL:=hw.cd (e6 near bs far).length
 rw[RG]at cL
 have zt:sz (trQ (tbQ (e6 near bs far)))≤231:=CD.tr cL
 have cn:cl 59 (D.str (Str.ofString "nought"))=true:=by decide +kernel
 have zr:sz r≤3000:=hl.r
 have dL:=iG (e6 near bs far)
 have rz:rtN (tbQ (e6 near bs far))=0 ↔ ¬ p8 (tbQ (e6 near bs far)):=⟨fun e hs=>by
  obtain⟨n0,e1,e2,_⟩:=eJ dL hs
  rw[cF _ hs]at e1
  injection e1 with e1
  omega,gD⟩
 have rt6:rtN (tbQ (e6 near bs far))≤6:=by
  unfold rtN;repeat' split
  all_goals decide
 generalize hm:tbQ (e6 near bs far)=m at *
 refine⟨_,(d5 (g7 (jtm (C0 hu) (a8 5) (e7 (a7 j5 a9))) (d6 (d9 (G2 (jm (C0 hu) (a8 2) (e7 (a7 d4 (a7 d4 a9)))) (J6 (jm (C0 hu) (a8 3) (e7 (a7 d4 (a7 d4 a9)))))))) f7) (d5 (g7 (jtm bM (p7 J8 rfl T.b_len D4 (a7 (a8 5) a9)) d4) (d6 (d9 D3)) f7) (d5 (g7 (jtm D6 (jx (a8 5) d4) j5) (d6 (d9 (G2 (jm (C0 hu) (jx (a8 5) d4) (jc NZ hr (a7 (a8 0) a9))) (G2 (jm kP (jx (a8 5) d4) d4) (J6 (jm LA (jc Om hr (a7 (a8 1) (a7 (a8 2) (a7 (a8 3) (a7 (a8 4) (a7 (jx (a8 5) d4) a9)))))) D9)))))) f7) (d5 (g7 (jtm D6 (jx (a8 5) d4) j5) (d5 (g7 (F2 (C2 (F6 (p9 (jc Oa hr (a7 (a8 0) (a7 (a8 1) a9))))) (D8 (jtm (jt hu) (jx (a8 5) d4) (jc Ol hr (a7 (a8 1) (a7 (a8 2) (a7 (a8 3) a9)))))))) (d6 (d9 D3)) f7) (d6 (d9 (gK (jc NX hr (a7 (jc NC hr (a7 (a8 4) (a7 (a8 4) a9))) (a7 (jx (a8 5) d4) a9))))))) f7) (d5 (jst 6 sc.nd (jx (a8 5) d4)) (d5 (g7 (F2 (C2 (jtm AV (jx (a8 5) d4) j5) (C2 (F6 (p9 (jc Pb hr (a7 (a8 6) a9)))) (C2 (jtm (C0 hu) (a8 6) (e7 (a7 d4 (a7 d4 a9)))) (C2 (p9 (jc NK hr (a7 (a8 6) (a7 (e7 (a7 d4 (a7 d4 a9))) a9)))) (D8 (p9 (jc NK hr (a7 (a8 2) (a7 (a8 4) a9)))))))))) (d6 (d9 D3)) f7) (d6 (d9 (G2 (jm (C0 hu) (a8 3) (jc Oz hr (a7 (a8 6) (a7 (a8 2) a9)))) (J6 (jm (C0 hu) (jc NI hr (a7 (a8 6) (a7 (jc NW hr (a7 (e7 (a7 d4 (a7 d4 a9))) (a7 (a8 6) a9))) a9))) (a8 1)))))))))))),?_⟩
 cases e with
 | one w =>
  obtain⟨rfl,h1,h2⟩:=hLP
  have h1:x=0:=h1
  have h2:f'=0:=h2
  subst h1;subst h2
  unfold enD
  refine i3 fun P1 hP1=>?_
  clear hP1
  walk_at "sim"
  exact⟨cn,cn,k⟩
 | int w n =>
  obtain⟨rfl,hs,rfl,hb⟩:=hLP
  have rp:=tO.mp hs
  unfold enD
  refine i3 fun P1 hP1=>?_
  walk_at "sim"
  refine⟨he.1,cn,fun h=>?_,fun _=>hP1 _ _ ?_⟩
  ·injection h with h;injection h with _ h;cases h
  clear hP1 P1
  refine i3 fun P2 hP2=>?_
  walk_at "sim"
  refine⟨fun h=>absurd rfl h,fun _=>hP2 _ _ ?_⟩
  clear hP2 P2
  refine i3 fun P3 hP3=>?_
  clear hP3
  walk_at "sim"
  rw[hm]
  refine⟨hw,fun _=>⟨fun _=>⟨⟨zt,hl,by omega⟩,?_⟩,fun h=>absurd (by omega) h⟩,fun h=>absurd rfl h⟩
  rw[jz hb]
  show gIs false D.non D.non M R
  rw[bU rfl]
  walk_at "sim"
  exact k
 | rat w q =>
  have h9:=he.2
  have zrr:=RM.u5 r r
  have s1:sz (1:Rat)=1:=RM.R9
  unfold enD
  refine i3 fun P1 hP1=>?_
  walk_at "sim"
  refine⟨he.1,cn,fun h=>?_,fun _=>hP1 _ _ ?_⟩
  ·injection h with h;injection h with _ h;cases h
  clear hP1 P1
  refine i3 fun P2 hP2=>?_
  walk_at "sim"
  refine⟨fun h=>absurd rfl h,fun _=>hP2 _ _ ?_⟩
  clear hP2 P2
  rcases hLP with⟨rfl,⟨hs,h2⟩,h3,h4⟩|⟨rfl,h1,h2,h3,h4⟩
  ·obtain⟨t1,t2⟩:=J7.mp h2
   refine i3 fun P3 hP3=>?_
   walk_at "sim"
   refine hP3 _ _ ?_
   clear hP3 P3
   refine i3 fun P4 hP4=>?_
   clear hP4
   walk_at "sim"
   rw[hm]
   refine⟨⟨hw,rfl⟩,fun h=>absurd ⟨h2,rz.mpr hs⟩ h,fun _=>⟨⟨zt,zx,zf,t1,t2⟩,fun h=>absurd h3.symm h,fun _=>⟨by omega,?_⟩⟩⟩
   refine⟨r*r,q.num,(q.den:Int),rfl,⟨by have:=q.den_pos;omega,by omega,by rw[Rb];exact o9 _ (by omega),u0 _ (by omega)⟩,?_⟩
   rw[Tj]
   walk_at "sim"
   rw[decide_eq_false (show ¬ r*r<q from h4)]
   exact k
  ·have h3:q*x=f':=h3
   have q0:q≠0:=fun z=>by rw[z]at h2;grind
   have zq:sz q≤2800:=by
    by_cases hx:x=0
    ·have:=hsm hx (by rw[← h3,hx];grind)
     have:sz q≤100:=this
     omega
    ·have:=RM.G8 f' x hx
     rw[show f' / x=q by rw[← h3];grind]at this
     omega
   have d1:=RM.G8 1 q q0
   have hq:q+1 / q=trQ m:=by
    have:trQ m=(q*q+1) / q:=by rw[h2];grind
    rw[this];grind
   refine i3 fun P3 hP3=>?_
   walk_at "sim"
   refine hP3 _ _ ?_
   clear hP3 P3
   refine i3 fun P4 hP4=>?_
   walk_at "sim"
   refine hP4 _ _ ?_
   clear hP4 P4
   refine i3 fun P5 hP5=>?_
   walk_at "sim"
   refine hP5 _ _ ?_
   clear hP5 P5
   refine i3 fun P6 hP6=>?_
   walk_at "sim"
   refine .inl ⟨q,rfl,fun h=>absurd h q0,fun _=>⟨by omega,fun h=>absurd h h1,fun _=>⟨by omega,fun h=>absurd h h4,fun _=>hP6 _ _ ?_⟩⟩⟩
   clear hP6 P6
   walk_at "sim"
   refine⟨⟨by omega,Fb (by omega) (by omega)⟩,fun _=>⟨q0,by omega,by omega,?_⟩,fun h=>absurd h3.symm h⟩
   rw[decide_eq_true hq];exact k
theorem bE(T:Txt K mg)(d:Df K mg "_law_paper_shown" G4 ["hall","ray","paper"])(Oq:Fn P w K mg base "_law_entry_shown" 9 ["hall","t","x","further","r","entry"] Al)(NV:Fn P w K mg base "_law_t" 7 ["hall"] tJ)(NJ:Fn P w K mg base "_law_numbers" 7 ["hall","ray"] T5):Fn P w K mg base "_law_paper_shown" 10 ["hall","ray","paper"] nP:=by
 have sc:=bC
 walk_at "fn"
 obtain⟨x0,y,u,p,rfl,near,bs,far,es,rfl,hM,⟨⟨hw,cd⟩,hel,he,hsm⟩,k⟩:=h
 have hlen:=O4 near far bs y u
 have hN:=aA hw cd (by decide)
 have hN2:∀ l∈t9 near bs far y u,sz l.1≤1231∧sz l.2.1≤1462:=fun l hl=>by
  obtain⟨l0,h0,rfl⟩:=RP.mp hl
  exact(hw.line cd h0).2.2
 have hbl:=hw.len
 refine⟨_,(d5 (jst 3 sc.nd (jc NJ hr (a7 (a8 0) (a7 (a8 1) a9)))) (d5 (g7 (jtm bM (p7 J8 rfl T.b_len D4 (a7 (a8 2) a9)) (p7 J8 rfl T.b_len D4 (a7 (a8 3) a9))) (d6 (d9 D3)) f7) (d5 (jst 4 sc.nd (jc NV hr (a7 (a8 0) a9))) (d5 (u8 PassesOwn.never rfl (oP rfl T.b_zip (a7 (a8 2) (a7 (a8 3) a9))) (i9 (n:=2) rfl (d7 (jn 5 sc.nd) (d7 (i9 (n:=3) rfl (d7 (jn 6 sc.nd) (d7 (jn 7 sc.nd) (d7 (jn 8 sc.nd) i0)))) i0))) (d6 (g7 (F6 (p9 (jc Oq hr (a7 (a8 0) (a7 (a8 4) (a7 (a8 6) (a7 (a8 7) (a7 (a8 8) (a7 (a8 5) a9))))))))) (d6 (d9 D3)) f7))) (d6 (d9 D3)))))),?_⟩
 walk_at "sim"
 refine⟨⟨hw,cd⟩,_,_,rfl,rJ hM,?_⟩
 walk_at "sim"
 simp only[Rh]
 refine⟨fun hne=>absurd (by omega) hne,fun _=>⟨hw,_,_,_,_,rfl,.inr (.inl ⟨p,rfl,hM⟩),.inr (.inr rfl),?_⟩⟩
 generalize t9 near bs far y u=ls at *
 refine R4.by (fun i e M'=>M'=M∧∃ z5 z6 z7 z8:Option D,e=[some (D.tup [d8 near,D.vl (Td g6 bs),d8 far]),some (u3 y u),some (D.ref p),some (D.vl (Td r9 ls)),some (d8 (trQ (tbQ (e6 near bs far)))),z5,z6,z7,z8]) ⟨rfl,_,_,_,_,rfl⟩ (fun _ _ M' _ hh=>by obtain⟨rfl,_⟩:=hh;exact⟨.inr (.inl ⟨p,rfl,hM⟩),.inr (.inr rfl)⟩) ?_ ?_
 ·rintro i dd e M' hd ⟨rfl,z5,z6,z7,z8,rfl⟩
  obtain⟨e',l,rfl,hei,hli⟩:∃(e':En) (l:Rat × Rat × Rat),dd = .tup [enD e',r9 l]∧es[i]? = some e'∧ls[i]? = some l:=by
   unfold bx at hd
   rw[Su,Rj,Rj]at hd
   cases h1:es[i]? with
   | none=>rw[h1]at hd;simp at hd
   | some a =>
    cases h2:ls[i]? with
    | none=>rw[h1,h2]at hd;simp at hd
    | some b=>rw[h1,h2]at hd;exact⟨a,b,(Option.some.inj hd).symm,rfl,rfl⟩
  have hz:(ls.zip es)[i]? = some (l,e'):=by rw[Uq];exact⟨hli,hei⟩
  obtain⟨hs1,hs2⟩:=hsm _ (Rg hz)
  have hlm:=Rg hli
  walk_at "sim"
  refine⟨near,bs,far,e',rfl,rfl,⟨hw,rfl,hN l hlm,hN2 l hlm,he e' (Rg hei),hs1,hs2⟩,?_⟩
  walk_at "sim"
  exact⟨_,_,_,_,rfl⟩
 ·rintro e M' ⟨rfl,z5,z6,z7,z8,rfl⟩
  walk_at "sim"
  exact k
theorem tW(T:Txt K mg)(d:Df K mg "plus" nA ["one","other"])(Oy:Fn P w K mg base "ratio" 2 ["top","bottom"] vO):Fn P w K mg base "plus" 3 ["one","other"] tI:=by
 have sc:=vL
 walk_at "fn"
 obtain⟨q,r,rfl,⟨hz,hg⟩,k⟩:=h
 rw[RM.uC]at k
 refine⟨_,(d6 (d9 (jc Oy hr (a7 (f9 F7 (f9 o8 (jx (a8 0) d4) (jx (a8 1) d4)) (f9 o8 (jx (a8 1) d4) (jx (a8 0) d4))) (a7 (f9 o8 (jx (a8 0) d4) (jx (a8 1) d4)) a9))))),?_⟩
 walk_at "sim"
 exact⟨u4 _ _ (J5 q) (G6 r) (by omega),u4 _ _ (J5 r) (G6 q) (by omega),u4 _ _ (G6 q) (G6 r) (by omega),⟨Sw (RM.E1 q) (RM.E1 r),hg⟩,k⟩
theorem ua(T:Txt K mg)(d:Df K mg "_law_at" eG ["t","x","further","n"])(Pl:Fn P w K mg base "plus" 3 ["one","other"] tI)(Oz:Fn P w K mg base "times" 3 ["one","other"] gh)(ND:Fn P w K mg base "minus" 4 ["one","other"] E7):Fn P w K mg base "_law_at" 5 ["t","x","further","n"] Aj:=by
 have sc:=sZ
 walk_at "fn"
 obtain⟨t,x,f',n,rfl,⟨ht,zx,zf,hn⟩,k⟩:=h
 have s0:=RM.G7 0 f'
 rw[RM.F9]at s0
 refine⟨_,(d5 (g7 (jtm (C0 hu) (a8 0) (e7 (a7 (A1 d4) (a7 d4 a9)))) (d6 (jst 2 sc.nd (jc ND hr (a7 (e7 (a7 d4 (a7 d4 a9))) (a7 (a8 2) a9))))) f7) (d6 (d9 (jc Pl hr (a7 (a8 1) (a7 (jc Oz hr (a7 (e7 (a7 (a8 3) (a7 d4 a9))) (a7 (jc ND hr (a7 (a8 2) (a7 (a8 1) a9))) a9))) a9)))))),?_⟩
 walk_at "sim"
 refine⟨fun h=>⟨by rw[RM.F9];omega,by omega,?_⟩,fun h=>⟨by omega,?_⟩⟩
 ·rw[← qT (n:Int)]
  walk_at "sim"
  refine Cn hn zx (by omega) fun z=>k _ ?_ z
  rw[N9 ht,if_neg (by rw[h];decide),show(0:Rat) - f' = -f' by grind];rfl
 ·rw[← qT (n:Int)]
  walk_at "sim"
  have h2:t=2:=by
   unfold f6 at ht;split at ht
   ·exact ht
   ·exact absurd (by grind) h
  refine Cn hn zx (by omega) fun z=>k _ ?_ z
  rw[N9 ht,if_pos (by rw[h2];decide)];rfl
theorem eU(T:Txt K mg)(d:Df K mg "_law_far_stop" L9 ["hall","ray","n","k"])(NJ:Fn P w K mg base "_law_numbers" 7 ["hall","ray"] T5)(NK:Fn P w K mg base "_law_beyond" 1 ["x","r"] dB)(OX:Fn P w K mg base "_law_at" 5 ["t","x","further","n"] Aj)(NV:Fn P w K mg base "_law_t" 7 ["hall"] tJ):Fn P w K mg base "_law_far_stop" 8 ["hall","ray","n","k"] tL:=by
 have sc:=eD
 walk_at "fn"
 obtain⟨near,bs,far,y,u,n,k,rfl,⟨hw,cd,ht,hn,hfs⟩,kk⟩:=h
 have hlen:=O4 near far bs y u
 have hN:=aA hw cd (by decide)
 have hN2:∀ l∈t9 near bs far y u,sz l.1≤1231∧sz l.2.1≤1462:=fun l hl=>by
  obtain⟨l0,h0,rfl⟩:=RP.mp hl
  exact(hw.line cd h0).2.2
 have hbl:=hw.len
 have ht2:trQ (tbQ (e6 near bs far))=2∨trQ (tbQ (e6 near bs far)) = -2:=by
  unfold f6 at ht;split at ht
  ·exact .inl ht
  ·exact .inr (by grind)
 refine⟨_,(d5 (jst 4 sc.nd (jc NV hr (a7 (a8 0) a9))) (d5 (g7 (F2 (C2 (jtm (js hu) (a8 4) (p6 (a7 (e7 (a7 d4 (a7 d4 a9))) (a7 (e7 (a7 (A1 d4) (a7 d4 a9))) a9)))) (D8 (jtm cM (a8 2) d4)))) (d6 (d9 D3)) f7) (d5 (u8 PassesOwn.never rfl (Q8 rfl T.b_enumerate (a7 (jc NJ hr (a7 (a8 0) (a7 (a8 1) a9))) a9)) (i9 (n:=2) rfl (d7 (jn 5 sc.nd) (d7 (i9 (n:=3) rfl (d7 (jn 6 sc.nd) (d7 (jn 7 sc.nd) (d7 (jn 8 sc.nd) i0)))) i0))) (d5 (g7 (F2 (C2 (p9 (jc NK hr (a7 (a8 6) (a7 (a8 8) a9)))) (D8 (p9 (jc NK hr (a7 (jc OX hr (a7 (a8 4) (a7 (a8 6) (a7 (a8 7) (a7 (f9 bK (a8 2) d4) a9))))) (a7 (a8 8) a9))))))) (d6 (d9 D3)) f7) (d5 (jst 9 sc.nd (jc NK hr (a7 (jc OX hr (a7 (a8 4) (a7 (a8 6) (a7 (a8 7) (a7 (a8 2) a9))))) (a7 (a8 8) a9)))) (d6 (g7 (F2 (C2 (F2 (jG (jtm cM (a8 5) (a8 3)) (dP (p9 (a8 9))))) (D8 (F2 (jG (jtm (C0 hu) (a8 5) (a8 3)) (dP (F6 (p9 (a8 9))))))))) (d6 (d9 D3)) f7))))) (d6 (d9 D3))))),?_⟩
 walk_at "sim"
 refine⟨hw,fun h=>?_,fun _=>⟨fun h=>by omega,fun _=>⟨⟨hw,cd⟩,?_⟩⟩⟩
 ·refine absurd ?_ (@of_decide_eq_false _ (RJ _) h)
  rcases ht2 with e|e<;>rw[e]<;>simp
 obtain⟨f1,f2,f3,_⟩:=hfs
 have f1:y8 (trQ (tbQ (e6 near bs far))) (t9 near bs far y u) k n=true:=f1
 have f2:∀ n',n'<n→∀ k',y8 (trQ (tbQ (e6 near bs far))) (t9 near bs far y u) k' n'=false:=f2
 have f3:∀ k',k'<k→y8 (trQ (tbQ (e6 near bs far))) (t9 near bs far y u) k' n=false:=f3
 have nb:n<2 ^ 9000:=by
  obtain⟨l,hl,hb⟩:=E9.mp f1
  have hm:=Rg hl
  exact LX ht (by omega) (F0.mp (f2 (n - 1) (by omega) k) l hl) hb (hN2 l hm).1 (hN2 l hm).2 (hN l hm).r
 generalize t9 near bs far y u=ls at *
 generalize trQ (tbQ (e6 near bs far))=t at *
 rw[gM]
 refine R4.by (fun i e M'=>M'=M∧∃ z5 z6 z7 z8 z9:Option D,e=[some (D.tup [d8 near,D.vl (Td g6 bs),d8 far]),some (u3 y u),some (.int (n:Int)),some (.int (k:Int)),some (d8 t),z5,z6,z7,z8,z9]) ⟨rfl,_,_,_,_,_,rfl⟩ (fun _ _ _ _ _=>by simp only[j9]) ?_ ?_
 ·rintro i dd e M' hd ⟨rfl,z5,z6,z7,z8,z9,rfl⟩
  rw[Rj]at hd
  obtain⟨zz,hz,rfl⟩:=Ru.mp hd
  obtain⟨l,rfl,hli⟩:∃ l,zz=(l,i)∧ls[i]? = some l:=by
   rw[SW]at hz
   obtain⟨l,hl1,e5⟩:=Ru.mp hz
   exact⟨l,by rw[← e5];simp,hl1⟩
  have hm:=Rg hli
  obtain⟨zx,zf⟩:=hN2 l hm
  have zr:=(hN l hm).r
  have e1:(n:Int) - 1=((n - 1:Nat):Int):=by omega
  have b0:¬ l.2.2<f6 l.1:=F0.mp (f2 0 (by omega) i) l hli
  have b1:¬ l.2.2<f6 (stQ t (l.1,l.2.1) (n - 1)).1:=F0.mp (f2 (n - 1) (by omega) i) l hli
  refine Mv fun P1 hP1=>?_
  walk_at "sim"
  refine hP1 _ _ ?_
  clear hP1 P1
  refine i3 fun P2 hP2=>?_
  walk_at "sim"
  rw[e1]
  walk_at "sim"
  refine⟨by omega,fun h=>absurd h b0,fun _=>⟨⟨ht,zx,zf,Rv (Nat.sub_le _ _) nb⟩,fun v ev zv=>⟨by omega,fun h=>absurd h (by rw[ev];exact b1),fun _=>hP2 _ _ ?_⟩⟩⟩
  clear hP2 P2
  refine i3 fun P3 hP3=>?_
  walk_at "sim"
  refine⟨⟨ht,zx,zf,nb⟩,fun w ew zw=>⟨by omega,hP3 _ _ ?_⟩⟩
  clear hP3 P3
  walk_at "sim"
  refine⟨fun hi=>⟨fun h=>?_,fun _=>⟨fun h=>?_,fun _=>⟨_,_,_,_,_,rfl⟩⟩⟩,fun hi=>⟨fun h=>⟨fun h2=>?_,fun _=>⟨_,_,_,_,_,rfl⟩⟩,fun _=>⟨_,_,_,_,_,rfl⟩⟩⟩
  ·rw[ew]at h
   exact absurd h (F0.mp (f3 i (by omega)) l hli)
  ·omega
  ·have:i=k:=by omega
   subst this
   obtain⟨l2,hl2,hb⟩:=E9.mp f1
   rw[hli]at hl2
   obtain rfl:=Option.some.inj hl2
   rw[ew]at h2
   exact absurd hb h2
 ·rintro e M' ⟨rfl,z5,z6,z7,z8,z9,rfl⟩
  walk_at "sim"
  exact kk
theorem cK(T:Txt K mg)(d:Df K mg "_law_first_stop" J3 ["hall","ray","rounds"])(NJ:Fn P w K mg base "_law_numbers" 7 ["hall","ray"] T5)(Om:Fn P w K mg base "_law_march" 1 ["t","x","further","r","rounds"] nS)(NV:Fn P w K mg base "_law_t" 7 ["hall"] tJ):Fn P w K mg base "_law_first_stop" 8 ["hall","ray","rounds"] iY:=by
 have sc:=cg
 walk_at "fn"
 obtain⟨near,bs,far,y,u,N,rfl,⟨hw,cd,hN⟩,k0,k⟩:=h
 have cL:=hw.cd (e6 near bs far).length
 rw[RG]at cL
 have zt:sz (trQ (tbQ (e6 near bs far)))≤231:=CD.tr cL
 have hok:=aA hw cd (by decide)
 have hlen:=O4 near far bs y u
 have hbl:=hw.len
 refine⟨_,(d5 (jst 3 sc.nd (jc NV hr (a7 (a8 0) a9))) (d5 (jst 4 sc.nd (ay a9)) (d5 (u8 PassesOwn.never rfl (Q8 rfl T.b_enumerate (a7 (jc NJ hr (a7 (a8 0) (a7 (a8 1) a9))) a9)) (i9 (n:=2) rfl (d7 (jn 5 sc.nd) (d7 (i9 (n:=3) rfl (d7 (jn 6 sc.nd) (d7 (jn 7 sc.nd) (d7 (jn 8 sc.nd) i0)))) i0))) (d5 (jst 9 sc.nd (jc Om hr (a7 (a8 3) (a7 (a8 6) (a7 (a8 7) (a7 (a8 8) (a7 (a8 2) a9))))))) (d6 (g7 (jtm dJ (a8 9) D9) (d6 (C1 (T7 PySem.F.slot_list_append PySem.F.type_list_append C4 (a8 4) (a7 (e7 (a7 (a8 9) (a7 (a8 5) a9))) a9)))) f7)))) (d6 (d9 (R0 (wg hu rfl rfl T.b_min Ci (a7 (Q9 (a8 4)) a9)))))))),?_⟩
 refine i3 fun P1 hP1=>?_
 walk_at "sim"
 refine⟨hw,hP1 _ _ ?_⟩
 clear hP1 P1
 refine i3 fun P2 hP2=>?_
 walk_at "sim"
 refine fun p hp=>hP2 _ _ ?_
 clear hP2 P2
 refine i3 fun P3 hP3=>?_
 walk_at "sim"
 refine⟨⟨hw,cd⟩,?_⟩
 generalize t9 near bs far y u=ls at *
 generalize trQ (tbQ (e6 near bs far))=t at *
 rw[gM]
 refine R4.by (fun i e M'=>∃(ps:List (Int × Int)) (z5 z6 z7 z8 z9:Option D),e=[some (D.tup [d8 near,D.vl (Td g6 bs),d8 far]),some (u3 y u),some (.int (N:Int)),some (d8 t),some (.ref p),z5,z6,z7,z8,z9]∧M'=B2 M p (.lst (ps.map eO))∧ps.length≤i∧(∀ q∈ps,∃(n j:Nat) (l:Rat × Rat × Rat),q=((n:Int),(j:Int))∧j<i∧n<N∧ls[j]? = some l∧C5 t l n∧∀ n',n'<n→¬ C5 t l n')∧∀(j:Nat) l,j<i→ls[j]? = some l→(∃ n,n<N∧C5 t l n)→∃ n:Nat,((n:Int),(j:Int))∈ps) ⟨[],_,_,_,_,_,rfl,rfl,Rx _,(fun q h=>by cases h),fun j l h=>absurd h (by omega)⟩ (fun _ _ _ _ _=>by simp only[j9]) ?_ ?_
 ·rintro i dd e M' hd ⟨ps,z5,z6,z7,z8,z9,rfl,rfl,hpl,h1,h2⟩
  rw[Rj]at hd
  obtain⟨zz,hz,rfl⟩:=Ru.mp hd
  obtain⟨l,rfl,hli⟩:∃ l,zz=(l,i)∧ls[i]? = some l:=by
   rw[SW]at hz
   obtain⟨l,hl1,e5⟩:=Ru.mp hz
   exact⟨l,by rw[← e5];simp,hl1⟩
  have ok:=hok l (Rg hli)
  have hi:=(Rc.mp hli).1
  refine Mv fun P4 hP4=>?_
  walk_at "sim"
  refine hP4 _ _ ?_
  clear hP4 P4
  refine i3 fun P5 hP5=>?_
  walk_at "sim"
  refine⟨⟨zt,ok,hN⟩,hP5 _ _ ?_⟩
  clear hP5 P5
  cases em:S9 t (l.1,l.2.1,l.2.2) N with
  | none =>
   have em:S9 t l N=none:=em
   unfold IC
   walk_at "sim"
   rw[bU rfl]
   walk_at "sim"
   refine⟨ps,_,_,_,_,_,rfl,rfl,by omega,fun q hq=>?_,fun j l2 hj hl2 hex=>?_⟩
   ·obtain⟨n,j,l2,a1,a2,a3⟩:=h1 q hq
    exact⟨n,j,l2,a1,by omega,a3⟩
   ·rcases Sk j i with z|z
    ·exact h2 j l2 z hl2 hex
    ·have:j=i:=by omega
     subst this
     rw[hli]at hl2
     obtain rfl:=Option.some.inj hl2
     obtain⟨n,hn,hb⟩:=hex
     unfold S9 at em
     exact absurd (decide_eq_true hb) (Tn.mp em n (Sq.mpr hn))
  | some n0 =>
   have em:S9 t l N=some n0:=em
   unfold S9 at em
   obtain⟨b1,b2,b3⟩:=Tb.mp em
   unfold IC
   walk_at "sim"
   rw[bU rfl]
   walk_at "sim"
   refine K6 g9 (R5 g9 (by rw[Rh];omega) ⟨ps++[((n0:Int),(i:Int))],_,_,_,_,_,rfl,?_,by rw[RD];show _+1≤_;omega,fun q hq=>?_,fun j l2 hj hl2 hex=>?_⟩)
   ·rw[Y9,RB];rfl
   ·rcases RI.mp hq with hq|hq
    ·obtain⟨n,j,l2,a1,a2,a3⟩:=h1 q hq
     exact⟨n,j,l2,a1,by omega,a3⟩
    ·rw[Ry.mp hq]
     exact⟨n0,i,l,rfl,by omega,Sq.mp b2,hli,of_decide_eq_true b1,fun n' hn' hb=>by have:=b3 n' hn';rw[decide_eq_true hb]at this;cases this⟩
   ·rcases Sk j i with z|z
    ·obtain⟨n,hn⟩:=h2 j l2 z hl2 hex
     exact⟨n,TZ _ hn⟩
    ·have:j=i:=by omega
     subst this
     exact⟨n0,RN _ (Ry.mpr rfl)⟩
 ·rw[Rh,RO]
  rintro e M' ⟨ps,z5,z6,z7,z8,z9,rfl,rfl,hpl,h1,h2⟩
  have all:∀{j n:Nat},n<N→y8 t ls j n=true→∃ m:Nat,((m:Int),(j:Int))∈ps∧m≤n:=fun{j n} hn hb=>by
   obtain⟨l,hl,hbl⟩:=E9.mp hb
   obtain⟨m,hm⟩:=h2 j l (Rc.mp hl).1 hl ⟨n,hn,hbl⟩
   obtain⟨n2,j2,l2,e2,_,_,hl2,_,hno⟩:=h1 _ hm
   have e3:(m:Int)=n2:=congrArg Prod.fst e2
   have e4:(j:Int)=j2:=congrArg Prod.snd e2
   have:j2=j:=by omega
   subst this
   rw[hl]at hl2
   obtain rfl:=Option.some.inj hl2
   refine⟨m,hm,?_⟩
   rcases Sk n m with z|z
   ·exact absurd hbl (hno n (by omega))
   ·exact z
  refine hP3 _ _ ?_
  clear hP3 P3
  walk_at "sim"
  rw[bV g9,L5 hp]
  walk_at "sim"
  refine yZ.mpr ⟨fun z=>M9 (M2:=M) (fun _ _ h=>h) (k0 fun n j hn=>?_),fun q hq hm=>M9 (M2:=M) (fun _ _ h=>h) ?_⟩
  ·cases e5:y8 t ls j n with
   | false=>rfl
   | true =>
    obtain⟨m,hm,_⟩:=all hn e5
    rw[z]at hm;cases hm
  ·obtain⟨n,j,l,rfl,_,hn,hl,hb,hno⟩:=h1 q hq
   refine k n j hn (E9.mpr ⟨l,hl,hb⟩) (fun n' hn' j'=>?_) (fun j' hj'=>?_)
   ·cases e5:y8 t ls j' n' with
    | false=>rfl
    | true =>
     obtain⟨m,hm5,hle⟩:=all (by omega) e5
     have:=hm _ hm5
     omega
   ·cases e5:y8 t ls j' n with
    | false=>rfl
    | true =>
     obtain⟨m,hm5,hle⟩:=all hn e5
     have:=hm _ hm5
     omega
theorem kI(T:Txt K mg)(d:Df K mg "_law_right" V7 ["hall","ray","told"])(Ou:Fn P w K mg base "_law_late_shown" 9 ["hall","ray","k"] nU)(NV:Fn P w K mg base "_law_t" 7 ["hall"] tJ)(Ot:Fn P w K mg base "_law_paper_shown" 10 ["hall","ray","paper"] nP)(OD:Fn P w K mg base "_law_far_stop" 8 ["hall","ray","n","k"] tL)(Oj:Fn P w K mg base "_law_lines" 6 ["hall"] dA)(Ov:Fn P w K mg base "_law_first_stop" 8 ["hall","ray","rounds"] iY):Fn P w K mg base "_law_right" 11 ["hall","ray","told"] tF:=by
 have sc:=kf
 walk_at "fn"
 obtain⟨x0,y,u,d,rfl,near,bs,far,r,rfl,⟨hw,cd,he,ha⟩,k⟩:=h
 have cL:=hw.cd (e6 near bs far).length
 rw[RG]at cL
 have zt:sz (trQ (tbQ (e6 near bs far)))≤231:=CD.tr cL
 have dL:=iG (e6 near bs far)
 have hbl:=hw.len
 have hN:=aA hw cd (by decide)
 have hF:=jH (near:=near) (far:=far) (bs:=bs) (y:=y) (u:=u)
 have hNl:=O4 near far bs y u
 have hT:∀ z∈g8 near bs far,cl 59 z.1=true∧cl 59 z.2.1=true:=fun z hz=>dR hz 58
 have hWl:(A8 (g8 near bs far) (g8 near bs far).length).length=(t9 near bs far y u).length:=by
  rw[K7,G3,C3];unfold t9;rw[Rh]
 have hmet:∀ j l,(t9 near bs far y u)[j]? = some l→∃(w0:D × D) (l0:Rat × Rat × Rat),(hlN (g8 near bs far) (g8 near bs far).length)[j]? = some (hlD w0 l0)∧(A8 (g8 near bs far) (g8 near bs far).length)[j]? = some w0∧(A8 (g8 near bs far) (g8 near bs far).length).getD j (.non,.non)=w0:=fun j l hj=>by
  unfold t9 at hj
  rw[Rj]at hj
  obtain⟨l0,hl0,rfl⟩:=Ru.mp hj
  have h1:(B3 ((g8 near bs far).map fun z=>z.2.2) (g8 near bs far).length)[j]? = some l0:=by rw[G3,C3];exact hl0
  have hj2:=(Rc.mp h1).1
  rw[← K7]at hj2
  refine⟨(A8 (g8 near bs far) (g8 near bs far).length)[j],l0,?_,Rr hj2,?_⟩
  ·unfold hlN
   rw[Su,h1,Rr hj2]
  ·rw[Sf,Rr hj2];rfl
 have wcl:∀ w∈A8 (g8 near bs far) (g8 near bs far).length,∀ k,cl (k+1) w.1=true∧cl (k+1) w.2=true:=fun w hm k=>by
  rw[cZ _ _ (Rx _)]at hm
  obtain⟨z,hz,rfl⟩:=RP.mp hm
  exact dR (Rg (K9.mp (show(z.1,z.2)∈_ from hz)).1) k
 have noB:∀{j n:Nat},FS (tbQ (e6 near bs far)) (t9 near bs far y u) none→n<60→y8 (trQ (tbQ (e6 near bs far))) (t9 near bs far y u) j n=true→False:=fun{j n} hf hn hb=>by
  have z:=hf n j (.inr hn)
  rw[hb]at z;cases z
 refine⟨_,(d5 (jst 3 sc.nd (jc Ov hr (a7 (a8 0) (a7 (a8 1) (a7 d4 a9))))) (d5 (jst 4 sc.nd (jc Oj hr (a7 (a8 0) a9))) (d5 (g7 (F2 (C2 (F6 (p9 (p7 (fJ T.sub) rfl T.b_isinstance A6 (a7 (a8 2) (a7 (fE rfl T.b_tuple aD) a9))))) (D8 (jtm cM (p7 J8 rfl T.b_len D4 (a7 (a8 2) a9)) d4)))) (d6 (d9 D3)) f7) (d5 (g7 (jtm dJ (a8 3) D9) (d6 (d9 (jm (C0 hu) (a8 2) (f9 IK (e7 (a7 j5 (a7 (jx (a8 3) d4) a9))) (O3 (jx (a8 4) (jx (a8 3) d4)) O2 (O1 d4)))))) f7) (d5 (g7 (jtm D6 (jx (a8 2) d4) j5) (d5 (C7 (i:=5) [] ["line"] [] sc.nd rfl (Or.inl rfl) rfl (by decide +kernel) rfl (by decide +kernel) (by decide +kernel) rfl bI bI (A5 (a8 4)) (fun _ _ _ _ _ _=>(jn 0 (show(["line"]:List Str).Nodup by decide +kernel))) (fun _ _ _ _ _ _=>A3) (fun _ _ _ _ _ _=>(O3 (a8 0) O2 (O1 d4)))) (d5 (g7 (F2 (C2 (jtm bM (p7 J8 rfl T.b_len D4 (a7 (a8 2) a9)) d4) (C2 (p9 (p7 (fJ T.sub) rfl T.b_isinstance A6 (a7 (jx (a8 2) d4) (a7 (fE rfl T.b_bool pj) a9)))) (D8 (jtm (js hu) (O3 (a8 2) (O1 d4) O2) (a8 5)))))) (d6 (d9 D3)) f7) (d6 (d9 (jc OD hr (a7 (a8 0) (a7 (a8 1) (a7 (jx (a8 2) d4) (a7 (IZ PySem.F.slot_list_index PySem.F.type_list_index (BK hu) (a8 5) (a7 (O3 (a8 2) (O1 d4) O2) a9)) a9))))))))) f7) (d5 (g7 (jtm bM (p7 J8 rfl T.b_len D4 (a7 (a8 2) a9)) d4) (d6 (d9 D3)) f7) (d5 (g7 (jtm D6 (jx (a8 2) d4) j5) (d6 (d9 (G2 (p7 (fJ T.sub) rfl T.b_isinstance A6 (a7 (jx (a8 2) d4) (a7 (fE rfl T.b_list R7) a9))) (J6 (jc Ot hr (a7 (a8 0) (a7 (a8 1) (a7 (jx (a8 2) d4) a9)))))))) f7) (d5 (g7 (F2 (C2 (jtm AV (jx (a8 2) d4) j5) (C2 (p9 (p7 (fJ T.sub) rfl T.b_isinstance A6 (a7 (jx (a8 2) d4) (a7 (fE rfl T.b_bool pj) a9)))) (D8 (IY rfl T.b_range (jx (a8 2) d4) (a7 (p7 J8 rfl T.b_len D4 (a7 (a8 4) a9)) a9)))))) (d6 (d9 D3)) f7) (d6 (d9 (G2 (jm (js hu) (jc NV hr (a7 (a8 0) a9)) (p6 (a7 (e7 (a7 d4 (a7 d4 a9))) (a7 (e7 (a7 (A1 d4) (a7 d4 a9))) a9)))) (J6 (jc Ou hr (a7 (a8 0) (a7 (a8 1) (a7 (jx (a8 2) d4) a9)))))))))))))))),?_⟩
 refine i3 fun P1 hP1=>?_
 walk_at "sim"
 refine⟨near,bs,far,y,u,60,rfl,⟨hw,cd,by decide⟩,fun hno=>hP1 _ _ ?_,fun n' j' hn hb h1 h2=>hP1 _ _ ?_⟩
 ·clear hP1 P1
  refine i3 fun P2 hP2=>?_
  walk_at "sim"
  refine⟨hw,hP2 _ _ ?_⟩
  clear hP2 P2
  cases r with
  | stopped n j =>
   have hfs:FS (tbQ (e6 near bs far)) (t9 near bs far y u) (some (n,j)):=he
   obtain⟨l,hl5,_⟩:=E9.mp (show y8 _ _ j n=true from hfs.1)
   obtain⟨w0,l0,e1,e0,e2⟩:=hmet j l hl5
   have hd:d = .tup [.str (Str.ofString "stopped"),.int (n:Int),w0.1,w0.2]:=by rw[← e2];exact ha
   subst hd
   have h60:60≤n:=by
    rcases Sk n 60 with z|z
    ·have:=hno n j z
     rw[show y8 _ _ j n=true from hfs.1]at this;cases this
    ·exact z
   have ht:f6 (trQ (tbQ (e6 near bs far)))=2:=by
    rcases hfs.2.2.2 with(z|z)|z
    ·have:=xt dL z hF hfs;omega
    ·exact z
    ·exact absurd (show n<60 from z) (by omega)
   refine i3 fun P3 hP3=>?_
   walk_at "sim"
   refine⟨fun h=>absurd h (by decide),fun _=>hP3 _ _ ?_⟩
   clear hP3 P3
   refine i3 fun P4 hP4=>?_
   walk_at "sim"
   rw[bU rfl,cX]
   refine⟨fun h=>(by cases h),fun _=>hP4 _ _ ?_⟩
   clear hP4 P4
   refine i3 fun P5 hP5=>?_
   clear hP5
   walk_at "sim"
   have hwl:(A8 (g8 near bs far) (g8 near bs far).length).length≤40:=by rw[hWl];omega
   have inj:∀ i,(A8 (g8 near bs far) (g8 near bs far).length)[i]? = some w0→i=j:=fun i hi=>zW hi e0
   rw[oV]
   refine A7 (fun z=>qp z.1) (by rw[UU];omega) (by simp only[j9]) (fun z hz Q hQ=>?_) ?_
   ·unfold hlD
    walk_at "sim"
    exact⟨by decide,hQ⟩
   rw[ym]
   have cw:∀ w∈A8 (g8 near bs far) (g8 near bs far).length,cl 59 (qp w)=true:=fun w hm=>by
    obtain⟨c1,c2⟩:=wcl w hm 57
    show(cl 58 w.1 && (cl 58 w.2 && true))=true
    rw[c1,c2];rfl
   have cW:clL 59 ((A8 (g8 near bs far) (g8 near bs far).length).map qp)=true:=Cb fun x hx=>by
    obtain⟨w,hm,rfl⟩:=RP.mp hx
    exact cw w hm
   have c6:cl 60 (D.tup [w0.1,w0.2])=true:=by
    obtain⟨c1,c2⟩:=wcl w0 (Rg e0) 58
    show(cl 59 w0.1 && (cl 59 w0.2 && true))=true
    rw[c1,c2];rfl
   refine⟨fun h=>absurd rfl h,fun _=>⟨by decide,?_⟩⟩
   rw[show DL.Y5 [D.str (Str.ofString "stopped"),D.int (n:Int),w0.1,w0.2] (some 2) none=[w0.1,w0.2]from rfl,sI]
   refine⟨c6,cW,?_⟩
   rw[@decide_eq_true _ (RJ _) (show D.tup [w0.1,w0.2]∈(A8 (g8 near bs far) (g8 near bs far).length).map qp from RP.mpr ⟨w0,Rg e0,rfl⟩)]
   rw[show(true ^^ true)=false from rfl,cX]
   refine⟨fun h=>(by cases h),fun _=>?_⟩
   rw[KH]
   generalize A8 (g8 near bs far) (g8 near bs far).length=WS at *
   walk_at "sim"
   rw[show DL.Y5 [D.str (Str.ofString "stopped"),D.int (n:Int),w0.1,w0.2] (some 2) none=[w0.1,w0.2]from rfl]
   refine⟨⟨_,rfl⟩,by decide,_,_,j,rfl,rfl,⟨c6,cW,by rw[Rh];omega,by rw[Rj,e0];rfl,fun i hi hi2=>?_⟩,?_⟩
   ·rw[Rj]at hi2
    obtain⟨w,hw5,ew⟩:=Ru.mp hi2
    have ew:D.tup [w.1,w.2]=D.tup [w0.1,w0.2]:=ew
    have:w=w0:=by
     injection ew with ew
     injection ew with a1 a2
     injection a2 with a2 _
     exact Prod.ext a1 a2
    rw[this]at hw5
    have:=inj i hw5
    omega
   walk_at "sim"
   exact⟨⟨hw,cd,ht,h60,hfs⟩,k⟩
  | late j =>
   obtain⟨hfs,hh⟩:=he
   have hd:d = .tup [.str (Str.ofString "late"),.int (j:Int)]:=ha
   subst hd
   refine i3 fun P3 hP3=>?_
   walk_at "sim"
   refine⟨fun h=>absurd h (by decide),fun _=>hP3 _ _ ?_⟩
   clear hP3 P3
   refine i3 fun P4 hP4=>?_
   walk_at "sim"
   rw[bU rfl,cX]
   refine⟨fun h=>(by cases h),fun _=>hP4 _ _ ?_⟩
   clear hP4 P4
   refine i3 fun P5 hP5=>?_
   walk_at "sim"
   refine hP5 _ _ ?_
   clear hP5 P5
   refine i3 fun P6 hP6=>?_
   walk_at "sim"
   refine⟨fun h=>absurd rfl h,fun _=>hP6 _ _ ?_⟩
   clear hP6 P6
   walk_at "sim"
   rw[MD]
   obtain⟨l,hl,hla⟩:=Q6.mp (List.mem_of_head? hh)
   obtain⟨w0,l1,e1,_,_⟩:=hmet j l hl
   have jl:=(Rc.mp e1).1
   have hl':=hl
   unfold t9 at hl'
   rw[Rj]at hl'
   obtain⟨l0,hl0,el⟩:=Ru.mp hl'
   walk_at "sim"
   refine⟨_,rfl,_,rfl,fun h=>absurd ⟨by omega,by omega⟩ h,fun _=>⟨hw,fun _=>⟨⟨hw,cd⟩,l0,hl0,?_⟩,fun h=>?_⟩⟩
   ·have:u7 (tbQ (e6 near bs far)) (l0.1*y+l0.2.1*u) (l0.1*(h8 (e6 near bs far) (y,u)).1+l0.2.1*(h8 (e6 near bs far) (y,u)).2) l0.2.2=true:=by
     rw[← el]at hla;exact hla
    rw[this];exact k
   ·exfalso
    have h:=@of_decide_eq_true _ (RJ _) h
    have ht:f6 (trQ (tbQ (e6 near bs far)))=2:=by
     rcases RC.mp h with h|h
     ·rw[A9 h];decide +kernel
     ·rw[A9 (Ry.mp h)];decide +kernel
    have hs:¬ p8 (tbQ (e6 near bs far)):=fun z=>by rw[mG z]at hla;cases hla
    have hsw:swQ (trQ (tbQ (e6 near bs far))) l.1 l.2.1≠0:=fun z=>by
     unfold u7 at hla
     rw[if_neg hs,if_neg (by rw[ht];decide),if_neg (fun w=>w z),if_pos ht]at hla
     cases hla
    obtain⟨n,hn⟩:=zZ (r:=l.2.2) ht hsw
    have:=hfs n j (.inl (.inr ht))
    rw[E9.mpr ⟨l,hl,hn⟩]at this
    cases this
  | never =>
   have hg:=(xG (Jn he)).mp rfl
   obtain⟨hfs,hh⟩:=he
   obtain⟨p,hd,hM⟩:=ha
   subst hd
   have hpos:∀ l∈t9 near bs far y u,0<l.2.2:=fun l hl=>(hN l hl).p
   have epE:(t9 near bs far y u).map (F3 (tbQ (e6 near bs far)))=(t9 near bs far y u).map (pE (tbQ (e6 near bs far))):=Vi fun l hl=>zY (hg l hl)
   rw[epE]at hM
   refine i3 fun P3 hP3=>?_
   walk_at "sim"
   refine⟨fun h=>absurd h (by decide),fun _=>hP3 _ _ ?_⟩
   clear hP3 P3
   refine i3 fun P4 hP4=>?_
   walk_at "sim"
   rw[bU rfl,cX]
   refine⟨fun h=>(by cases h),fun _=>hP4 _ _ ?_⟩
   clear hP4 P4
   refine i3 fun P5 hP5=>?_
   walk_at "sim"
   refine hP5 _ _ ?_
   clear hP5 P5
   refine i3 fun P6 hP6=>?_
   walk_at "sim"
   refine⟨fun h=>absurd rfl h,fun _=>hP6 _ _ ?_⟩
   clear hP6 P6
   refine i3 fun P7 hP7=>?_
   clear hP7
   walk_at "sim"
   rw[y4 (DF hM) rfl,cX]
   refine⟨fun _=>⟨near,bs,far,_,rfl,hM,⟨⟨hw,cd⟩,by rw[Rh],fun e he=>?_,fun z hz=>?_⟩,k⟩,fun h=>by cases h⟩
   ·obtain⟨l,hl,rfl⟩:=RP.mp he
    obtain⟨l0,h0,rfl⟩:=RP.mp hl
    have hz:=(hw.line cd h0).2.2
    exact Lv zt hz.1 hz.2
   ·obtain⟨i,hi⟩:=Sa hz
    obtain⟨i1,i2⟩:=Uq.mp hi
    rw[Rj,i1]at i2
    have i2:pE (tbQ (e6 near bs far)) z.1=z.2:=Option.some.inj i2
    have zm:=Rg i1
    rw[← i2]
    refine⟨fun z1 z2=>?_,(xO dL (hpos _ zm) (hF _ zm)).mpr (hg _ zm)⟩
    unfold pE
    rw[if_pos ⟨z1,z2⟩]
    exact trivial
 ·clear hP1 P1
  have hr:r = .stopped n' j':=by
   have hfs:FS (tbQ (e6 near bs far)) (t9 near bs far y u) (some (n',j')):=⟨hb,h1,h2,.inr hn⟩
   cases r with
   | stopped n j =>
    have e:=Option.some.inj (FS.uniq (show FS _ _ (some (n,j))from he) hfs)
    rw[show n=n' from congrArg Prod.fst e,show j=j' from congrArg Prod.snd e]
   | late k'=>exact(noB he.1 hn hb).elim
   | never=>exact(noB he.1 hn hb).elim
  subst hr
  obtain⟨l,hl5,_⟩:=E9.mp hb
  obtain⟨w0,l0,e1,e0,e2⟩:=hmet j' l hl5
  have hd:d = .tup [.str (Str.ofString "stopped"),.int (n':Int),w0.1,w0.2]:=by rw[← e2];exact ha
  have c5:cl 60 d=true:=by rw[show d=evD _ _ _ (.stopped n' j')from ha];exact BF hT (Jn he)
  subst hd
  refine i3 fun P2 hP2=>?_
  walk_at "sim"
  refine⟨hw,hP2 _ _ ?_⟩
  clear hP2 P2
  refine i3 fun P3 hP3=>?_
  walk_at "sim"
  refine⟨fun h=>absurd h (by decide),fun _=>hP3 _ _ ?_⟩
  clear hP3 P3
  refine i3 fun P4 hP4=>?_
  clear hP4
  walk_at "sim"
  rw[bU rfl,cX]
  refine⟨fun _=>?_,fun h=>(by cases h)⟩
  walk_at "sim"
  refine⟨_,w6 (n:=j') e1,?_⟩
  unfold hlD
  walk_at "sim"
  rw[show DL.Y5 [w0.1,w0.2,r9 l0] none (some 2)=[w0.1,w0.2]from rfl]
  refine⟨by decide,[_,_],[_,_],rfl,rfl,(by simp),(by simp),by show 2+2≤sizeLine;decide,?_,c5,?_⟩
  ·obtain⟨c1,c2⟩:=wcl w0 (Rg e0) 58
   rw[c1,c2];decide +kernel
  rw[@decide_eq_true _ (RJ _) (show D.tup [.str (Str.ofString "stopped"),.int (n':Int),w0.1,w0.2]=D.tup ([.str (Str.ofString "stopped"),.int (n':Int)]++[w0.1,w0.2])from rfl)];exact k
theorem oK(T:Txt K mg)(d:Df K mg "_law_next" ai ["pool","base"]):Fn P w K mg base "_law_next" 1 ["pool","base"] S1:=by
 have sc:=nt
 refine i8 d sc (fun ds M R Y h=>?_) (fun f cdv A outer s H E ds M R Y hr h=>?_)
 ·obtain⟨p,b,rfl,_⟩:=h;rfl
 ·obtain⟨p,b,rfl,⟨x,y,z,hM⟩,hb,hl,k⟩:=h
  refine⟨_,(d5 (g7 (jtm kP (jx (a8 0) d4) d4) (d5 (jst 2 sc.nd (f9 ju (jx (a8 0) d4) (a8 1))) (d5 (u9 (f9 F4 (jx (a8 0) d4) (a8 1)) (we (a8 0) d4)) (d6 (d9 (a8 2))))) f7) (d5 (u9 (f9 F7 (jx (a8 0) d4) d4) (we (a8 0) d4)) (d5 (jst 3 sc.nd (f9 ju (f9 F7 (jx (a8 0) d4) (f9 o8 d4 (jx (a8 0) d4))) d4)) (d5 (jst 4 sc.nd (f9 ju (f9 o8 (f9 F7 (a8 3) d4) (f9 F7 (a8 3) d4)) d4)) (d6 (d9 (f9 ju (f9 F4 (f9 ju (f9 o8 (a8 4) (a8 4)) d4) d4) (a8 1)))))))),?_⟩
  refine⟨_,rfl,_,bo hM rfl,_,rfl,_,rfl,?_⟩
  refine xT (fun h0=>?_) (fun h0=>?_)
  ·refine⟨_,rfl,_,bo hM rfl,_,rfl,_,_,rfl,rfl,hb,?_⟩
   refine⟨_,rfl,_,bo hM rfl,_,rfl,_,_,rfl,rfl,⟨by omega,hl⟩,_,rfl,_,_,_,_,rfl,rfl,hM,rfl,?_⟩
   exact⟨_,rfl,k _ _ (Ug _ (by omega)) (TF _ hb) (y7.upd _ _ _)⟩
  ·refine⟨_,rfl,_,bo hM rfl,_,rfl,_,rfl,_,_,_,_,rfl,rfl,hM,rfl,?_⟩
   refine⟨_,rfl,_,bo g9 rfl,_,rfl,_,bo g9 rfl,_,_,rfl,rfl,rG (by decide) (by decide),_,rfl,_,_,rfl,rfl,(by show(0:Int)<1000000007;decide),?_⟩
   refine⟨_,rfl,_,rfl,_,rfl,_,rfl,_,_,rfl,rfl,Nf (by decide) (by decide) (by decide) (by decide),_,_,rfl,rfl,(by show(0:Int)<998244353;decide),?_⟩
   refine⟨_,rfl,_,rfl,_,_,rfl,rfl,LC (by decide) (by decide),_,_,rfl,rfl,(by show(0:Int)<2147483647;decide),_,_,rfl,rfl,Nu,_,rfl,_,_,rfl,rfl,hb,?_⟩
   exact k _ _ (Ug _ (by omega)) (TF _ hb) (y7.upd _ _ _)
theorem cH(T:Txt K mg)(d:Df K mg "_law_whole_root" I0 ["number"]):Fn P w K mg base "_law_whole_root" 1 ["number"] nE:=by
 have sc:=bY
 walk_at "fn"
 obtain⟨N,rfl,hn,k⟩:=h
 refine⟨_,(d5 (oR (i:=1) (j:=2) rfl sc.nd rfl rfl (by decide) rfl rfl (a7 d4 (a7 (f9 F7 (a8 0) d4) a9))) (d5 (eV PassesOwn.never (jtm kP (f9 bK (a8 2) (a8 1)) d4) (d5 (jst 3 sc.nd (f9 F4 (f9 F7 (a8 1) (a8 2)) d4)) (d6 (g7 (jtm Nc (f9 o8 (a8 3) (a8 3)) (a8 0)) (d6 (jst 1 sc.nd (a8 3))) (d6 (jst 2 sc.nd (a8 3))))))) (d6 (d9 (a8 1))))),?_⟩
 walk_at "sim"
 refine Fv (fun m e M'=>M=M'∧∃(lo hi:Nat) (z3:Option D),m=hi - lo∧e=[some (D.int (N:Int)),some (D.int (lo:Int)),some (D.int (hi:Int)),z3]∧lo*lo≤N∧N<hi*hi∧lo<hi∧hi≤N+1) (N+1) ⟨rfl,0,N+1,_,by omega,rfl,by omega,by rw[Vk,Nat.mul_add];omega,by omega,by omega⟩ ?_
 rintro m e M' ⟨rfl,lo,hi,z3,rfl,rfl,h1,h2,h3,h4⟩
 walk_at "sim"
 have em:((lo:Int)+(hi:Int)).fdiv 2=(((lo+hi) / 2:Nat):Int):=by rw[L0 (by omega) (by decide)];omega
 refine⟨fun h0=>⟨Fo,?_⟩,fun h0=>?_⟩
 ·rw[em]
  have hm:(lo+hi) / 2≤N:=by omega
  have hmz:(((lo+hi) / 2:Nat):Int).natAbs<2 ^ 20000:=by rw[Rb];exact Rv hm hn
  have hlm:lo<(lo+hi) / 2:=by omega
  have hmh:(lo+hi) / 2<hi:=by omega
  generalize (lo+hi) / 2=md at *
  refine⟨u4 _ _ hmz hmz (by decide),fun h5=>⟨hi - md,by omega,md,hi,_,rfl,rfl,by exact_mod_cast h5,h2,hmh,h4⟩,fun h5=>⟨md - lo,by omega,lo,md,_,rfl,rfl,h1,?_,hlm,by omega⟩⟩
  have:¬ md*md≤N:=fun z=>h5 (by exact_mod_cast z)
  omega
 ·have:hi=lo+1:=by omega
  subst this
  exact k lo h1 h2
theorem AR(T:Txt K mg)(d:Df K mg "reach" ny ["hall","ray","p","q"])(NH:Fn P w K mg base "ratio" 2 ["top","bottom"] X9)(Oc:Fn P w K mg base "reach_by" 4 ["t","x","later"] qP)(Ob:Fn P w K mg base "number_of" 4 ["p","q","ray"] nQ)(PL:Fn P w K mg base "led" 4 ["table","ray"] DS)(NR:Fn P w K mg base "t_of" 4 ["table"] ku)(NQ:Fn P w K mg base "round_of" 7 ["hall"] iW):Fn P w K mg base "reach" 8 ["hall","ray","p","q"] gk:=by
 have sc:=Ac
 walk_at "fn"
 obtain⟨x0,near,bs,far,y,u,p,q,rfl,hx0,⟨hok,cdr,⟨hp,hq⟩,zx,zf,t1,t2⟩,k⟩:=h
 have cd:=hok.cd (e6 near bs far).length
 rw[RG]at cd
 have l:=N4 (e6 near bs far) y u
 have e1:(h8 (e6 near bs far) (1,0)).1=(tbQ (e6 near bs far)).1:=rfl
 have e2:(h8 (e6 near bs far) (0,1)).1=(tbQ (e6 near bs far)).2.1:=rfl
 have e3:(h8 (e6 near bs far) (1,0)).2=(tbQ (e6 near bs far)).2.2.1:=rfl
 have e4:(h8 (e6 near bs far) (0,1)).2=(tbQ (e6 near bs far)).2.2.2:=rfl
 rw[e1,e2,e3,e4]at l
 rw[l.1,l.2]at k zf
 have r1:=(aw cd cdr).t2.y
 have r2:=(aw cd cdr).t2.u
 rw[l.1]at r1
 rw[l.2]at r2
 have ty:=cdr.t2.y
 have tu:=cdr.t2.u
 rcases hx0 with rfl|rfl
 all_goals
  refine⟨_,(d5 (jst 4 sc.nd (jc NQ hr (a7 (a8 0) a9))) (d5 (u9 (jc Oc hr (a7 (jc NR hr (a7 (a8 4) a9)) (a7 (jc Ob hr (a7 (a8 2) (a7 (a8 3) (a7 (a8 1) a9)))) (a7 (jc Ob hr (a7 (a8 2) (a7 (a8 3) (a7 (jc PL hr (a7 (a8 4) (a7 (a8 1) a9))) a9)))) a9)))) (i9 (n:=2) rfl (d7 (jn 5 sc.nd) (d7 (jn 6 sc.nd) i0)))) (d6 (d9 (jc NH hr (a7 (a8 5) (a7 (a8 6) a9))))))),?_⟩
  walk_at "sim"
  refine⟨hok,?_⟩
  generalize tbQ (e6 near bs far)=m at *
  obtain⟨a,b,c,d⟩:=m
  have t4:=CD.t4 cd
  have za:sz a≤230:=t4.a
  have zb:sz b≤230:=t4.b
  have zc:sz c≤230:=t4.c
  have zd:sz d≤230:=t4.d
  have zt:sz (trQ (a,b,c,d))≤231:=CD.tr cd
  refine⟨(a,b,c,d),rfl,cd,by omega,?_⟩
  rw[show J9 (a,b,c,d)=et a b c d from rfl]
  have r1:sz (a*y+b*u)≤230+1000+1:=r1
  have r2:sz (c*y+d*u)≤230+1000+1:=r2
  have zf:sz (p*(a*y+b*u)+q*(c*y+d*u))≤1462:=zf
  walk_at "sim"
  refine⟨by omega,by omega,by omega,⟨zt,t1,t2,by omega⟩,fun T B b0 bB bT eT=>?_⟩
  walk_at "sim"
  rw[eT]
  exact⟨by omega,Rk (F5 bB (by decide)) (by decide),k⟩
theorem kB(T:Txt K mg)(d:Df K mg "floor_root" V1 ["number"]):Fn P w K mg base "floor_root" 1 ["number"] fu:=by
 have sc:=jW
 refine i8 d sc (fun ds M R Y h=>?_) (fun f cdv A outer s H E ds M R Y hr h=>?_)
 ·obtain⟨n,rfl,_⟩:=h;rfl
 ·obtain⟨n,rfl,hl,k⟩:=h
  refine⟨_,(d5 (g7 (jtm Y1 (a8 0) d4) (d6 (d9 d4)) f7) (d5 (jst 1 sc.nd d4) (d5 (u8 PassesOwn.never rfl (bj rfl T.b_range (a7 (f9 F4 (f9 F7 (ER (a8 0)) d4) d4) a9)) (jn 2 sc.nd) (d6 (jst 1 sc.nd (f9 o8 (a8 1) d4)))) (d5 (jst 3 sc.nd (f9 F4 (f9 F7 (a8 1) (f9 F4 (a8 0) (a8 1))) d4)) (d5 (eV PassesOwn.never (jtm cM (a8 3) (a8 1)) (d5 (jst 1 sc.nd (a8 3)) (d6 (jst 3 sc.nd (f9 F4 (f9 F7 (a8 1) (f9 F4 (a8 0) (a8 1))) d4))))) (d6 (d9 (a8 1)))))))),?_⟩
  refine⟨_,rfl,_,rfl,_,rfl,?_⟩
  refine xT (fun h0=>?_) (fun h0=>?_)
  ·have hn:n=0:=by omega
   subst hn
   exact k 0 (by decide) (by decide)
  ·have hn:0<n:=by omega
   have hlt:=bh hl
   have hbe:Builtin.Int.intBits (n:Int)=n.log2+1:=by
    unfold Builtin.Int.intBits
    rw[if_neg (by first|omega|simp;omega)]
    simp
   have e2:(((Builtin.Int.intBits (n:Int):Nat):Int)+1).fdiv 2=(((n.log2+2) / 2:Nat):Int):=by
    rw[hbe,L0 (by omega) (by decide)];omega
   refine⟨_,rfl,_,rfl,_,rfl,_,_,rfl,rfl,Fo,_,rfl,by rw[e2];omega,by rw[e2];omega,?_⟩
   refine⟨fun i e M'=>M'=M∧∃ t:Option D,e=[some (.int n),some (.int ((2 ^ i:Nat):Int)),t,none],⟨rfl,none,rfl⟩,fun _ _ _ _ _=>trivial,?_,?_⟩
   ·rintro i dd e M' hd ⟨rfl,t,rfl⟩
    have e:(((2 ^ i:Nat):Int)*2)=((2 ^ (i+1):Nat):Int):=by rw[Uk];omega
    exact⟨_,rfl,_,_,rfl,rfl,LD (by decide) (by decide),rfl,some dd,by rw[← e];rfl⟩
   ·rw[p5,e2,SD]
    rintro e M' ⟨rfl,t,rfl⟩
    have hg0:0<2 ^ ((n.log2+2) / 2):=Sx _
    have hgn:n<2 ^ ((n.log2+2) / 2)*2 ^ ((n.log2+2) / 2):=by
     rw[← Uv]
     refine Rk (VL) (RE (by decide) (by omega))
    have hgs:Sml (2 ^ ((n.log2+2) / 2)):=Sml.pow (by omega)
    generalize 2 ^ ((n.log2+2) / 2)=g at hg0 hgn hgs
    have cf:∀{g:Nat},0<g→Sml g→CFd (n:Int) (g:Int):=fun h1 h2=>⟨by omega,by rw[Rb];exact h2.log⟩
    have ev:∀ g:Nat,((g:Int)+(n:Int).fdiv (g:Int)).fdiv 2=(((g+n / g) / 2:Nat):Int):=fun g=>by
     rw[L0 (Ti _) (Ti _),L0 (by have:=Ti (g+n / g);exact_mod_cast this) (by decide)];norm_cast
    refine⟨_,rfl,_,rfl,_,rfl,_,_,rfl,rfl,cf hg0 hgs,_,rfl,_,_,rfl,rfl,Fo,?_⟩
    refine⟨fun m e M''=>M''=M'∧∃ t:Option D,e=[some (.int n),some (.int (m:Int)),t,some (.int (((m+n / m) / 2:Nat):Int))]∧0<m∧Sml m∧n<(m+1)*(m+1),⟨g,rfl,t,by rw[← ev];rfl,hg0,hgs,by
     have:g*g≤(g+1)*(g+1):=Tg (by omega) (by omega)
     omega⟩,?_⟩
    rintro m e M'' ⟨rfl,t,rfl,hm0,hms,hmn⟩
    refine⟨_,rfl,_,rfl,_,rfl,_,rfl,?_⟩
    refine xT (fun h1=>?_) (fun h1=>?_)
    ·have hb:(m+n / m) / 2<m:=by exact_mod_cast h1
     have hb0:0<(m+n / m) / 2:=by
      rcases Sk 1 m with z|z
      ·generalize n / m=y
       omega
      ·have hm1:m=1:=by omega
       subst hm1
       rw[Nat.div_one]
       omega
     refine⟨_,rfl,_,rfl,_,rfl,_,rfl,_,_,rfl,rfl,cf hb0 (hms.mono (TK hb)),_,rfl,_,_,rfl,rfl,Fo,?_⟩
     exact⟨_,hb,rfl,t,by rw[← ev ((m+n / m) / 2)];rfl,hb0,hms.mono (TK hb),IM hm0⟩
    ·refine⟨_,rfl,?_⟩
     exact k m (uc hm0 (fun z=>h1 (by exact_mod_cast z))) hmn
theorem EC(T:Txt K mg)(d:Df K mg "root" tj ["one"])(OF:Fn P w K mg base "floor_root" 1 ["number"] fu):Fn P w K mg base "root" 2 ["one"] sU:=by
 have sc:=DO
 refine i8 d sc (fun ds M R Y h=>?_) (fun f cdv A outer s H E ds M R Y hr h=>?_)
 ·obtain⟨q,rfl,_⟩:=h;rfl
 ·obtain⟨q,rfl,hz,k⟩:=h
  have hu:=hr.units
  obtain⟨hl1,hl2⟩:=HE hz
  refine⟨_,(d5 (g7 (jtm cM (jx (a8 0) d4) d4) (d6 (d9 D9)) f7) (d5 (jst 1 sc.nd (jc OF hr (a7 (jx (a8 0) d4) a9))) (d5 (jst 2 sc.nd (jc OF hr (a7 (jx (a8 0) d4) a9))) (d5 (g7 (F2 (C2 (jtm bM (f9 o8 (a8 1) (a8 1)) (jx (a8 0) d4)) (D8 (jtm bM (f9 o8 (a8 2) (a8 2)) (jx (a8 0) d4))))) (d6 (d9 D9)) f7) (d6 (d9 (e7 (a7 (a8 1) (a7 (a8 2) a9))))))))),?_⟩
  refine⟨_,rfl,_,rfl,_,rfl,_,rfl,?_⟩
  refine xT (fun h0=>?_) (fun h0=>?_)
  ·refine k .non (.inr ⟨fun r hr=>?_,rfl⟩)
   have:=(jd hr).2.2
   omega
  ·have en:q.num=((q.num.natAbs:Nat):Int):=by omega
   refine⟨_,rfl,_,rfl,q.num.natAbs,by rw[← en];rfl,hl1,fun s h1 h2=>?_⟩
   refine⟨_,rfl,_,rfl,q.den,rfl,hl2,fun t h3 h4=>?_⟩
   have hs:s<2 ^ 4000:=Rv (Ro (Uh s) h1) (bh hl1)
   have ht:t<2 ^ 4000:=Rv (Ro (Uh t) h3) (bh hl2)
   have m1:IntMulOk (s:Int) (s:Int):=u4 4000 4000 (by rw[Rb];exact hs) (by rw[Rb];exact hs) (by decide)
   have m2:IntMulOk (t:Int) (t:Int):=u4 4000 4000 (by rw[Rb];exact ht) (by rw[Rb];exact ht) (by decide)
   have no:(¬ (s:Int)*(s:Int)=q.num ∨ ¬ (t:Int)*(t:Int)=(q.den:Int))→R .non M:=fun hno=>k .non (.inr ⟨fun r hr=>by
    obtain⟨⟨a,ha⟩,⟨b,hb⟩,hq⟩:=jd hr
    have e1:=mq h1 h2 ha
    have e2:=mq h3 h4 hb
    subst e1;subst e2
    rcases hno with z|z
    ·apply z;rw[en,← ha];norm_cast
    ·apply z;rw[← hb];norm_cast,rfl⟩)
   refine⟨_,rfl,_,rfl,_,_,rfl,rfl,m1,_,rfl,_,rfl,_,rfl,_,rfl,?_⟩
   refine Bs (fun h5=>?_) (fun h5=>?_)
   ·exact no (.inl h5)
   ·refine⟨_,rfl,_,rfl,_,_,rfl,rfl,m2,_,rfl,_,rfl,_,rfl,_,rfl,?_⟩
    refine Bs (fun h6=>?_) (fun h6=>?_)
    ·exact no (.inr h6)
    ·refine⟨_,rfl,_,rfl,sl 2,?_⟩
     obtain⟨r,r0,r1,r2,r3⟩:=xv (q:=q) h5 (by exact_mod_cast h6)
     refine k _ (.inl ⟨r,r0,r1,?_⟩)
     unfold d8;rw[r2,r3]
theorem oy(T:Txt K mg)(d:Df K mg "shrinking" Z6 ["t"])(NW:Fn P w K mg base "over" 3 ["one","other"] U5)(ND:Fn P w K mg base "minus" 4 ["one","other"] E7)(Of:Fn P w K mg base "less" 1 ["one","other"] bX)(NO:Fn P w K mg base "opposite" 1 ["one"] mr)(Qw:Fn P w K mg base "root" 2 ["one"] sU)(NC:Fn P w K mg base "times" 3 ["one","other"] E6):Fn P w K mg base "shrinking" 5 ["t"] HN:=by
 have sc:=mZ
 walk_at "fn"
 obtain⟨t,rfl,ht,k⟩:=h
 have z1:=RM.u5 t t
 have z4:sz 4≤3:=by decide +kernel
 have z5:=RM.G7 (t*t) 4
 have z0:=RM.F9
 refine⟨_,(d5 (jst 1 sc.nd (jc Qw hr (a7 (jc ND hr (a7 (jc NC hr (a7 (a8 0) (a7 (a8 0) a9))) (a7 (v7 rfl T.c_FOUR) a9))) a9))) (d5 (g7 (jtm LA (a8 1) D9) (d6 (d9 D9)) f7) (d5 (g7 (p9 (jc Of hr (a7 (a8 0) (a7 (v7 rfl T.c_NOUGHT) a9)))) (d6 (jst 1 sc.nd (jc NO hr (a7 (a8 1) a9)))) f7) (d6 (d9 (jc NW hr (a7 (jc ND hr (a7 (a8 0) (a7 (a8 1) a9))) (a7 (v7 rfl T.c_TWO) a9)))))))),?_⟩
 walk_at "sim"
 refine⟨by omega,by omega,by omega,?_⟩
 rintro v (⟨r,r0,r1,rfl⟩|⟨r1,rfl⟩)
 ·have zr:sz r≤470:=Ro (DH r1) (by omega)
  rw[bU rfl]
  have z2:sz 2≤2:=by decide +kernel
  have z6:=RM.G7 t r
  have z7:=RM.G7 t (-r)
  have z8:=RM.O6 r
  walk_at "sim"
  refine⟨by omega,fun e=>⟨by omega,by decide,by omega,k _ (.inl ⟨r,r0,r1,?_⟩)⟩,fun e=>⟨by omega,by decide,by omega,k _ (.inl ⟨r,r0,r1,?_⟩)⟩⟩
  ·rw[if_pos e]
  ·rw[if_neg e]
 ·rw[bU rfl]
  walk_at "sim"
  exact k _ (.inr ⟨r1,rfl⟩)
theorem oz(T:Txt K mg)(d:Df K mg "ray_along" Z7 ["table"])(ND:Fn P w K mg base "minus" 4 ["one","other"] E7)(NW:Fn P w K mg base "over" 3 ["one","other"] U5)(NR:Fn P w K mg base "t_of" 4 ["table"] ku):Fn P w K mg base "ray_along" 5 ["table"] tN:=by
 have sc:=nc
 walk_at "fn"
 obtain⟨x,rfl,⟨a,b,c,d⟩,hx,cd,k⟩:=h
 have hx':x=et a b c d:=hx
 subst hx'
 have t4:=CD.t4 cd
 have h1:sz a≤230:=t4.a
 have ht:sz (trQ (a,b,c,d))≤231:=CD.tr cd
 have z2:sz 2≤2:=by decide +kernel
 have z3:=RM.G8 (trQ (a,b,c,d)) 2 (by decide)
 refine⟨_,(d5 (u9 (a8 0) (i9 (n:=4) rfl (d7 (jn 1 sc.nd) (d7 (jn 2 sc.nd) (d7 (jn 3 sc.nd) (d7 (jn 4 sc.nd) i0)))))) (d5 (g7 (jtm (C0 hu) (a8 2) (v7 rfl T.c_NOUGHT)) (d6 (d9 (v7 rfl T.c_AXIS_RAY))) f7) (d6 (d9 (e7 (a7 (a8 2) (a7 (jc ND hr (a7 (jc NW hr (a7 (jc NR hr (a7 (a8 0) a9)) (a7 (v7 rfl T.c_TWO) a9))) (a7 (a8 1) a9))) a9))))))),?_⟩
 walk_at "sim"
 unfold uA at k
 refine⟨fun e=>?_,fun e=>⟨(a,b,c,d),rfl,cd,by decide,by omega,by omega,?_⟩⟩
 ·rw[if_pos e]at k;exact k
 ·rw[if_neg e]at k;exact k
theorem tY(T:Txt K mg)(d:Df K mg "form_of" eE ["table"])(NO:Fn P w K mg base "opposite" 1 ["one"] mr)(ND:Fn P w K mg base "minus" 4 ["one","other"] E7):Fn P w K mg base "form_of" 5 ["table"] nY:=by
 have sc:=sX
 walk_at "fn"
 obtain⟨x,rfl,⟨a,b,c,d⟩,hx,cd,k⟩:=h
 have hx':x=et a b c d:=hx
 subst hx'
 have t4:=CD.t4 cd
 have h1:sz a≤230:=t4.a
 have h4:sz d≤230:=t4.d
 refine⟨_,(d5 (u9 (a8 0) (i9 (n:=4) rfl (d7 (jn 1 sc.nd) (d7 (jn 2 sc.nd) (d7 (jn 3 sc.nd) (d7 (jn 4 sc.nd) i0)))))) (d6 (d9 (e7 (a7 (a8 3) (a7 (jc ND hr (a7 (a8 4) (a7 (a8 1) a9))) (a7 (jc NO hr (a7 (a8 2) a9)) a9))))))),?_⟩
 walk_at "sim"
 exact⟨by omega,k⟩
theorem EG(T:Txt K mg)(d:Df K mg "kind" tq ["hall"])(OS:Fn P w K mg base "shrinking" 5 ["t"] HN)(NR:Fn P w K mg base "t_of" 4 ["table"] ku)(OT:Fn P w K mg base "ray_along" 5 ["table"] tN)(Pm:Fn P w K mg base "form_of" 5 ["table"] nY)(NF:Fn P w K mg base "rounds_to_self" 5 ["table"] xu)(NN:Fn P w K mg base "kind_word" 6 ["table"] sKw)(NQ:Fn P w K mg base "round_of" 7 ["hall"] iW):Fn P w K mg base "kind" 8 ["hall"] ja:=by
 have sc:=DQ
 walk_at "fn"
 obtain⟨x0,near,bs,far,rfl,hx0,hok,k⟩:=h
 have cd:=hok.cd (e6 near bs far).length
 rw[RG]at cd
 rcases hx0 with rfl|rfl
 all_goals
  refine⟨_,(d5 (jst 1 sc.nd (jc NQ hr (a7 (a8 0) a9))) (d5 (jst 2 sc.nd (jc NN hr (a7 (a8 1) a9))) (d5 (g7 (jtm D6 (a8 2) j5) (d6 (d9 (e7 (a7 (a8 2) (a7 (jc NF hr (a7 (a8 1) a9)) a9))))) f7) (d5 (g7 (jtm D6 (a8 2) j5) (d6 (d9 (e7 (a7 (a8 2) (a7 (jc Pm hr (a7 (a8 1) a9)) a9))))) f7) (d5 (g7 (jtm D6 (a8 2) j5) (d6 (d9 (e7 (a7 (a8 2) (a7 (jc OT hr (a7 (a8 1) a9)) a9))))) f7) (d6 (d9 (e7 (a7 (a8 2) (a7 (jc OS hr (a7 (jc NR hr (a7 (a8 1) a9)) a9)) a9)))))))))),?_⟩
  walk_at "sim"
  refine⟨hok,?_⟩
  generalize tbQ (e6 near bs far)=m at *
  refine⟨m,rfl,cd,fun e=>⟨m,rfl,cd,k _ (.inl ⟨e,rfl⟩)⟩,fun e=>⟨fun e2=>⟨m,rfl,cd,k _ (.inr (.inl ⟨e2,rfl⟩))⟩,fun e2=>⟨fun e3=>⟨m,rfl,cd,k _ (.inr (.inr (.inl ⟨e3,rfl⟩)))⟩,fun e3=>⟨m,rfl,cd,CD.tr cd,fun v hv=>k _ (.inr (.inr (.inr ⟨?_,hv⟩)))⟩⟩⟩⟩
  unfold kwS at e e2 e3 ⊢
  by_cases h1:p8 m
  ·rw[if_pos h1]at e;exact absurd rfl e
  ·rw[if_neg h1]at e2 e3 ⊢
   by_cases h2:f6 (trQ m)=2
   ·rw[if_pos h2]at e3;exact absurd rfl e3
   ·rw[if_neg h2]at e2 ⊢
    by_cases h3:f6 (trQ m)<2
    ·rw[if_pos h3]at e2;exact absurd rfl e2
    ·rw[if_neg h3]
theorem kF(T:Txt K mg)(d:Df K mg "_law_tight" V4 ["pool","hall","ray"])(NH:Fn P w K mg base "ratio" 2 ["top","bottom"] X9)(NB:Fn P w K mg base "_law_next" 1 ["pool","base"] S1)(Ow:Fn P w K mg base "_law_whole_root" 1 ["number"] nE)(Oh:Fn P w K mg base "hall_lines" 7 ["hall"] ar)(NX:Fn P w K mg base "less" 1 ["one","other"] eI)(Pu:Fn P w K mg base "reach" 8 ["hall","ray","p","q"] gk)(Pn:Fn P w K mg base "kind" 8 ["hall"] ja):Fn P w K mg base "_law_tight" 9 ["pool","hall","ray"] nH:=by
 have sc:=jZ
 walk_at "fn"
 obtain⟨p,near,bs,far,y,u,rfl,hp,⟨hok,hbl,cd⟩,k⟩:=h
 have hw:=hok.w
 have hz0:∀ x∈bs,sz x.2≤2000:=fun x hx=>Ro (hok.part x hx).1 (by decide)
 have cL:=hw.cd (e6 near bs far).length
 rw[RG]at cL
 have zt:sz (trQ (tbQ (e6 near bs far)))≤231:=CD.tr cL
 refine⟨_,(d5 (C7 (i:=3) [] ["k","part"] [] sc.nd rfl (Or.inl rfl) rfl (by decide +kernel) rfl (by decide +kernel) (by decide +kernel) rfl bI bI (Q8 rfl T.b_enumerate (a7 (jx (a8 1) d4) a9)) (fun _ _ _ _ _ _=>(i9 (n:=2) rfl (d7 (jn 0 (show(["k","part"]:List Str).Nodup by decide +kernel)) (d7 (jn 1 (show(["k","part"]:List Str).Nodup by decide +kernel)) i0)))) (fun _ _ _ _ _ _=>(eW (jtm D6 (jx (a8 1) d4) j5))) (fun _ _ _ _ _ _=>(a8 0))) (d5 (g7 (F2 (C2 (jtm AV (jx (jc Pn hr (a7 (a8 1) a9)) d4) j5) (C2 (jtm (C0 hu) (a8 3) (p6 a9)) (D8 (jtm Y1 (jc NB hr (a7 (a8 0) (a7 d4 a9))) d4))))) (d6 (d9 (a8 1))) f7) (d5 (jst 4 sc.nd (jx (a8 3) (jc NB hr (a7 (a8 0) (a7 (p7 J8 rfl T.b_len D4 (a7 (a8 3) a9)) a9))))) (d5 (jst 5 sc.nd (e7 (a7 d4 (a7 d4 a9)))) (d5 (u8 PassesOwn.never rfl (A5 (Q9 (jc Oh hr (a7 (a8 1) a9)))) (i9 (n:=3) rfl (d7 (jn 6 sc.nd) (d7 (jn 7 sc.nd) (d7 (i9 (n:=3) rfl (d7 (jn 8 sc.nd) (d7 (jn 9 sc.nd) (d7 (jn 10 sc.nd) i0)))) i0)))) (d6 (g7 (F2 (jG (jtm (C0 hu) (a8 7) (a8 4)) (dP (p9 (jc NX hr (a7 (a8 5) (a7 (jc Pu hr (a7 (a8 1) (a7 (a8 2) (a7 (a8 8) (a7 (a8 9) a9))))) a9))))))) (d6 (jst 5 sc.nd (jc Pu hr (a7 (a8 1) (a7 (a8 2) (a7 (a8 8) (a7 (a8 9) a9))))))) f7))) (d5 (jst 11 sc.nd (jx (p6 (a7 d4 (a7 d4 (a7 (f9 bL d4 d4) (a7 (f9 bL d4 d4) a9))))) (jc NB hr (a7 (a8 0) (a7 d4 a9))))) (d5 (jst 12 sc.nd (jc Ow hr (a7 (f9 F4 (f9 o8 (f9 o8 (jx (a8 5) d4) (a8 11)) (a8 11)) (jx (a8 5) d4)) a9))) (d5 (jst 13 sc.nd (p6 (a7 (e7 (a7 j5 (a7 (jc NH hr (a7 (p7 (He rfl) rfl T.b_max Cj (a7 d4 (a7 (f9 F7 (a8 12) (jc NB hr (a7 (a8 0) (a7 d4 a9)))) a9))) (a7 (a8 11) a9))) a9))) a9))) (d6 (d9 (e7 (a7 (jx (a8 1) d4) (a7 (R6 (R6 (O3 (jx (a8 1) d4) O2 (O1 (a8 4))) (a8 13)) (O3 (jx (a8 1) d4) (O1 (f9 F7 (a8 4) d4)) O2)) (a7 (jx (a8 1) d4) a9)))))))))))))),?_⟩
 refine i3 fun P1 hP1=>?_
 walk_at "sim"
 rw[eX]
 refine X5 (xs:=bs.zipIdx) (fun x=>x.1.1 == Str.ofString "stop") (fun x=>D.int (x.2:Int)) (by rw[RO];omega) (by simp only[j9]) (fun x hx Q N h1 h2=>?_) ?_
 ·walk_at "sim"
  exact⟨fun e=>h1 (by rw[e];exact beq_self_eq_true _),fun e=>h2 (beq_eq_false_iff_ne.mpr e)⟩
 rw[show Ux (fun x:(Str × Rat) × Nat=>x.1.1 == Str.ofString "stop") bs.zipIdx=frW bs from rfl]
 have fl:=wA bs
 refine hP1 _ _ ?_
 clear hP1 P1
 refine i3 fun P2 hP2=>?_
 walk_at "sim"
 refine⟨hw,fun v hv=>⟨fun _=>k bs M hw hz0 (y7.refl hp),fun hturn=>⟨ux fun x hx=>by obtain⟨z,_,rfl⟩:=RP.mp hx;rfl,fun _=>k bs M hw hz0 (y7.refl hp),fun hne=>⟨hp,by decide,fun r M1 r0 r1 s1=>⟨fun _=>k bs M1 hw hz0 s1,fun _=>hP2 _ _ ?_⟩⟩⟩⟩⟩
 clear hP2 P2
 obtain⟨t1,t2⟩:-2<trQ (tbQ (e6 near bs far))∧trQ (tbQ (e6 near bs far))<2:=by
  rcases Q7 (tbQ (e6 near bs far))with⟨_,e⟩|⟨_,_,e⟩|⟨_,_,c3,e⟩|⟨_,c2,c3,e⟩
  ·rw[e]at hturn;exact absurd hturn (by decide)
  ·rw[e]at hturn;exact absurd hturn (by decide)
  ·exact J7.mp c3
  ·rw[e]at hturn;exact absurd hturn (by decide)
 have hpos:0<(frW bs).length:=by
  cases e:frW bs with
  | nil=>rw[e]at hne;exact absurd rfl hne
  | cons a b=>exact VD _
 have e1:((frW bs).map fun x=>D.int (x.2:Int)).length=(frW bs).length:=Rh ..
 refine i3 fun P3 hP3=>?_
 walk_at "sim"
 refine⟨s1.pool,by omega,lg9 (by omega),fun r' M2 r0' r1' s2=>N5 r0' r1' fun dd hdd=>?_⟩
 obtain⟨⟨⟨w,q0⟩,at'⟩,hx,rfl⟩:=RP.mp hdd
 obtain⟨hx1,hx2⟩:=SX.mp hx
 have hat:bs[at']? = some (w,q0):=Si.mp hx1
 have hws:w=Str.ofString "stop" := by simpa using hx2
 subst hws
 have hal:=(Rc.mp hat).1
 refine hP3 _ _ ?_
 clear hP3 P3
 refine i3 fun P4 hP4=>?_
 walk_at "sim"
 refine hP4 _ _ ?_
 clear hP4 P4
 refine i3 fun P5 hP5=>?_
 walk_at "sim"
 refine⟨hw,fun p1 hp1=>?_⟩
 rw[bV g9,L5 hp1]
 have z0:sz (0:Rat)≤1:=by rw[RM.F9];decide
 walk_at "sim"
 have st:=s1.trans s2
 refine R4.by (fun i e M'=>M2=M'∧∃(g:Rat) (z6 z7 z8 z9 z10:Option D),e=[some (D.ref p),some (D.tup [d8 near,D.vl (Td g6 bs),d8 far]),some (u3 y u),some (D.vl ((frW bs).map fun x=>D.int (x.2:Int))),some (D.int (at':Int)),some (d8 g),z6,z7,z8,z9,z10,none,none,none]∧0≤g∧sz g≤8800∧g.num.natAbs<2 ^ 3500) ⟨rfl,0,_,_,_,_,_,rfl,by decide,by omega,Sx _⟩ (fun i e M' _ _=>by simp only[j9]) ?_ ?_
 ·rintro i dd e M' hd ⟨rfl,g,z6,z7,z8,z9,z10,rfl,g0,gz,gn⟩
  obtain⟨w0,l,rfl,hli,hw0⟩:=Bt hd
  rw[G3,C3]at hli
  have hlm:=Rg hli
  obtain⟨⟨q1,q2⟩,⟨q3,q4⟩,zx,zf⟩:=hw.line cd hlm
  have rn:=Bd hw cd hlm t1 t2
  have rs:=tR zt zx zf t1 t2
  obtain⟨zz,hzz,_,e2⟩:=zV hw0
  have c1:cl 60 w0.2=true:=by rw[← e2];exact(dR hzz 59).2
  unfold hlD r9
  walk_at "sim"
  generalize M0 (trQ (tbQ (e6 near bs far))) (l.1*y+l.2.1*u) (l.1*(h8 (e6 near bs far) (y,u)).1+l.2.1*(h8 (e6 near bs far) (y,u)).2)=rc at *
  refine⟨c1,fun _=>⟨⟨hw,cd,⟨q1,q2⟩,zx,zf,t1,t2⟩,g,rc.num,(rc.den:Int),rfl,⟨by have:=rc.den_pos;omega,by omega,by rw[Rb];exact o9 _ (by omega),u0 _ (by omega)⟩,?_⟩,fun _=>⟨g,_,_,_,_,_,rfl,g0,gz,gn⟩⟩
  rw[Tj]
  walk_at "sim"
  exact⟨fun hlt=>⟨⟨hw,cd,⟨q1,q2⟩,zx,zf,t1,t2⟩,rc,_,_,_,_,_,rfl,by grind,rs,rn⟩,fun _=>⟨g,_,_,_,_,_,rfl,g0,gz,gn⟩⟩
 ·rintro e M' ⟨rfl,g,z6,z7,z8,z9,z10,rfl,g0,gz,gn⟩
  refine hP5 _ _ ?_
  clear hP5 P5
  refine i3 fun P6 hP6=>?_
  walk_at "sim"
  refine⟨cp6,Nt,s2.pool,by decide,fun r3 M3 a0 a1 s3=>N5 a0 (by show r3<4;exact a1) fun dd hdd=>?_⟩
  obtain⟨sc',rfl,sc0,sc1⟩:∃ sc':Nat,dd = .int (sc':Int)∧0<sc'∧sc'<2 ^ 30:=by
   simp only[RC,RS,or_false]at hdd
   rcases hdd with rfl|rfl|rfl|rfl
   ·exact⟨10,rfl,by decide,by decide⟩
   ·exact⟨1000,rfl,by decide,by decide⟩
   ·exact⟨1000000,by rfl,by decide,by decide⟩
   ·exact⟨1000000000,by rfl,by decide,by decide⟩
  refine hP6 _ _ ?_
  clear hP6 P6
  obtain⟨G,hG⟩:∃ G:Nat,g.num=(G:Int):=⟨g.num.toNat,by have:=We.mpr g0;omega⟩
  rw[hG]at gn
  rw[Rb]at gn
  have gd:=o9 g gz
  have gdp:=g.den_pos
  have eN:((G:Int)*(sc':Int)*(sc':Int)).fdiv (g.den:Int)=((G*sc'*sc' / g.den:Nat):Int):=by
   rw[L0 (by exact_mod_cast Sb _) (by omega)];norm_cast
  have b1:G*sc'<2 ^ (3500+30):=o6 gn sc1
  have b2:G*sc'*sc'<2 ^ (3500+30+30):=o6 b1 sc1
  have bN:G*sc'*sc' / g.den<2 ^ 3560:=Rv (TC _ _) b2
  refine i3 fun P7 hP7=>?_
  walk_at "sim"
  rw[hG,eN]
  generalize G*sc'*sc' / g.den=N at *
  walk_at "sim"
  have hs:1000≤sizeLine:=by decide
  have scn:(sc':Int).natAbs<2 ^ 30:=by rw[Rb];exact sc1
  refine⟨u4 3500 30 (by rw[Rb];exact gn) scn (by decide),u4 3530 30 (by rw[← Sj,Rb];exact b1) scn (by decide),⟨by omega,by rw[Rb];exact Rk (F5 gd (by decide)) (by decide)⟩,Rk bN (RE (by decide) (by decide)),fun a a1 a2=>hP7 _ _ ?_⟩
  clear hP7 P7
  refine i3 fun P8 hP8=>?_
  walk_at "sim"
  refine⟨s3.pool,by decide,fun r4 M4 c0 c1 s4=>⟨by omega,Rk (F5 scn (by decide)) (by decide),hP8 _ _ ?_⟩⟩
  clear hP8 P8
  have ab:a<2 ^ 1780:=by
   apply RA
   intro hn
   have hn:2 ^ 1780≤a:=VJ hn
   have:=Tg hn hn
   rw[← Uv]at this
   exact absurd (Rv (Ro this a1) bN) (SJ _)
  have tz:(max 1 ((a:Int)+r4)).natAbs<2 ^ 1781:=by
   have p1:2 ^ 1≤2 ^ 1780:=RE (by decide) (by decide)
   rw[show 2 ^ 1781=2 ^ 1780*2 from Uk 2 1780]
   generalize 2 ^ 1780=W at *
   omega
  have qz:sz (RZ (max 1 ((a:Int)+r4)) (sc':Int))≤2000:=Ro (jf (k:=1781) (by decide) tz (by omega) (Rk scn (RE (by decide) (by decide)))) (by decide)
  have q0':0<RZ (max 1 ((a:Int)+r4)) (sc':Int):=tS (by omega) (by omega)
  have hset:=hok.set hat q0' (Ro qz (by decide))
  generalize RZ (max 1 ((a:Int)+r4)) (sc':Int)=qn at *
  have cs:=BY hal (Str.ofString "stop",qn)
  have cs:DL.Y5 (Td g6 bs) none (some (at':Int))++[D.tup [D.str (Str.ofString "stop"),d8 qn]]++DL.Y5 (Td g6 bs) (some ((at':Int)+1)) none=(bs.set at' (Str.ofString "stop",qn)).map g6:=cs
  have ln:=congrArg Vc cs
  rw[RD,Rh,UM]at ln
  have l0:(DL.Y5 (Td g6 bs) none (some (at':Int))).length≤bs.length:=by rw[BX,Ss,Rh];omega
  walk_at "sim"
  refine⟨Ro (by omega) hs,Ro (by omega) hs,?_⟩
  rw[cs]
  refine k _ _ hset (fun x hx=>?_) ((st.trans s3).trans s4)
  rcases Tt hx with hx|rfl
  ·exact hz0 x hx
  ·exact qz
theorem jo(T:Txt K mg)(d:Df K mg "_law_scaled" S6 ["ray","factor"])(NC:Fn P w K mg base "times" 3 ["one","other"] E6):Fn P w K mg base "_law_scaled" 4 ["ray","factor"] nL:=by
 have sc:=iQ
 walk_at "fn"
 obtain⟨y,u,g,rfl,⟨h1,h2⟩,k⟩:=h
 refine⟨_,(d6 (d9 (e7 (a7 (jc NC hr (a7 (jx (a8 0) d4) (a7 (a8 1) a9))) (a7 (jc NC hr (a7 (jx (a8 0) d4) (a7 (a8 1) a9))) a9))))),?_⟩
 walk_at "sim"
 exact⟨h1,h2,k⟩
theorem kO(T:Txt K mg)(d:Df K mg "_law_along" W3 ["hall","other"])(ND:Fn P w K mg base "minus" 4 ["one","other"] E7)(NW:Fn P w K mg base "over" 3 ["one","other"] U5)(Pn:Fn P w K mg base "kind" 8 ["hall"] ja)(NQ:Fn P w K mg base "round_of" 7 ["hall"] iW):Fn P w K mg base "_law_along" 9 ["hall","other"] oh:=by
 have sc:=kr
 walk_at "fn"
 obtain⟨near,bs,far,b,rfl,hok,k⟩:=h
 have cL:=hok.cd (e6 near bs far).length
 rw[RG]at cL
 have zt:sz (trQ (tbQ (e6 near bs far)))≤231:=CD.tr cL
 refine⟨_,(d5 (u9 (jc NQ hr (a7 (a8 0) a9)) (i9 (n:=4) rfl (d7 (jn 2 sc.nd) (d7 (jn 3 sc.nd) (d7 (jn 4 sc.nd) (d7 (jn 5 sc.nd) i0)))))) (d5 (jst 6 sc.nd (jc Pn hr (a7 (a8 0) a9))) (d5 (jst 7 sc.nd (e7 (a7 d4 (a7 d4 a9)))) (O0 (g7 (jtm cM (f9 F7 (f9 o8 (jx (a8 2) d4) (jx (a8 5) d4)) (f9 o8 (jx (a8 5) d4) (jx (a8 2) d4))) d4) (d6 (jst 7 sc.nd (e7 (a7 (A1 d4) (a7 d4 a9))))) f7) (O0 (g7 (F2 (jG (jtm D6 (jx (a8 6) d4) j5) (dP (jtm dJ (jx (a8 6) d4) D9)))) (d5 (jst 7 sc.nd (jx (a8 6) d4)) (d6 (g7 (p9 (a8 1)) (d6 (jst 7 sc.nd (jc NW hr (a7 (e7 (a7 d4 (a7 d4 a9))) (a7 (a8 7) a9))))) f7))) f7) (d5 (jst 8 sc.nd (e7 (a7 (a8 3) (a7 (jc ND hr (a7 (a8 7) (a7 (a8 2) a9))) a9)))) (O0 (g7 (jtm (C0 hu) (a8 8) (e7 (a7 (e7 (a7 d4 (a7 d4 a9))) (a7 (e7 (a7 d4 (a7 d4 a9))) a9)))) (d6 (jst 8 sc.nd (e7 (a7 (jc ND hr (a7 (a8 5) (a7 (a8 7) a9))) (a7 (jc ND hr (a7 (e7 (a7 d4 (a7 d4 a9))) (a7 (a8 4) a9))) a9))))) f7) (d6 (d9 (a8 8)))))))))),?_⟩
 walk_at "sim"
 refine⟨hok.w,?_⟩
 generalize hm:tbQ (e6 near bs far)=m at *
 obtain⟨a,b',c,d'⟩:=m
 have t4:=CD.t4 cL
 have za:sz a≤230:=t4.a
 have zb:sz b'≤230:=t4.b
 have zc:sz c≤230:=t4.c
 have zd:sz d'≤230:=t4.d
 rw[show J9 (a,b',c,d')=et a b' c d' from rfl]
 walk_at "sim"
 rw[hm]
 refine⟨hok.w,fun v hv=>?_⟩
 refine fc (fun e' M'=>M=M'∧∃ q:Rat,e'=[some (D.tup [d8 near,D.vl (Td g6 bs),d8 far]),some (D.bl b),some (d8 a),some (d8 b'),some (d8 c),some (d8 d'),some (D.tup [D.str (kwS (a,b',c,d')),v]),some (d8 q),none]∧sz q≤232) ?_ ?_
 ·walk_at "sim"
  exact⟨mND (q:=a) (r:=d') (by omega),mND (q:=d') (r:=a) (by omega),fun _=>⟨-1,rfl,by rw[RM.O6,RM.R9];decide⟩,fun _=>⟨1,rfl,by rw[RM.R9];decide⟩⟩
 ·rintro e' M' ⟨rfl,q,rfl,hq⟩
  refine fc (fun e' M'=>M=M'∧∃ q:Rat,e'=[some (D.tup [d8 near,D.vl (Td g6 bs),d8 far]),some (D.bl b),some (d8 a),some (d8 b'),some (d8 c),some (d8 d'),some (D.tup [D.str (kwS (a,b',c,d')),v]),some (d8 q),none]∧sz q≤232) ?_ ?_
  ·walk_at "sim"
   refine⟨fun hoff=>?_,fun _=>⟨q,rfl,hq⟩⟩
   obtain⟨c1,c2⟩:¬ f6 (trQ (a,b',c,d'))<2∧¬ f6 (trQ (a,b',c,d'))=2:=by
    rcases Q7 (a,b',c,d')with⟨_,e⟩|⟨_,_,e⟩|⟨_,_,_,e⟩|⟨_,c2,c3,e⟩
    ·rw[e]at hoff;exact absurd hoff (by decide)
    ·rw[e]at hoff;exact absurd hoff (by decide)
    ·rw[e]at hoff;exact absurd hoff (by decide)
    ·exact⟨c3,c2⟩
   have hsh:wN (trQ (a,b',c,d')) v:=by
    rcases hv with⟨e,_⟩|⟨e,_⟩|⟨e,_⟩|⟨_,h⟩
    ·rw[e]at hoff;exact absurd hoff (by decide)
    ·rw[e]at hoff;exact absurd hoff (by decide)
    ·rw[e]at hoff;exact absurd hoff (by decide)
    ·exact h
   have hv2:(∃ x:Rat,v=d8 x)∨v = .non:=by
    rcases hsh with⟨r,_,_,e⟩|⟨_,e⟩
    ·exact .inl ⟨_,e⟩
    ·exact .inr e
   rcases hv2 with⟨x,rfl⟩|rfl
   ·obtain⟨x0,xz⟩:=HI c1 c2 hsh
    have xi:=RM.G8 1 x x0
    have s1:sz (1:Rat)=1:=RM.R9
    rw[bU rfl]
    walk_at "sim"
    exact⟨fun _=>⟨x0,by omega,_,rfl,by omega⟩,fun _=>⟨_,rfl,by omega⟩⟩
   ·rw[bU rfl]
    walk_at "sim"
    exact⟨q,rfl,hq⟩
  ·rintro e' M' ⟨rfl,q,rfl,hq⟩
   walk_at "sim"
   have z1:=RM.G7 q a
   have z2:=RM.G7 d' q
   have z3:=RM.G7 0 c
   have s0:sz (0:Rat)≤1:=by rw[RM.F9];decide
   refine⟨by omega,?_⟩
   refine fc (fun e' M'=>M=M'∧∃(y u:Rat) (z0 z1 z2 z3 z4 z5 z6 z7:Option D),e'=[z0,z1,z2,z3,z4,z5,z6,z7,some (u3 y u)]∧(sz y≤463∧sz u≤463∧sz y+sz u≤700)) ?_ ?_
   ·walk_at "sim"
    exact⟨fun _=>⟨by omega,by omega,d' - q,0 - c,_,_,_,_,_,_,_,_,rfl,by omega,by omega,by omega⟩,fun _=>⟨b',q - a,_,_,_,_,_,_,_,_,rfl,by omega,by omega,by omega⟩⟩
   ·rintro e' M' ⟨rfl,y,u,z0,z1,z2,z3,z4,z5,z6,z7,rfl,hz⟩
    walk_at "sim"
    exact k y u hz
theorem eS(T:Txt K mg)(d:Df K mg "_law_ratio" N2 ["pool","tops","bottoms"])(NH:Fn P w K mg base "ratio" 2 ["top","bottom"] X9)(NB:Fn P w K mg base "_law_next" 1 ["pool","base"] S1):Fn P w K mg base "_law_ratio" 3 ["pool","tops","bottoms"] tH:=by
 have sc:=bJ
 walk_at "fn"
 obtain⟨p,x,y,rfl,hp,ts,bs,P,rfl,rfl,⟨⟨t0,t1⟩,⟨b0,b1⟩,hb,hP⟩,k⟩:=h
 refine⟨_,(d6 (d9 (jc NH hr (a7 (jx (a8 1) (jc NB hr (a7 (a8 0) (a7 (p7 J8 rfl T.b_len D4 (a7 (a8 1) a9)) a9)))) (a7 (jx (a8 2) (jc NB hr (a7 (a8 0) (a7 (p7 J8 rfl T.b_len D4 (a7 (a8 2) a9)) a9)))) a9))))),?_⟩
 walk_at "sim"
 have e1:(ts.map D.int).length=ts.length:=Rh ..
 have e2:(bs.map D.int).length=bs.length:=Rh ..
 refine⟨hp,by omega,lg9 (by omega),fun r M1 r0 r1 s1=>N5 r0 r1 fun d hd=>⟨s1.pool,by omega,lg9 (by omega),fun r' M2 r0' r1' s2=>N5 r0' r1' fun d' hd'=>?_⟩⟩
 obtain⟨t,ht,rfl⟩:=RP.mp hd
 obtain⟨b,hb',rfl⟩:=RP.mp hd'
 have hb2:=hb b hb'
 exact⟨_,_,rfl,by omega,Rk (F5 hb2.2 (by decide)) (by decide),k _ _ (hP t ht b hb') (s1.trans s2)⟩
theorem kK(T:Txt K mg)(d:Df K mg "_law_ratio" N2 ["pool","tops","bottoms"])(NH:Fn P w K mg base "ratio" 2 ["top","bottom"] X9)(NB:Fn P w K mg base "_law_next" 1 ["pool","base"] S1):Fn P w K mg base "_law_ratio" 3 ["pool","tops","bottoms"] my:=by
 have sc:=bJ
 walk_at "fn"
 obtain⟨p,x,y,rfl,hp,ts,bs,P,rfl,rfl,⟨⟨t0,t1⟩,⟨b0,b1⟩,hb,hP⟩,k⟩:=h
 refine⟨_,(d6 (d9 (jc NH hr (a7 (jx (a8 1) (jc NB hr (a7 (a8 0) (a7 (p7 J8 rfl T.b_len D4 (a7 (a8 1) a9)) a9)))) (a7 (jx (a8 2) (jc NB hr (a7 (a8 0) (a7 (p7 J8 rfl T.b_len D4 (a7 (a8 2) a9)) a9)))) a9))))),?_⟩
 walk_at "sim"
 have e1:(ts.map D.int).length=ts.length:=Rh ..
 have e2:(bs.map D.int).length=bs.length:=Rh ..
 refine⟨hp,by omega,lg9 (by omega),fun r M1 r0 r1 s1=>N5 r0 r1 fun d hd=>⟨s1.pool,by omega,lg9 (by omega),fun r' M2 r0' r1' s2=>N5 r0' r1' fun d' hd'=>?_⟩⟩
 obtain⟨t,ht,rfl⟩:=RP.mp hd
 obtain⟨b,hb',rfl⟩:=RP.mp hd'
 have hb2:=hb b hb'
 exact⟨_,_,rfl,by omega,Rk (F5 (k:=10) (by omega) (by decide)) (by decide),k _ _ (hP t ht b hb') (s1.trans s2)⟩
theorem rE(T:Txt K mg)(d:Df K mg "_law_ray" cD ["pool","hall"])(Oo:Fn P w K mg base "_law_scaled" 4 ["ray","factor"] nL)(NI:Fn P w K mg base "plus" 3 ["one","other"] G9)(NB:Fn P w K mg base "_law_next" 1 ["pool","base"] S1)(OG:Fn P w K mg base "_law_along" 9 ["hall","other"] oh)(OE:Fn P w K mg base "_law_ratio" 3 ["pool","tops","bottoms"] tH)(NG:Fn P w K mg base "_law_ratio" 3 ["pool","tops","bottoms"] my):Fn P w K mg base "_law_ray" 10 ["pool","hall"] Ai:=by
 have sc:=qO
 walk_at "fn"
 obtain⟨p,near,bs,far,rfl,hp,hok,k⟩:=h
 have e18:(10:Int) ^ Vu 18=1000000000000000000:=by decide
 have e20:(10:Int) ^ Vu 20=100000000000000000000:=by decide
 have e25:(10:Int) ^ Vu 25=10000000000000000000000000:=by decide
 have e40:(10:Int) ^ Vu 40=10000000000000000000000000000000000000000:=by decide
 refine⟨_,(d5 (jst 2 sc.nd (jc NB hr (a7 (a8 0) (a7 d4 a9)))) (d5 (jst 3 sc.nd (e7 (a7 (jc NG hr (a7 (a8 0) (a7 (p6 (a7 d4 (a7 d4 (a7 (A1 d4) (a7 d4 (a7 (A1 d4) (a7 d4 (a7 d4 a9)))))))) (a7 (p6 (a7 d4 (a7 d4 (a7 d4 (a7 d4 a9))))) a9)))) (a7 (jc NG hr (a7 (a8 0) (a7 (p6 (a7 d4 (a7 d4 (a7 d4 (a7 (A1 d4) (a7 d4 (a7 (A1 d4) a9))))))) (a7 (p6 (a7 d4 (a7 d4 (a7 d4 a9)))) a9)))) a9)))) (d5 (jst 4 sc.nd (jc OE hr (a7 (a8 0) (a7 (p6 (a7 d4 (a7 (A1 d4) (a7 d4 (a7 d4 (a7 d4 (a7 d4 a9))))))) (a7 (p6 (a7 d4 (a7 d4 (a7 d4 (a7 d4 (a7 d4 (a7 d4 (a7 (f9 bL d4 d4) (a7 (f9 bL d4 d4) a9))))))))) a9))))) (d5 (g7 (jtm Y1 (a8 2) d4) (d6 (d9 (e7 (a7 (e7 (a7 d4 (a7 d4 a9))) (a7 (e7 (a7 d4 (a7 d4 a9))) a9))))) f7) (d5 (g7 (jtm cM (a8 2) d4) (d6 (d9 (jc Oo hr (a7 (jc OG hr (a7 (a8 1) (a7 (jm Y1 (a8 2) d4) a9))) (a7 (a8 4) a9))))) f7) (d5 (g7 (jtm cM (a8 2) d4) (d5 (jst 5 sc.nd (jc OG hr (a7 (a8 1) (a7 D3 a9)))) (d5 (jst 6 sc.nd (jc Oo hr (a7 (a8 3) (a7 (e7 (a7 d4 (a7 (jx (p6 (a7 (f9 bL d4 d4) (a7 (f9 bL d4 d4) (a7 (f9 bL d4 d4) a9)))) (jc NB hr (a7 (a8 0) (a7 d4 a9)))) a9))) a9)))) (d6 (d9 (e7 (a7 (jc NI hr (a7 (jx (a8 5) d4) (a7 (jx (a8 6) d4) a9))) (a7 (jc NI hr (a7 (jx (a8 5) d4) (a7 (jx (a8 6) d4) a9))) a9))))))) f7) (d6 (d9 (jc Oo hr (a7 (a8 3) (a7 (a8 4) a9))))))))))),?_⟩
 refine i3 fun P1 hP1=>?_
 walk_at "sim"
 refine⟨hp,by decide,fun r M1 r0 r1 s1=>hP1 _ _ ?_⟩
 clear hP1 P1
 refine i3 fun P2 hP2=>?_
 walk_at "sim"
 refine⟨s1.pool,[0,1,-1,2,-3,5,9],[1,1,2,3],fun q=>sz q≤4,rfl,rfl,⟨by decide,by decide,by decide,bp (by decide) (by decide) (by decide)⟩,fun q M2 hq s2=>⟨s2.pool,[0,0,1,-1,2,-4],[1,2,3],fun q=>sz q≤4,rfl,rfl,⟨by decide,by decide,by decide,bp (by decide) (by decide) (by decide)⟩,fun q1 M3 hq1 s3=>hP2 _ _ ?_⟩⟩
 clear hP2 P2
 refine i3 fun P3 hP3=>?_
 walk_at "sim"
 refine⟨Mq,Hb,?_⟩
 rw[e20,e40]
 refine⟨s3.pool,[1,-1,2,1,3,1],[1,1,2,3,10,1000,100000000000000000000,10000000000000000000000000000000000000000],fun q=>sz q≤133,rfl,rfl,⟨by decide,by decide,by decide,bp (by decide) (by decide) (by decide)⟩,fun g M4 hg s4=>hP3 _ _ ?_⟩
 clear hP3 P3
 have st:=((s1.trans s2).trans s3).trans s4
 have z0:sz (0:Rat)≤1:=by rw[RM.F9];decide
 have scale:∀ y u:Rat,sz y≤463∧sz u≤463∧sz y+sz u≤700→(sz y+sz g≤8900∧sz u+sz g≤8900)∧R (u3 (y*g) (u*g)) M4:=fun y u h=>by
  have m1:=RM.u5 y g
  have m2:=RM.u5 u g
  exact⟨⟨by omega,by omega⟩,k _ _ _ ((CD.ray2 (k:=sz y+133) (l:=sz u+133) (by omega) (by omega)).mono (by omega)) st⟩
 refine i3 fun P4 hP4=>?_
 walk_at "sim"
 refine⟨fun _=>k 0 0 _ ((CD.ray2 (k:=1) (l:=1) z0 z0).mono (by decide)) st,fun _=>hP4 _ _ ?_⟩
 clear hP4 P4
 refine i3 fun P5 hP5=>?_
 walk_at "sim"
 refine⟨fun _=>⟨hok,fun y u h=>by first|exact scale y u h|exact⟨y,u,g,rfl,scale y u h⟩⟩,fun _=>hP5 _ _ ?_⟩
 clear hP5 P5
 walk_at "sim"
 refine⟨fun _=>⟨hok,fun y u hyu=>⟨Ju,Mp,Hb,st.pool,by decide,fun v M5 v0 v1 s5=>?_⟩⟩,fun _=>scale q q1 ⟨by omega,by omega,by omega⟩⟩
 refine N5 v0 (by show v<3;exact v1) fun dd hdd=>?_
 obtain⟨N,rfl,N0,N1⟩:∃ N:Nat,dd = .int (N:Int)∧0<N∧N<2 ^ 133:=by
  rw[e18,e25]at hdd
  simp only[RC,RS,or_false]at hdd
  rcases hdd with rfl|rfl|rfl
  ·exact⟨1000000000000000000,rfl,by decide,by decide⟩
  ·exact⟨10000000000000000000000000,rfl,by decide,by decide⟩
  ·exact⟨10000000000000000000000000000000000000000,rfl,by decide,by decide⟩
 obtain⟨h,he,hz⟩:=AN N0 N1
 rw[he]
 have m1:=RM.u5 q h
 have m2:=RM.u5 q1 h
 have a1:=RM.U4 y (q*h)
 have a2:=RM.U4 u (q1*h)
 walk_at "sim"
 exact⟨⟨by omega,by omega⟩,by omega,by omega,k _ _ _ ((CD.ray2 (k:=sz y+140) (l:=sz u+140) (by omega) (by omega)).mono (by omega)) (st.trans s5)⟩
theorem kG(T:Txt K mg)(d:Df K mg "_law_stops" V5 ["pool","parts","count"])(NB:Fn P w K mg base "_law_next" 1 ["pool","base"] S1)(NG:Fn P w K mg base "_law_ratio" 3 ["pool","tops","bottoms"] my):Fn P w K mg base "_law_stops" 4 ["pool","parts","count"] gA:=by
 have sc:=kc
 walk_at "fn"
 obtain⟨p,x,n,rfl,hp,bs,rfl,⟨n0,n1,hl⟩,k⟩:=h
 refine⟨_,(d5 (jst 3 sc.nd (oU Cg rfl T.b_list R7 (a7 (a8 1) a9))) (d5 (u8 PassesOwn.never rfl (bj rfl T.b_range (a7 (jc NB hr (a7 (a8 0) (a7 (f9 F7 (a8 2) d4) a9))) a9)) (jn 4 sc.nd) (d5 (jst 5 sc.nd (jc NG hr (a7 (a8 0) (a7 (p6 (a7 d4 (a7 d4 (a7 d4 (a7 d4 (a7 d4 (a7 d4 (a7 d4 (a7 d4 (a7 d4 a9)))))))))) (a7 (p6 (a7 d4 (a7 d4 (a7 d4 (a7 d4 a9))))) a9))))) (d6 (C1 (T7 PySem.F.slot_list_insert PySem.F.type_list_insert ya (a8 3) (a7 (jc NB hr (a7 (a8 0) (a7 (f9 F7 (p7 J8 rfl T.b_len D4 (a7 (a8 3) a9)) d4) a9))) (a7 (e7 (a7 j5 (a7 (a8 5) a9))) a9))))))) (d6 (d9 (R0 (Q9 (a8 3))))))),?_⟩
 walk_at "sim"
 refine⟨_,bs.map g6,rfl,by simp only[j9],fun l hN=>?_⟩
 have hlp:l≠p:=fun e=>by obtain⟨_,_,_,hq⟩:=hp;rw[e,hq]at hN;cases hN
 have s0:y7 p M (B2 M l (.lst (bs.map g6))):=(y7.refl hp).put hN hlp
 refine⟨s0.pool,by omega,lg9 (by omega),fun r M1 r0 r1 s1=>⟨by omega,?_⟩⟩
 refine R4.by (fun i e M'=>∃(cs:List (Str × Rat)) (z4 z5:Option D),e=[some (.ref p),some (.vl (bs.map g6)),some (.int n),some (.ref l),z4,z5]∧M' l=some (.lst (cs.map g6))∧y7 p M M'∧cs.length=bs.length+i∧cs.filter R3=bs.filter R3∧(∀ x∈cs,x∈bs∨(x.1 = "stop" ∧ 0<x.2∧sz x.2≤10))) ?_ (fun _ _ _ _ _=>trivial) ?_ ?_
 ·exact⟨bs,_,_,rfl,s1.keep l _ hlp g9,s0.trans s1,rfl,rfl,fun x hx=>.inl hx⟩
 ·rintro i dd e M' hd ⟨cs,z4,z5,rfl,hM,st,hc,hf,hm⟩
  have hi:=(Rc.mp hd).1
  rw[p5]at hi
  walk_at "sim"
  refine⟨st.pool,[1,2,3,4,5,7,12,40,1000],[1,1,2,3],fun q=>0<q∧sz q≤10,rfl,rfl,⟨by decide,by decide,by decide,wo (by decide) (by decide) (by decide)⟩,?_⟩
  rintro q M2 ⟨q0,q1⟩ s2
  have hM2:=s2.keep l _ hlp hM
  refine K6 hM2 ?_
  rw[qm (rJ hM2),Rh]
  walk_at "sim"
  refine⟨s2.pool,by omega,lg9 (by omega),fun j M3 j0 j1 s3=>?_⟩
  have hM3:=s3.keep l _ hlp hM2
  obtain⟨jn,rfl⟩:=Int.eq_ofNat_of_zero_le j0
  refine JJ hM3 (by rw[Rh];omega) (by rw[Rh];omega) ⟨cs.take jn++(Str.ofString "stop",q) :: cs.drop jn,some dd,some (d8 q),rfl,?_,((st.trans s2).trans s3).put hN hlp,?_,?_,?_⟩
  ·rw[g9,RB,Sh,Uz,Wh]
   rfl
  ·rw[RD,RV,Ss,Te];omega
  ·rw[Se,SG,show R3 (Str.ofString "stop",q)=false from rfl,← hf]
   show _++Ux R3 (cs.drop jn)=_
   rw[← Se,TM]
  ·intro x hx
   rcases RI.mp hx with hx|hx
   ·exact hm x (Ua hx)
   ·rcases RC.mp hx with rfl|hx
    ·exact .inr ⟨rfl,q0,q1⟩
    ·exact hm x (List.mem_of_mem_drop hx)
 ·rintro e M' ⟨cs,z4,z5,rfl,hM,st,hc,hf,hm⟩
  rw[p5]at hc
  walk_at "sim"
  refine⟨l,_,rfl,hM,?_⟩
  exact M9 (M2:=bG M' l) (fun _ _ h=>h) (k cs _ (by omega) hf hm (st.del hN hlp))
theorem jq(T:Txt K mg)(d:Df K mg "_law_pieces" S7 ["pool","gap"])(ND:Fn P w K mg base "minus" 4 ["one","other"] E7)(NH:Fn P w K mg base "ratio" 2 ["top","bottom"] X9)(NB:Fn P w K mg base "_law_next" 1 ["pool","base"] S1):Fn P w K mg base "_law_pieces" 5 ["pool","gap"] nO:=by
 have sc:=iR
 walk_at "fn"
 obtain⟨p,G,rfl,hp,⟨g0,g1⟩,k⟩:=h
 refine⟨_,(d5 (jst 2 sc.nd (f9 F7 d4 (jc NB hr (a7 (a8 0) (a7 d4 a9))))) (d5 (jst 3 sc.nd (ay a9)) (d5 (u8 PassesOwn.never rfl (bj rfl T.b_range (a7 (f9 bK (a8 2) d4) a9)) (jn 4 sc.nd) (d5 (jst 5 sc.nd (jc NH hr (a7 (jx (a8 1) d4) (a7 (f9 o8 (jx (a8 1) d4) (f9 F7 d4 (jc NB hr (a7 (a8 0) (a7 d4 a9))))) a9)))) (d5 (C1 (T7 PySem.F.slot_list_append PySem.F.type_list_append C4 (a8 3) (a7 (e7 (a7 j5 (a7 (a8 5) a9))) a9))) (d6 (jst 1 sc.nd (jc ND hr (a7 (a8 1) (a7 (a8 5) a9)))))))) (d6 (d9 (R0 (R6 (Q9 (a8 3)) (p6 (a7 (e7 (a7 j5 (a7 (a8 1) a9))) a9))))))))),?_⟩
 walk_at "sim"
 refine⟨hp,lg9 (by decide),fun r M1 r0 r1 s1 l hl=>⟨by omega,?_⟩⟩
 have hlp:l≠p:=fun e=>by obtain⟨_,_,_,hq⟩:=s1.pool;rw[e,hq]at hl;cases hl
 refine R4.by (fun i e M'=>∃(qs:List Rat) (c:Rat) (z4 z5:Option D),e=[some (.ref p),some (d8 (G*c)),some (.int (1+r)),some (.ref l),z4,z5]∧M' l=some (.lst ((qs.map fun q=>(Str.ofString "gap",G*q)).map g6))∧y7 p M1 M'∧qs.length=i∧(∀ q∈qs,0≤q∧sz q≤5)∧0<c∧sz c≤1+2*i) ?_ (fun _ _ _ _ _=>trivial) ?_ ?_
 ·exact⟨[],1,_,_,by rw[show G*1=G by grind],g9,(y7.refl s1.pool).put hl hlp,rfl,fun q hq=>(by cases hq),by decide,by rw[RM.R9];omega⟩
 ·rintro i dd e M' hd ⟨qs,c,z4,z5,rfl,hM,st,hq,hqs,hc,hcz⟩
  have hi:=(Rc.mp hd).1
  rw[p5]at hi
  have zg:=RM.u5 G c
  walk_at "sim"
  refine⟨st.pool,lg9 (by decide),fun m M2 m0 m1 s2=>?_⟩
  rw[Fj (G*c) (2+m)]
  obtain⟨z1,z2,p1,p2⟩:=MW (m:=2+m) (by omega) (by omega)
  have hm0:((2+m:Int):Rat)≠0:=fun z=>by rw[z]at p1;exact absurd p1 (by decide +kernel)
  have dp:=(G*c).den_pos
  have dl:=G6 (G*c)
  have zd:=RM.G8 (G*c) ((2+m:Int):Rat) hm0
  have zc:=RM.G8 c ((2+m:Int):Rat) hm0
  have zr:=RM.u5 c (1 - 1 / ((2+m:Int):Rat))
  have hM2:M2 l=_:=s2.keep l _ hlp hM
  refine⟨LD (by omega) (by omega),Sw (by omega) (by omega),?_,K6 hM2 (R5 hM2 (by rw[Rh,Rh];omega) ⟨by omega,qs++[c / ((2+m:Int):Rat)],c*(1 - 1 / ((2+m:Int):Rat)),some dd,some (d8 (G*c / ((2+m:Int):Rat))),?_,?_,?_,?_,?_,?_,by omega⟩)⟩
  ·have h1:((G*c).den*(2+m.toNat))<2 ^ (sz (G*c)+3):=o6 dl (by omega)
   have e:(((G*c).den:Int)*(2+m)).natAbs=(G*c).den*(2+m.toNat):=by
    rw[RL,Rb];congr 1;omega
   rw[e]
   exact F5 (Rk h1 (RE (by decide) (by omega))) (by decide)
  ·rw[show G*c - G*c / ((2+m:Int):Rat)=G*(c*(1 - 1 / ((2+m:Int):Rat)))by grind]
  ·rw[g9,RB,RB,show G*c / ((2+m:Int):Rat)=G*(c / ((2+m:Int):Rat))by grind]
   rfl
  ·exact(st.trans s2).put hl hlp
  ·rw[RD];show qs.length+1=_;omega
  ·intro q hq'
   rcases RI.mp hq' with hq'|hq'
   ·exact hqs q hq'
   ·rw[Ry.mp hq']
    exact⟨by rw[show c / ((2+m:Int):Rat)=c*(1 / ((2+m:Int):Rat))by grind];exact US (Sm hc p1),by omega⟩
  ·exact Sm hc p2
 ·rintro e M' ⟨qs,c,z4,z5,rfl,hM,st,hq,hqs,hc,hcz⟩
  rw[p5]at hq hcz
  walk_at "sim"
  refine⟨l,_,rfl,hM,?_⟩
  show wy _ _ _ _
  walk_at "sim"
  have hl0:M l=none:=by
   cases e:M l with
   | none=>rfl
   | some o=>rw[s1.keep l o hlp e]at hl;cases hl
  have hs:1000≤sizeLine:=by decide
  refine⟨by rw[Rh,Rh];omega,M9 (M2:=bG M' l) (fun _ _ h=>h) ?_⟩
  have k2:=k (qs++[c]) (bG M' l) (by rw[RD];show qs.length+1≤3;omega) (fun q hq'=>by
   rcases RI.mp hq' with hq'|hq'
   ·exact hqs q hq'
   ·rw[Ry.mp hq'];exact⟨US hc,by omega⟩) ((s1.trans st).del hl0 hlp)
  rw[RB,RB]at k2
  exact k2
theorem cJ(T:Txt K mg)(d:Df K mg "_law_known_hall" J2 ["pool"])(NH:Fn P w K mg base "ratio" 2 ["top","bottom"] X9)(Od:Fn P w K mg base "_law_stops" 4 ["pool","parts","count"] gA)(OJ:Fn P w K mg base "_law_pieces" 5 ["pool","gap"] nO)(NG:Fn P w K mg base "_law_ratio" 3 ["pool","tops","bottoms"] my)(NB:Fn P w K mg base "_law_next" 1 ["pool","base"] S1):Fn P w K mg base "_law_known_hall" 6 ["pool"] qQ:=by
 have sc:=cc
 walk_at "fn"
 obtain⟨p,rfl,hp,k⟩:=h
 refine⟨_,(d5 (jst 1 sc.nd (p6 (a7 (e7 (a7 d4 (a7 d4 a9))) (a7 (e7 (a7 d4 (a7 d4 a9))) (a7 (e7 (a7 d4 (a7 (A1 d4) a9))) (a7 (e7 (a7 d4 (a7 d4 a9))) (a7 (e7 (a7 d4 (a7 d4 a9))) (a7 (e7 (a7 d4 (a7 d4 a9))) (a7 (e7 (a7 d4 (a7 d4 a9))) (a7 (e7 (a7 d4 (a7 d4 a9))) (a7 (e7 (a7 d4 (a7 d4 a9))) (a7 (e7 (a7 d4 (a7 d4 a9))) (a7 (e7 (a7 d4 (a7 d4 a9))) (a7 (e7 (a7 d4 (a7 d4 a9))) a9)))))))))))))) (d5 (u9 (jx (a8 1) (jc NB hr (a7 (a8 0) (a7 d4 a9)))) (i9 (n:=2) rfl (d7 (jn 2 sc.nd) (d7 (jn 3 sc.nd) i0)))) (d5 (jst 4 sc.nd (e7 (a7 d4 (a7 d4 a9)))) (O0 (g7 (jtm Y1 (jc NB hr (a7 (a8 0) (a7 d4 a9))) d4) (d5 (jst 5 sc.nd (p6 (a7 (e7 (a7 d4 (a7 d4 a9))) (a7 (e7 (a7 d4 (a7 d4 a9))) (a7 (e7 (a7 (A1 d4) (a7 (A1 d4) a9))) (a7 (e7 (a7 d4 (a7 d4 a9))) (a7 (e7 (a7 d4 (a7 d4 a9))) (a7 (e7 (a7 d4 (a7 (A1 d4) a9))) (a7 (e7 (a7 d4 (a7 d4 a9))) (a7 (e7 (a7 d4 (a7 d4 a9))) (a7 (e7 (a7 d4 (a7 d4 a9))) (a7 (e7 (a7 d4 (a7 d4 a9))) (a7 (e7 (a7 d4 (a7 d4 a9))) (a7 (e7 (a7 d4 (a7 (A1 d4) a9))) a9)))))))))))))) (d5 (u9 (jx (a8 5) (jc NB hr (a7 (a8 0) (a7 d4 a9)))) (i9 (n:=2) rfl (d7 (jn 2 sc.nd) (d7 (jn 3 sc.nd) i0)))) (d6 (jst 4 sc.nd (e7 (a7 d4 (a7 d4 a9))))))) f7) (d5 (jst 6 sc.nd (jc NG hr (a7 (a8 0) (a7 (p6 (a7 d4 (a7 d4 (a7 d4 (a7 d4 (a7 d4 (a7 d4 (a7 d4 (a7 d4 (a7 (f9 bL d4 d4) a9)))))))))) (a7 (p6 (a7 d4 (a7 d4 (a7 d4 (a7 d4 a9))))) a9))))) (d5 (jst 7 sc.nd (jc Od hr (a7 (a8 0) (a7 (jc OJ hr (a7 (a8 0) (a7 (a8 6) a9))) (a7 d4 a9))))) (d5 (jst 8 sc.nd (jc NH hr (a7 (f9 o8 (a8 2) (jx (a8 6) d4)) (a7 (f9 o8 (jx (a8 4) d4) (jx (a8 6) d4)) a9)))) (d6 (d9 (e7 (a7 (a8 8) (a7 (a8 7) (a7 (jc NH hr (a7 (f9 o8 (a8 3) (jx (a8 6) d4)) (a7 (f9 o8 (jx (a8 4) d4) (jx (a8 6) d4)) a9))) a9))))))))))))),?_⟩
 refine i3 fun P1 hP1=>?_
 walk_at "sim"
 refine hP1 _ _ ?_
 clear hP1 P1
 refine i3 fun P2 hP2=>?_
 walk_at "sim"
 refine⟨hp,lg9 (by decide),fun r M1 r0 r1 s1=>N5 r0 (by show r<12;omega) fun d hd=>?_⟩
 obtain⟨n,f,rfl,hn,hf⟩:∃ n f:Int,d = .tup [.int n,.int f]∧n.natAbs≤13∧f.natAbs≤13:=by
  simp only[RC,RS,or_false]at hd
  rcases hd with rfl|rfl|rfl|rfl|rfl|rfl|rfl|rfl|rfl|rfl|rfl|rfl
  all_goals exact⟨_,_,rfl,by decide,by decide⟩
 walk_at "sim"
 refine hP2 _ _ ?_
 clear hP2 P2
 refine i3 fun P3 hP3=>?_
 walk_at "sim"
 refine hP3 _ _ ?_
 clear hP3 P3
 refine fc (fun e' M'=>∃(n f b:Int) (x1 x5:Option D),e'=[some (.ref p),x1,some (.int n),some (.int f),some (.tup [.int b,.int b]),x5,none,none,none]∧n.natAbs≤13∧f.natAbs≤13∧(b=1∨b=2)∧y7 p M M') ?_ ?_
 ·walk_at "sim"
  refine⟨s1.pool,lg9 (by decide),fun r' M2 r0' r1' s2=>⟨fun _=>?_,fun _=>⟨n,f,1,_,_,rfl,hn,hf,.inl rfl,s1.trans s2⟩⟩⟩
  refine⟨s2.pool,lg9 (by decide),fun r2 M3 r20 r21 s3=>N5 r20 (by show r2<12;omega) fun d hd=>?_⟩
  obtain⟨n',f',rfl,hn',hf'⟩:∃ n f:Int,d = .tup [.int n,.int f]∧n.natAbs≤13∧f.natAbs≤13:=by
   simp only[RC,RS,or_false]at hd
   rcases hd with rfl|rfl|rfl|rfl|rfl|rfl|rfl|rfl|rfl|rfl|rfl|rfl
   all_goals exact⟨_,_,rfl,by decide,by decide⟩
  walk_at "sim"
  exact⟨n',f',2,_,_,rfl,hn',hf',.inr rfl,(s1.trans s2).trans s3⟩
 ·rintro e' M2 ⟨n,f,b,x1,x5,rfl,hn,hf,hb,s2⟩
  refine i3 fun P4 hP4=>?_
  walk_at "sim"
  refine⟨⟨by decide,by decide,by decide⟩,s2.pool,[1,2,3,5,1,2,3,5,10 ^ Vu 20],[1,1,2,3],fun q=>0<q∧sz q≤67,rfl,rfl,⟨by decide,by decide,by decide,wo (by decide) (by decide) (by decide)⟩,?_⟩
  rintro G M3 ⟨G0,G1⟩ s3
  refine hP4 _ _ ?_
  clear hP4 P4
  refine i3 fun P5 hP5=>?_
  walk_at "sim"
  refine⟨s3.pool,⟨G0,G1⟩,fun qs M4 ql hqs s4=>⟨s4.pool,_,rfl,by rw[Rh];omega,fun cs M5 cl cf cm s5=>hP5 _ _ ?_⟩⟩
  clear hP5 P5
  rw[Rh]at cl
  have hc7:cs.length≤7:=Ro cl (by show qs.length+4≤7;omega)
  obtain⟨H1,H2,H3⟩:=Bk G0 G1 ql hqs hc7 cf cm hn hf hb
  have gp:=oN G0
  have b0:b≠0:=by omega
  have ne:b*G.num≠0:=Sw b0 (by omega)
  have lg:(b*G.num).natAbs.log2<9000:=F5 (Rk (e8 (show b.natAbs<2 ^ 2 by omega) (u0 G G1)) (RE (by decide) (by decide))) (by decide)
  have i1:IntMulOk b G.num:=rG (by omega) (by omega)
  refine i3 fun P6 hP6=>?_
  walk_at "sim"
  rw[rH gp b0]
  refine⟨rG (by omega) (by omega),i1,ne,lg,hP6 _ _ ?_⟩
  clear hP6 P6
  walk_at "sim"
  rw[rH gp b0]
  exact⟨rG (by omega) (by omega),i1,ne,lg,k _ _ _ _ H1 H2 H3 (((s2.trans s3).trans s4).trans s5)⟩
theorem oM(T:Txt K mg)(d:Df K mg "_law_hall" aj ["pool"])(NG:Fn P w K mg base "_law_ratio" 3 ["pool","tops","bottoms"] my)(Od:Fn P w K mg base "_law_stops" 4 ["pool","parts","count"] gA)(NB:Fn P w K mg base "_law_next" 1 ["pool","base"] S1)(ND:Fn P w K mg base "minus" 4 ["one","other"] E7)(Ox:Fn P w K mg base "_law_known_hall" 6 ["pool"] qQ):Fn P w K mg base "_law_hall" 7 ["pool"] qQ:=by
 have sc:=nu
 walk_at "fn"
 obtain⟨p,rfl,hp,k⟩:=h
 refine⟨_,(d5 (jst 1 sc.nd (jc NB hr (a7 (a8 0) (a7 d4 a9)))) (d5 (g7 (jtm cM (a8 1) d4) (d6 (d9 (R0 (jc Ox hr (a7 (a8 0) a9))))) f7) (d5 (jst 2 sc.nd (jc NG hr (a7 (a8 0) (a7 (p6 (a7 d4 (a7 d4 (a7 (A1 d4) (a7 d4 (a7 d4 (a7 (A1 d4) a9))))))) (a7 (p6 (a7 d4 (a7 d4 (a7 d4 a9)))) a9))))) (d5 (g7 (jtm Y1 (a8 1) d4) (d6 (d9 (R0 (e7 (a7 (a8 2) (a7 (jc Od hr (a7 (a8 0) (a7 (p6 a9) (a7 d4 a9)))) (a7 (jc ND hr (a7 (e7 (a7 d4 (a7 d4 a9))) (a7 (a8 2) a9))) a9))))))) f7) (d5 (jst 3 sc.nd (ay a9)) (d5 (u8 PassesOwn.never rfl (bj rfl T.b_range (a7 (jc NB hr (a7 (a8 0) (a7 d4 a9))) a9)) (jn 4 sc.nd) (d6 (g7 (jtm Y1 (jc NB hr (a7 (a8 0) (a7 d4 a9))) d4) (d6 (C1 (T7 PySem.F.slot_list_append PySem.F.type_list_append C4 (a8 3) (a7 (e7 (a7 j5 (a7 (jc NG hr (a7 (a8 0) (a7 (p6 (a7 d4 (a7 d4 (a7 d4 (a7 d4 (a7 d4 (a7 d4 a9))))))) (a7 (p6 (a7 d4 (a7 d4 (a7 d4 a9)))) a9)))) a9))) a9)))) (d6 (C1 (T7 PySem.F.slot_list_append PySem.F.type_list_append C4 (a8 3) (a7 (e7 (a7 j5 (a7 (jc NG hr (a7 (a8 0) (a7 (p6 (a7 d4 (a7 d4 (a7 (A1 d4) (a7 d4 (a7 (A1 d4) (a7 d4 a9))))))) (a7 (p6 (a7 d4 (a7 d4 (a7 d4 a9)))) a9)))) a9))) a9))))))) (d6 (d9 (R0 (e7 (a7 (a8 2) (a7 (jc Od hr (a7 (a8 0) (a7 (Q9 (a8 3)) (a7 d4 a9)))) (a7 (jc NG hr (a7 (a8 0) (a7 (p6 (a7 d4 (a7 d4 (a7 (A1 d4) (a7 d4 (a7 (A1 d4) (a7 d4 a9))))))) (a7 (p6 (a7 d4 (a7 d4 a9))) a9)))) a9))))))))))))),?_⟩
 walk_at "sim"
 refine⟨hp,lg9 (by decide),fun r M1 r0 r1 s1=>⟨fun _=>⟨s1.pool,fun near bs far M2 h1 h2 h3 s2=>M9 (M2:=M2) (fun _ _ h=>h) (k near bs far M2 h1 h2 h3 (s1.trans s2))⟩,fun _=>?_⟩⟩
 refine⟨s1.pool,[0,1,-1,2,1,-3],[1,2,3],fun q=>sz q≤5,rfl,rfl,⟨by decide,by decide,by decide,bp (by decide) (by decide) (by decide)⟩,fun q M2 hq s2=>⟨fun _=>?_,fun _ l hN=>?_⟩⟩
 ·have zn:=RM.O6 q
  refine⟨s2.pool,[],rfl,by decide,fun cs M3 cl cf cm s3=>⟨by rw[RM.F9];omega,M9 (M2:=M3) (fun _ _ h=>h) ?_⟩⟩
  obtain⟨H1,H2,H3⟩:=qX (near:=q) (far:=0 - q) (bs:=[]) hq (by rw[show 0 - q = -q by grind,zn];exact hq) (fun x hx=>(by cases hx)) (by decide) (Ro cl (by decide)) cf cm
  exact k _ _ _ _ H1 H2 H3 ((s1.trans s2).trans s3)
 ·have hlp:l≠p:=fun e=>by obtain⟨_,_,_,hq⟩:=s2.pool;rw[e,hq]at hN;cases hN
  have s12:=s1.trans s2
  have hM0:M l=none:=by
   cases e:M l with
   | none=>rfl
   | some o=>rw[s12.keep l o hlp e]at hN;cases hN
  have s0:y7 p M2 (B2 M2 l (.lst [])):=(y7.refl s2.pool).put hN hlp
  refine⟨s0.pool,lg9 (by decide),fun n M3 n0 n1 s3=>⟨by omega,?_⟩⟩
  refine R4.by (fun i e M'=>∃(bs:List (Str × Rat)) (z4:Option D),e=[some (.ref p),some (.int r),some (d8 q),some (.ref l),z4]∧M' l=some (.lst (bs.map g6))∧y7 p M2 M'∧bs.length=i∧(∀ x∈bs,sz x.2≤5∧((x.1 = "gap" ∧ 0≤x.2)∨x.1 = "glass"))) ?_ (fun _ _ _ _ _=>trivial) ?_ ?_
  ·exact⟨[],_,rfl,s3.keep l _ hlp g9,s0.trans s3,rfl,fun x hx=>(by cases hx)⟩
  ·rintro i dd e M' hd ⟨bs,z4,rfl,hM,st,hb,hbs⟩
   have hi:=(Rc.mp hd).1
   rw[p5]at hi
   have hadd:∀(w:Str) (q2:Rat) (M5:Mem),y7 p M' M5→sz q2≤5→((w = "gap" ∧ 0≤q2)∨w = "glass")→∃(bs':List (Str × Rat)) (z4:Option D),[some (D.ref p),some (D.int r),some (d8 q),some (D.ref l),some dd]=[some (.ref p),some (.int r),some (d8 q),some (.ref l),z4]∧(B2 M5 l (.lst (bs.map g6++[.tup [.str w,d8 q2]]))) l=some (.lst (bs'.map g6))∧y7 p M2 (B2 M5 l (.lst (bs.map g6++[.tup [.str w,d8 q2]])))∧bs'.length=i+1∧(∀ x∈bs',sz x.2≤5∧((x.1 = "gap" ∧ 0≤x.2)∨x.1 = "glass")):=fun w q2 M5 s5 hq2 hw=>by
    refine⟨bs++[(w,q2)],_,rfl,by rw[g9,RB];rfl,(st.trans s5).put hN hlp,by rw[RD];show bs.length+1=_;omega,fun x hx=>?_⟩
    rcases RI.mp hx with hx|hx
    ·exact hbs x hx
    ·rw[Ry.mp hx];exact⟨hq2,hw⟩
   walk_at "sim"
   refine⟨st.pool,lg9 (by decide),fun g M4 g0 g1 s4=>⟨fun _=>K6 (s4.keep l _ hlp hM) ⟨s4.pool,[0,1,2,3,1,5],[1,2,3],fun q=>0≤q∧sz q≤5,rfl,rfl,⟨by decide,by decide,by decide,EY (by decide) (by decide) (by decide)⟩,?_⟩,fun _=>K6 (s4.keep l _ hlp hM) ⟨s4.pool,[0,1,-1,2,-2,3],[1,2,3],fun q=>sz q≤5,rfl,rfl,⟨by decide,by decide,by decide,bp (by decide) (by decide) (by decide)⟩,?_⟩⟩⟩
   ·rintro q2 M5 ⟨h1,h2⟩ s5
    exact R5 (s5.keep l _ hlp (s4.keep l _ hlp hM)) (by rw[Rh];omega) (hadd _ _ _ (s4.trans s5) h2 (.inl ⟨rfl,h1⟩))
   ·rintro q2 M5 h2 s5
    exact R5 (s5.keep l _ hlp (s4.keep l _ hlp hM)) (by rw[Rh];omega) (hadd _ _ _ (s4.trans s5) h2 (.inr rfl))
  ·rintro e M' ⟨bs,z4,rfl,hM,st,hb,hbs⟩
   rw[p5]at hb
   walk_at "sim"
   refine⟨l,_,rfl,hM,?_⟩
   have sd:=st.del hN hlp
   refine⟨sd.pool,bs,rfl,by omega,fun cs M4 cl cf cm s4=>⟨s4.pool,[0,1,-1,2,-2,3],[1,2],fun q=>sz q≤5,rfl,rfl,⟨by decide,by decide,by decide,bp (by decide) (by decide) (by decide)⟩,fun f M5 hf s5=>M9 (M2:=M5) (fun _ _ h=>h) ?_⟩⟩
   obtain⟨H1,H2,H3⟩:=qX hq hf hbs (by omega) (Ro cl (by show bs.length+3≤7;omega)) cf cm
   exact k _ _ _ _ H1 H2 H3 (((s12.trans sd).trans s4).trans s5)
theorem oI(T:Txt K mg)(d:Df K mg "_law_pool" ag ["cell"]):Fn P w K mg base "_law_pool" 1 ["cell"] sV:=by
 have sc:=nq
 refine i8 d sc (fun ds M R Y h=>?_) (fun f cdv A outer s H E ds M R Y hr h=>?_)
 ·obtain⟨c,rfl,_⟩:=h;rfl
 ·obtain⟨c,rfl,k⟩:=h
  refine⟨_,(d6 (d9 (ay (a7 (p7 (He rfl) rfl T.b_max Cj (a7 d4 (a7 (f9 bK (a8 0) (f9 bL d4 d4)) a9))) (a7 (f9 ju (a8 0) (f9 bL d4 d4)) (a7 d4 a9)))))),?_⟩
  refine⟨_,rfl,_,_,rfl,rfl,Ju,_,rfl,_,_,rfl,_,rfl,_,_,rfl,rfl,Ju,_,_,rfl,rfl,(by show(0:Int)<10 ^ 18;decide),sl 3,fun p hp=>?_⟩
  exact k p _ hp (MK.new hp) ⟨_,_,_,g9⟩
theorem IJ{f:Addr}{fd:FuncData}(T:Txt K mg)(d:Fw K "law" Af f fd)(PM:Fn P w K mg base "ever" 8 ["hall","ray"] oa)(OP:Fn P w K mg base "_law_right" 11 ["hall","ray","told"] tF)(OQ:Fn P w K mg base "_law_tight" 9 ["pool","hall","ray"] nH)(Pc:Fn P w K mg base "_law_ray" 10 ["pool","hall"] Ai)(OU:Fn P w K mg base "_law_hall" 7 ["pool"] qQ)(OV:Fn P w K mg base "_law_pool" 1 ["cell"] sV):Y6 P w K mg base CX0 12 f fd ["script"] (qt K vK):=by
 have sc:=HM
 refine GI d sc (fun ds M R Y h=>by obtain⟨n,rfl,_⟩:=h;rfl) (fun cdv A outer s H E ds M R Y hr h=>?_)
 obtain⟨ns,rfl,hlen,k⟩:=h
 have hu:=hr.units
 refine⟨_,(d5 (u8 PassesOwn.never rfl (A5 (R6 (p6 (a7 d4 a9)) (a8 0))) (jn 1 sc.nd) (d5 (jst 2 sc.nd (jc OV hr (a7 (a8 1) a9))) (d5 (jst 3 sc.nd (jc OU hr (a7 (a8 2) a9))) (d5 (jst 4 sc.nd (jc Pc hr (a7 (a8 2) (a7 (a8 3) a9)))) (d5 (jst 3 sc.nd (jc OQ hr (a7 (a8 2) (a7 (a8 3) (a7 (a8 4) a9))))) (d5 (jst 5 sc.nd (e7 (a7 (jx (a8 3) d4) (a7 (dN rfl T.b_list R7 (a7 (jx (a8 3) d4) a9)) (a7 (jx (a8 3) d4) a9))))) (d5 (jst 6 sc.nd (jc PM hr (a7 (a8 3) (a7 (a8 4) a9)))) (d5 (g7 (F2 (C2 (F6 (p9 (jc OP hr (a7 (a8 3) (a7 (a8 4) (a7 (a8 6) a9)))))) (D8 (jtm (jt hu) (a8 3) (a8 5))))) (d6 (d9 D3)) f7) (d5 (g7 (jtm D6 (jx (a8 6) d4) j5) (d5 (jst 7 sc.nd (dN rfl T.b_list R7 (a7 (jx (a8 6) d4) a9))) (d5 (C1 (T7 PySem.F.slot_list_append PySem.F.type_list_append C4 (jx (a8 6) d4) (a7 (e7 (a7 j5 a9)) a9))) (d6 (jst 6 sc.nd (e7 (a7 j5 (a7 (a8 7) a9))))))) f7) (d6 (g7 (jtm (jt hu) (EO (jc PM hr (a7 (e7 (a7 (jx (a8 3) d4) (a7 (oU Cf rfl T.b_tuple aD (a7 (jx (a8 3) d4) a9)) (a7 (jx (a8 3) d4) a9)))) (a7 (a8 4) a9)))) (a8 6)) (d6 (d9 D3)) f7))))))))))) (d6 (d9 D3))),?_⟩
 walk_at "sim"
 refine⟨Ro (by rw[Rh];omega) (show 1000≤sizeLine by decide),?_⟩
 refine R4.by (fun i e M'=>∃ x1 x2 x3 x4 x5 x6 x7:Option D,e=[some (.vl (ns.map D.int)),x1,x2,x3,x4,x5,x6,x7]) ⟨_,_,_,_,_,_,_,rfl⟩ (fun i e M' _ _=>by simp only[j9]) ?_ ?_
 ·rintro i dd e M' hd ⟨x1,x2,x3,x4,x5,x6,x7,rfl⟩
  obtain⟨n,rfl⟩:∃ n:Int,dd = .int n:=by
   have hm:=Rg hd
   rcases RC.mp hm with rfl|hm
   ·exact⟨0,rfl⟩
   ·obtain⟨n,_,rfl⟩:=RP.mp hm
    exact⟨n,rfl⟩
  refine i3 fun P1 hP1=>?_
  walk_at "sim"
  refine fun p M1 hp mk hP=>hP1 _ _ ?_
  clear hP1 P1
  refine i3 fun P2 hP2=>?_
  walk_at "sim"
  refine⟨hP,fun near bs0 far M2 hok hl7 ha s2=>hP2 _ _ ?_⟩
  clear hP2 P2
  refine i3 fun P3 hP3=>?_
  walk_at "sim"
  refine⟨s2.pool,hok,fun y u M3 cd s3=>hP3 _ _ ?_⟩
  clear hP3 P3
  refine i3 fun P4 hP4=>?_
  walk_at "sim"
  refine⟨s3.pool,⟨hok,hl7,cd⟩,fun bs M4 hw hz s4=>hP4 _ _ ?_⟩
  clear hP4 P4
  refine i3 fun P5 hP5=>?_
  walk_at "sim"
  refine hP5 _ _ ?_
  clear hP5 P5
  refine i3 fun P6 hP6=>?_
  walk_at "sim"
  refine⟨⟨hw,_,cd,by decide⟩,fun r h1=>?_⟩
  have hT:∀ z∈g8 near bs far,cl 59 z.1=true∧cl 59 z.2.1=true:=fun z hz=>dR hz 58
  have cB:clL 58 (bs.map g6)=true:=ux fun d hd=>by
   obtain⟨x,hx,rfl⟩:=RP.mp hd
   have cs:cl 57 (.str x.1)=true:=by
    rcases hw.part x hx with(e|e)|⟨e,_⟩<;>rw[e]<;>decide +kernel
   show(cl 57 (.str x.1) && (cl 57 (d8 x.2) && true))=true
   rw[cs];rfl
  have c6:=BF hT (Jn h1)
  have hNl:=O4 near far bs y u
  have hbl:=hw.len
  cases r with
  | never =>
   intro q hq
   refine hP6 _ _ ?_
   clear hP6 P6
   refine i3 fun P7 hP7=>?_
   walk_at "sim"
   refine⟨near,bs,far,.never,rfl,⟨hw,cd,h1,q,rfl,g9⟩,?_⟩
   walk_at "sim"
   refine⟨cB,cB,hP7 _ _ ?_⟩
   clear hP7 P7
   refine i3 fun P8 hP8=>?_
   walk_at "sim"
   refine⟨_,_,rfl,.inr (.inl ⟨q,rfl,g9⟩),K6 g9 (R5 g9 (by rw[Rh,Rh];omega) (hP8 _ _ ?_))⟩
   clear hP8 P8
   walk_at "sim"
   rw[sJ]
   walk_at "sim"
   refine⟨⟨hw,_,cd,by decide⟩,fun r2 h2=>?_⟩
   obtain rfl:=pB.uniq h1 h2
   intro q2 hq2
   have c7:(cl 59 (D.str (Str.ofString "never")) && (cl 59 (D.vl ((((t9 near bs far y u).map (F3 (tbQ (e6 near bs far))))).map enD)) && true))=true:=c6
   rw[Vs]at c7
   exact Fx hq2 ⟨c6,c7,fun h=>absurd rfl h,fun _=>⟨_,_,_,_,_,_,_,rfl⟩⟩
  | stopped n k =>
   refine hP6 _ _ ?_
   clear hP6 P6
   refine i3 fun P7 hP7=>?_
   walk_at "sim"
   refine⟨near,bs,far,.stopped n k,rfl,⟨hw,cd,h1,rfl⟩,?_⟩
   walk_at "sim"
   refine⟨cB,cB,hP7 _ _ ?_⟩
   clear hP7 P7
   unfold evD at c6 ⊢
   refine i3 fun P8 hP8=>?_
   walk_at "sim"
   refine hP8 _ _ ?_
   clear hP8 P8
   walk_at "sim"
   rw[sJ]
   walk_at "sim"
   refine⟨⟨hw,_,cd,by decide⟩,fun r2 h2=>?_⟩
   obtain rfl:=pB.uniq h1 h2
   have c7:(cl 59 (D.str (Str.ofString "stopped")) && (true && (cl 59 ((A8 (g8 near bs far) (g8 near bs far).length).getD k (.non,.non)).1 && (cl 59 ((A8 (g8 near bs far) (g8 near bs far).length).getD k (.non,.non)).2 && true))))=true:=c6
   rw[Vs,Uw]at c7
   exact Or.inr ⟨c6,c7,fun h=>absurd rfl h,fun _=>⟨_,_,_,_,_,_,_,rfl⟩⟩
  | late k =>
   refine hP6 _ _ ?_
   clear hP6 P6
   refine i3 fun P7 hP7=>?_
   walk_at "sim"
   refine⟨near,bs,far,.late k,rfl,⟨hw,cd,h1,rfl⟩,?_⟩
   walk_at "sim"
   refine⟨cB,cB,hP7 _ _ ?_⟩
   clear hP7 P7
   unfold evD at c6 ⊢
   refine i3 fun P8 hP8=>?_
   walk_at "sim"
   refine hP8 _ _ ?_
   clear hP8 P8
   walk_at "sim"
   rw[sJ]
   walk_at "sim"
   refine⟨⟨hw,_,cd,by decide⟩,fun r2 h2=>?_⟩
   obtain rfl:=pB.uniq h1 h2
   exact Or.inr ⟨c6,by decide +kernel,fun h=>absurd rfl h,fun _=>⟨_,_,_,_,_,_,_,rfl⟩⟩
 ·rintro e M' ⟨x1,x2,x3,x4,x5,x6,x7,rfl⟩
  walk_at "sim"
  exact k _
end
end K40
namespace K40
open PySem PySem.Spec L2 DL GM
theorem Jy{P:Program}{w:World}{K:Ra}{mg:Str→Option Value}{fa:Addr}(T:Txt K mg)(hfa:mg "law" = some (.ref fa))(QJ:Df K mg "divisor" eF ["one","other"])(Qx:Df K mg "is_whole" cA ["thing"])(QH:Df K mg "ratio" gg ["top","bottom"])(QS:Df K mg "over" tm ["one","other"])(Ql:Df K mg "tops_over" Z5 ["ratios","bottom"])(Pp:Df K mg "common_bottom" L8 ["ratios"])(QP:Df K mg "swing" nv ["t","x","later"])(Qy:Df K mg "reach_by" cu ["t","x","later"])(QM:Df K mg "plus" nA ["one","other"])(QT:Df K mg "t_of" tf ["table"])(Qz:Df K mg "opposite" cy ["one"])(Po:Df K mg "rounds_to_self" K1 ["table"])(QA:Df K mg "shown_by" cp ["word","table","x","later"])(QN:Df K mg "less" nD ["one","other"])(QB:Df K mg "unsigned" cj ["one"])(Qm:Df K mg "kind_word" Z9 ["table"])(PN:Df K mg "next_state" U8 ["t","state"])(Pz:Df K mg "first_state" S5 ["t","x","later","r"])(PB:Df K mg "stop_within" S2 ["t","numbers","watched","rounds"])(Pq:Df K mg "sheared_round" L6 ["t","x","later","r"])(Pr:Df K mg "first_sheared" L7 ["t","numbers","late"])(PQ:Df K mg "first_stop" V2 ["table","numbers","late"])(QI:Df K mg "times" gf ["one","other"])(PR:Df K mg "shows_late" U7 ["word","t","x","later","r"])(PV:Df K mg "late_lines" U9 ["table","numbers"])(Qn:Df K mg "number_of" Z8 ["p","q","ray"])(QX:Df K mg "led" Ae ["table","ray"])(Qo:Df K mg "first_two" aa ["table","ray","lines"])(QQ:Df K mg "minus" nB ["one","other"])(PD:Df K mg "led_by_part" S4 ["part","ray"])(QC:Df K mg "lines_of" cz ["bench"])(Pw:Df K mg "turned_bench" O8 ["bench"])(PF:Df K mg "round_bench" S3 ["hall"])(PX:Df K mg "hall_lines" V0 ["hall"])(PY:Df K mg "by_columns" V3 ["first","second"])(QD:Df K mg "table_of" ck ["bench"])(QE:Df K mg "round_of" cq ["hall"])(QU:Df K mg "ever" tw ["hall","ray"])(PH:Df K mg "_law_beyond" S8 ["x","r"])(PZ:Df K mg "_law_parts" V9 ["hall"])(Qp:Df K mg "_law_part" ah ["part","ray"])(Qa:Df K mg "_law_round" V6 ["hall","ray"])(Qq:Df K mg "_law_same" ae ["hall"])(Px:Df K mg "_law_turning" O9 ["hall","t"])(Qb:Df K mg "_law_reach" V8 ["t","x","further"])(Qc:Df K mg "_law_lines" W2 ["hall"])(Py:Df K mg "_law_numbers" P9 ["hall","ray"])(QO:Df K mg "_law_t" iU ["hall"])(Pf:Df K mg "_law_late_shown" J1 ["hall","ray","k"])(QF:Df K mg "is_ratio" cC ["thing"])(Qe:Df K mg "_law_march" W1 ["t","x","further","r","rounds"])(Pd:Df K mg "_law_entry_shown" G5 ["hall","t","x","further","r","entry"])(Pe:Df K mg "_law_paper_shown" G4 ["hall","ray","paper"])(QK:Df K mg "_law_at" eG ["t","x","further","n"])(Pt:Df K mg "_law_far_stop" L9 ["hall","ray","n","k"])(Pg:Df K mg "_law_first_stop" J3 ["hall","ray","rounds"])(Qg:Df K mg "_law_right" V7 ["hall","ray","told"])(Qr:Df K mg "_law_next" ai ["pool","base"])(Ph:Df K mg "_law_whole_root" I0 ["number"])(QR:Df K mg "reach" ny ["hall","ray","p","q"])(Qh:Df K mg "floor_root" V1 ["number"])(QV:Df K mg "root" tj ["one"])(Qs:Df K mg "shrinking" Z6 ["t"])(Qt:Df K mg "ray_along" Z7 ["table"])(QL:Df K mg "form_of" eE ["table"])(QW:Df K mg "kind" tq ["hall"])(Qi:Df K mg "_law_tight" V4 ["pool","hall","ray"])(PJ:Df K mg "_law_scaled" S6 ["ray","factor"])(Qj:Df K mg "_law_along" W3 ["hall","other"])(Pj:Df K mg "_law_ratio" N2 ["pool","tops","bottoms"])(QG:Df K mg "_law_ray" cD ["pool","hall"])(Qk:Df K mg "_law_stops" V5 ["pool","parts","count"])(PK:Df K mg "_law_pieces" S7 ["pool","gap"])(Pk:Df K mg "_law_known_hall" J2 ["pool"])(Qu:Df K mg "_law_hall" aj ["pool"])(Qv:Df K mg "_law_pool" ag ["cell"])(QY:DfL K mg "law" Af ["script"]) :
  ∃ fd:FuncData,(∀(s:Shared) (u:Value),BindsTo s fd ⟨[u],[]⟩ [("script",u)])∧∀ base:Heap,Y6 P w K mg base CX0 12 fa fd ["script"] (qt K vK):=by
 obtain⟨f,fd,F,hm,hb⟩:=QY.ex
 have e:f=fa:=by rw[hm]at hfa;injection hfa with z;injection z
 subst e
 refine⟨fd,fun s u=>.of_eq (hb [u] rfl),fun base=>?_⟩
 have NT:=tZ (P:=P) (w:=w) (base:=base) T QJ
 have NM:=rC (P:=P) (w:=w) (base:=base) T Qx
 have NH:=AS (P:=P) (w:=w) (base:=base) T QH NM NT
 have NW:=EE (P:=P) (w:=w) (base:=base) T QS NH
 have NY:=ox (P:=P) (w:=w) (base:=base) T Ql
 have NL:=eR (P:=P) (w:=w) (base:=base) T Pp NT
 have OW:=AQ (P:=P) (w:=w) (base:=base) T QP NY NL
 have Oc:=rm (P:=P) (w:=w) (base:=base) T Qy OW
 have NI:=ED (P:=P) (w:=w) (base:=base) T QM NH
 have NR:=EB (P:=P) (w:=w) (base:=base) T QT NI
 have NO:=rA (P:=P) (w:=w) (base:=base) T Qz
 have NF:=dI (P:=P) (w:=w) (base:=base) T Po NO NR
 have Pa:=rj (P:=P) (w:=w) (base:=base) T QA NW NH Oc NR NF
 have Of:=EF (P:=P) (w:=w) (base:=base) T QN
 have NU:=rb (P:=P) (w:=w) (base:=base) T QB
 have NN:=oF (P:=P) (w:=w) (base:=base) T Qm Of NU NR NF
 have OK:=ky (P:=P) (w:=w) (base:=base) T PN
 have OI:=jk (P:=P) (w:=w) (base:=base) T Pz NY NL
 have OA:=jh (P:=P) (w:=w) (base:=base) T PB OK OI
 have OB:=eP (P:=P) (w:=w) (base:=base) T Pq NY NL
 have OC:=eQ (P:=P) (w:=w) (base:=base) T Pr OB
 have ON:=kC (P:=P) (w:=w) (base:=base) T PQ OA OC NF NN NR Of NU
 have NX:=tX (P:=P) (w:=w) (base:=base) T QN
 have NC:=AO (P:=P) (w:=w) (base:=base) T QI NH
 have OL:=kv (P:=P) (w:=w) (base:=base) T PR Of NU OW NX Oc NC
 have OO:=kz (P:=P) (w:=w) (base:=base) T PV OL NR NN
 have Ob:=oA (P:=P) (w:=w) (base:=base) T Qn NI NC
 have PL:=II (P:=P) (w:=w) (base:=base) T QX NI NC
 have OR:=oG (P:=P) (w:=w) (base:=base) T Qo Ob PL
 have ND:=AU (P:=P) (w:=w) (base:=base) T QQ NI NO
 have NS:=jj (P:=P) (w:=w) (base:=base) T PD ND NC NI
 have OY:=rB (P:=P) (w:=w) (base:=base) T QC NS
 have OH:=fQ (P:=P) (w:=w) (base:=base) T Pw
 have Oe:=ji (P:=P) (w:=w) (base:=base) T PF OH
 have Oh:=kA (P:=P) (w:=w) (base:=base) T PX OY Oe
 have OM:=kD (P:=P) (w:=w) (base:=base) T PY
 have OZ:=rh (P:=P) (w:=w) (base:=base) T QD OM NS
 have NQ:=rk (P:=P) (w:=w) (base:=base) T QE OZ Oe
 have PM:=EH (P:=P) (w:=w) (base:=base) T QU Pa NN ON OO OR Oh NQ
 have NK:=jr (P:=P) (w:=w) (base:=base) T PH
 have Oi:=kL (P:=P) (w:=w) (base:=base) T PZ
 have Og:=oJ (P:=P) (w:=w) (base:=base) T Qp ND NC NI
 have NP:=kH (P:=P) (w:=w) (base:=base) T Qa Oi Og
 have NZ:=oH (P:=P) (w:=w) (base:=base) T Qq NP
 have Oa:=fR (P:=P) (w:=w) (base:=base) T Px NZ Of
 have Ol:=kJ (P:=P) (w:=w) (base:=base) T Qb NW ND NC NI
 have Oj:=kN (P:=P) (w:=w) (base:=base) T Qc Oi Og
 have NJ:=fT (P:=P) (w:=w) (base:=base) T Py Oj NI NC NP
 have NV:=xE (P:=P) (w:=w) (base:=base) T QO NI NP
 have Ou:=cI (P:=P) (w:=w) (base:=base) T Pf NK NI NW ND Oa NX Ol NC NZ NJ NV
 have Oy:=rq (P:=P) (w:=w) (base:=base) T QH NT NM
 have Oz:=rf (P:=P) (w:=w) (base:=base) T QI Oy
 have Pb:=rD (P:=P) (w:=w) (base:=base) T QF NT NM
 have Om:=kM (P:=P) (w:=w) (base:=base) T Qe
 have Oq:=bF (P:=P) (w:=w) (base:=base) T Pd NI NW Oz NK Pb NX NC Ol Oa Om NZ
 have Ot:=bE (P:=P) (w:=w) (base:=base) T Pe Oq NV NJ
 have Pl:=tW (P:=P) (w:=w) (base:=base) T QM Oy
 have OX:=ua (P:=P) (w:=w) (base:=base) T QK Pl Oz ND
 have OD:=eU (P:=P) (w:=w) (base:=base) T Pt NJ NK OX NV
 have Ov:=cK (P:=P) (w:=w) (base:=base) T Pg NJ Om NV
 have OP:=kI (P:=P) (w:=w) (base:=base) T Qg Ou NV Ot OD Oj Ov
 have NB:=oK (P:=P) (w:=w) (base:=base) T Qr
 have Ow:=cH (P:=P) (w:=w) (base:=base) T Ph
 have Pu:=AR (P:=P) (w:=w) (base:=base) T QR NH Oc Ob PL NR NQ
 have OF:=kB (P:=P) (w:=w) (base:=base) T Qh
 have Qw:=EC (P:=P) (w:=w) (base:=base) T QV OF
 have OS:=oy (P:=P) (w:=w) (base:=base) T Qs NW ND Of NO Qw NC
 have OT:=oz (P:=P) (w:=w) (base:=base) T Qt ND NW NR
 have Pm:=tY (P:=P) (w:=w) (base:=base) T QL NO ND
 have Pn:=EG (P:=P) (w:=w) (base:=base) T QW OS NR OT Pm NF NN NQ
 have OQ:=kF (P:=P) (w:=w) (base:=base) T Qi NH NB Ow Oh NX Pu Pn
 have Oo:=jo (P:=P) (w:=w) (base:=base) T PJ NC
 have OG:=kO (P:=P) (w:=w) (base:=base) T Qj ND NW Pn NQ
 have OE:=eS (P:=P) (w:=w) (base:=base) T Pj NH NB
 have NG:=kK (P:=P) (w:=w) (base:=base) T Pj NH NB
 have Pc:=rE (P:=P) (w:=w) (base:=base) T QG Oo NI NB OG OE NG
 have Od:=kG (P:=P) (w:=w) (base:=base) T Qk NB NG
 have OJ:=jq (P:=P) (w:=w) (base:=base) T PK ND NH NB
 have Ox:=cJ (P:=P) (w:=w) (base:=base) T Pk NH Od OJ NG NB
 have OU:=oM (P:=P) (w:=w) (base:=base) T Qu NG Od NB ND Ox
 have OV:=oI (P:=P) (w:=w) (base:=base) T Qv
 exact IJ T F PM OP OQ Pc OU OV
theorem MF{l:PySem.W.OpenLaw}{q:Program}{loose:List Str}{XP:(Str→Option Value)→Heap→Prop}{YP:World→Heap→Prop}{d:DefRec}{K:Params→Ra}(hn:l.most=some 63)(hdf:d.params.defaults=[])
  (hY:∀(w:World) (h:Heap),YP w h→(K w.params).In h)
  (F:∀(w:World) (mg:Str→Option Value) (fa:Addr) (h:Heap),(K w.params).In h→h.Ns mainGlobals mg→mg d.name=some (.ref fa) →
   ∃ fd:FuncData,(∀(s:Shared) (u:Value),BindsTo s fd ⟨[u],[]⟩ [("script",u)])∧∀ base:Heap,Y6 l.prog w (K w.params) mg base CX0 12 fa fd ["script"] (qt (K w.params) vK)) :
  PySem.W.WalkO q loose XP YP l.row.toRowW d [] (fun f vs=>PySem.call f vs) :=
 L2.zI (n:=63) (k:=12) (x := "script") (CX:=CX0) (sp:=fun K=>qt K vK) hn (by decide) hdf ⟨rfl,by decide,by decide⟩ hY (fun w mg fa h a b c=>let ⟨fd,h1,h2⟩:=F w mg fa h a b c;⟨fd,h1,fun base _ _=>h2 base⟩)
  (fun K H a ns hl hO hS=>IT hO hS ⟨ns,rfl,hl,fun _=>rfl⟩) fun _ _ _ _ z=>z
end K40
namespace PySem.W.Fast
theorem te11876951282764937819:True:=trivial
theorem tw18107676861880972938:True:=⟨⟩
theorem tw11070238951940186011:True:=⟨⟩
theorem tw10901592328209305533:True:=⟨⟩
theorem tw4062512974922933631:True:=⟨⟩
theorem tw11722975671296879222:True:=⟨⟩
theorem tw14352008664031362518:True:=⟨⟩
theorem tw12479538855918257789:True:=⟨⟩
theorem tw9964718527712949424:True:=⟨⟩
theorem tw13215970822656714692:True:=⟨⟩
theorem tw5692196846071286016:True:=⟨⟩
theorem tw12583396240887566986:True:=⟨⟩
theorem tw17322755503407438395:True:=⟨⟩
theorem tw6924590606173263495:True:=⟨⟩
theorem tw8901078656112278000:True:=⟨⟩
theorem tw754693148509682471:True:=⟨⟩
theorem tw7315659666270224774:True:=⟨⟩
theorem tw1471204319360867497:True:=⟨⟩
theorem tw16681295010795417642:True:=⟨⟩
theorem tw2449332173422345631:True:=⟨⟩
theorem tw1097026939624027502:True:=⟨⟩
theorem tw2749740745391437094:True:=⟨⟩
theorem tw8843790866458037467:True:=⟨⟩
theorem tw15887241530090890409:True:=⟨⟩
theorem tw12170502670963187696:True:=⟨⟩
theorem tw14453310278989212781:True:=⟨⟩
theorem tw8510839062413321489:True:=⟨⟩
theorem tw3836865052557841281:True:=⟨⟩
theorem tw7011990256132037633:True:=⟨⟩
theorem tw11547386113940749069:True:=⟨⟩
theorem tw11477725275253052590:True:=⟨⟩
theorem tw2631284690378265640:True:=⟨⟩
theorem tw8947367374369718325:True:=⟨⟩
theorem tw7099292008588887242:True:=⟨⟩
theorem tw9614843486178455936:True:=⟨⟩
theorem tw13062559855734502032:True:=⟨⟩
theorem tw7367566032106148092:True:=⟨⟩
theorem tw2584893570362007125:True:=⟨⟩
theorem tw10856681249320460825:True:=⟨⟩
theorem tw6605975648776958411:True:=⟨⟩
theorem tw16384321733116784190:True:=⟨⟩
theorem tw7856084933626864740:True:=⟨⟩
theorem tw15274849693781348110:True:=⟨⟩
theorem tw4817205784638692481:True:=⟨⟩
theorem tw897548687025410451:True:=⟨⟩
theorem tw1125193075944077144:True:=⟨⟩
theorem tw6499170232037199713:True:=⟨⟩
theorem tw10578700492193631624:True:=⟨⟩
theorem tw1999416932333246683:True:=⟨⟩
theorem tw917634920810468238:True:=⟨⟩
theorem tw2707795016167625636:True:=⟨⟩
theorem tw16691633271879346449:True:=⟨⟩
theorem tw17998676693795817850:True:=⟨⟩
theorem tw15599951179502738096:True:=⟨⟩
theorem tw12999048235741981445:True:=⟨⟩
theorem tw3259138432666248547:True:=⟨⟩
theorem tw6719166955609612223:True:=⟨⟩
theorem tw1835293898598289917:True:=⟨⟩
theorem tw12443175245625035427:True:=⟨⟩
theorem tw1658230303583393579:True:=⟨⟩
theorem tw3193839004494791245:True:=⟨⟩
theorem tw11932482289942134360:True:=⟨⟩
theorem tw12873980937904575095:True:=⟨⟩
theorem tw17776132260362523869:True:=⟨⟩
theorem tw12886110419222944507:True:=⟨⟩
theorem tw9023963826685442187:True:=⟨⟩
theorem tw6343160599415019253:True:=⟨⟩
theorem tw11342934408625489175:True:=⟨⟩
theorem tw12869479771801447147:True:=⟨⟩
theorem tw12026994277498923126:True:=⟨⟩
theorem tw13519842048543275588:True:=⟨⟩
theorem tw2726344089259226980:True:=⟨⟩
theorem tw11842053284100896822:True:=⟨⟩
theorem tw10894879014933451252:True:=⟨⟩
theorem tw12840606792035974768:True:=⟨⟩
theorem tw14832010328967563321:True:=⟨⟩
theorem tw18063580758814012835:True:=⟨⟩
theorem tw8787248039031590711:True:=⟨⟩
theorem tw11329037254101462871:True:=⟨⟩
theorem tw1583680865970823245:True:=⟨⟩
theorem tw12919313920777840167:True:=⟨⟩
theorem tw10326630137532264548:True:=⟨⟩
theorem tw7367207271315808380:True:=⟨⟩
theorem tw12641780445091173113:True:=⟨⟩
theorem tw10761796565152210224:True:=⟨⟩
theorem tw10204053835454463288:True:=⟨⟩
theorem tw1879314558985939939:True:=⟨⟩
theorem tw11841993254365059204:True:=⟨⟩
theorem tw16638234988296161726:True:=⟨⟩
theorem tw14822716511092477465:True:=⟨⟩
theorem tw17964903974896610397:True:=⟨⟩
theorem tw17599989780657423582:True:=⟨⟩
theorem tw9713522908608033642:True:=⟨⟩
theorem tw4906235201130323352:True:=⟨⟩
theorem tw13136368885126020440:True:=⟨⟩
theorem tw5233710774105391626:True:=⟨⟩
theorem tw13057631878567385893:True:=⟨⟩
theorem tw15646483075705721487:True:=⟨⟩
theorem tw2407547681114724596:True:=⟨⟩
theorem tw39954088533409688:True:=⟨⟩
theorem tw7978565024983326749:True:=⟨⟩
theorem tw17184816779856035085:True:=⟨⟩
theorem tw9528175948334525201:True:=⟨⟩
theorem tw12366154295065296732:True:=⟨⟩
theorem tw17182196942636621300:True:=⟨⟩
theorem tw13616812294376676773:True:=⟨⟩
theorem tw17985222181228234962:True:=⟨⟩
theorem tw14905633327589700469:True:=⟨⟩
theorem tw17052542259023699093:True:=⟨⟩
theorem tw13164657123115132271:True:=⟨⟩
theorem tw1715328066267757381:True:=⟨⟩
theorem tw7910517887383098187:True:=⟨⟩
theorem tw18070480699052478576:True:=⟨⟩
theorem tw2709943355704129778:True:=⟨⟩
theorem tw3871097407439652695:True:=⟨⟩
theorem tw7309230999621057860:True:=⟨⟩
theorem tw9014129910234240812:True:=⟨⟩
theorem tw12509564776751157150:True:=⟨⟩
theorem tw17125830300533152996:True:=⟨⟩
theorem tw11895625419031834028:True:=⟨⟩
theorem tw10042461495758282125:True:=⟨⟩
theorem tw11679745244076405305:True:=⟨⟩
theorem tw6269958012217503860:True:=⟨⟩
theorem tw14513109216217905534:True:=⟨⟩
theorem tw4312813649178283156:True:=⟨⟩
theorem tw9274316539962421391:True:=⟨⟩
theorem tw7144042053749703258:True:=⟨⟩
theorem tw16702458984392062212:True:=⟨⟩
theorem tw13699362270812310211:True:=⟨⟩
theorem tw10614444569322925451:True:=⟨⟩
theorem tw9867398705231049194:True:=⟨⟩
theorem tw9007930382596497127:True:=⟨⟩
theorem tw3851967579236186164:True:=⟨⟩
theorem tw18350269588994436444:True:=⟨⟩
theorem tw4526143093875871486:True:=⟨⟩
theorem tw3444440255437970749:True:=⟨⟩
theorem tw4483162743554784726:True:=⟨⟩
theorem tw674542125640192215:True:=⟨⟩
theorem tw1071261083855623055:True:=⟨⟩
theorem tw8846820406545612654:True:=⟨⟩
theorem tw6985815517550970871:True:=⟨⟩
theorem tw6720244976414876035:True:=⟨⟩
theorem tw4681710454829436880:True:=⟨⟩
theorem tw6723443547835411534:True:=⟨⟩
theorem tw5814038010195682298:True:=⟨⟩
theorem tw10656863576736615409:True:=⟨⟩
theorem tw11439143237145351137:True:=⟨⟩
theorem tw11223054213277323559:True:=⟨⟩
theorem tw16728366979700202587:True:=⟨⟩
theorem tw14971331499328673813:True:=⟨⟩
theorem tw10318369881342252984:True:=⟨⟩
theorem tw2511729529685564075:True:=⟨⟩
theorem tw2533080047030118130:True:=⟨⟩
theorem tw3534664785806570387:True:=⟨⟩
theorem tw1884366936780265914:True:=⟨⟩
theorem tw9694291111292690669:True:=⟨⟩
theorem tw8589902242417300340:True:=⟨⟩
theorem tw2235076155920884101:True:=⟨⟩
theorem tw5568603473611811188:True:=⟨⟩
theorem tw4933783182758175661:True:=⟨⟩
theorem tw13550664231840630268:True:=⟨⟩
theorem tw10326159758872743209:True:=⟨⟩
theorem tw2722530341447784898:True:=⟨⟩
theorem tw12855982509498095572:True:=⟨⟩
theorem tw15336322154366884309:True:=⟨⟩
theorem tw16320232970352199021:True:=⟨⟩
theorem tw6188690319004492317:True:=⟨⟩
theorem tw12854298463572952851:True:=⟨⟩
theorem tw15907001312588292210:True:=⟨⟩
theorem tw17197356671329237206:True:=⟨⟩
theorem tw6741664814536356132:True:=⟨⟩
theorem tw4436773925884567316:True:=⟨⟩
theorem tw1714738786150660177:True:=⟨⟩
theorem tw17493743488627169814:True:=⟨⟩
theorem tw9653130278227383455:True:=⟨⟩
theorem tw4628481309573402334:True:=⟨⟩
theorem tw16156401634958470438:True:=⟨⟩
theorem tw17122355027916606018:True:=⟨⟩
theorem tw13474329063930383816:True:=⟨⟩
theorem tw2644666753399056357:True:=⟨⟩
theorem tw5363849989649066980:True:=⟨⟩
theorem tw16062652366216558393:True:=⟨⟩
theorem tw9285971733541809892:True:=⟨⟩
theorem tw4451383798397786598:True:=⟨⟩
theorem tw12771301778352174482:True:=⟨⟩
theorem tw16899487785344998906:True:=⟨⟩
theorem tw9482416582958372151:True:=⟨⟩
theorem tw9311585666866579154:True:=⟨⟩
theorem tw11693622941438363254:True:=⟨⟩
theorem tw722849012080033502:True:=⟨⟩
theorem tw6709931683083576552:True:=⟨⟩
theorem tw14871831945813094126:True:=⟨⟩
theorem tw15906076672883841177:True:=⟨⟩
theorem tw11266212166403075799:True:=⟨⟩
theorem tw2897080859563577573:True:=⟨⟩
theorem tw6755581431897494837:True:=⟨⟩
theorem tw15503703042005327101:True:=⟨⟩
theorem tw4871696220593641812:True:=⟨⟩
theorem tw5190877419810261947:True:=⟨⟩
theorem tw658203740659278278:True:=⟨⟩
theorem tw16628705850675143598:True:=⟨⟩
theorem tw6326853483153428360:True:=⟨⟩
theorem tw9725537436983469762:True:=⟨⟩
theorem tw831663895110874083:True:=⟨⟩
theorem tw5371306401724484349:True:=⟨⟩
theorem tw10887744132809819064:True:=⟨⟩
theorem tw5935903283109155428:True:=⟨⟩
theorem tw9498752696817869766:True:=⟨⟩
theorem tw14013935222981349062:True:=⟨⟩
theorem tw10281425834236079345:True:=⟨⟩
theorem tw9441861797820705733:True:=⟨⟩
theorem tw18339899522210234025:True:=⟨⟩
theorem tw7278581197119252518:True:=⟨⟩
theorem tw5420218487207793195:True:=⟨⟩
theorem tw5509246683136940423:True:=⟨⟩
theorem tw11454825074235844467:True:=⟨⟩
theorem tw14192260525020589547:True:=⟨⟩
theorem tw14016748289927872156:True:=⟨⟩
theorem tw3945005884311551245:True:=⟨⟩
theorem tw2491415399328310456:True:=⟨⟩
theorem tw4104160418606917938:True:=⟨⟩
theorem tw17192502876526353552:True:=⟨⟩
theorem tw10216486652719271553:True:=⟨⟩
theorem tw17079424981190243447:True:=⟨⟩
theorem tw14835283052892686705:True:=⟨⟩
theorem tw10631496529077775614:True:=⟨⟩
theorem tw11844744550248165080:True:=⟨⟩
theorem tw8475507894454948657:True:=⟨⟩
theorem tw15350622961644211610:True:=⟨⟩
theorem tw9612941525539032956:True:=⟨⟩
theorem tw17567829233544928832:True:=⟨⟩
theorem tw10913944813815035469:True:=⟨⟩
theorem tw14633903440243453888:True:=⟨⟩
theorem tw15315102830393522158:True:=⟨⟩
theorem tw17461393849849458081:True:=⟨⟩
theorem tw5374829490986176798:True:=⟨⟩
theorem tw9110690573978058157:True:=⟨⟩
theorem tw15608622883437819198:True:=⟨⟩
theorem tw10847847202696755746:True:=⟨⟩
theorem tw5553058214793958488:True:=⟨⟩
theorem tw3726886381095677310:True:=⟨⟩
theorem tw903378377894282711:True:=⟨⟩
theorem tw8613911199984125135:True:=⟨⟩
theorem tw8172086937504994941:True:=⟨⟩
theorem tw7044332128302151662:True:=⟨⟩
theorem tw17578939503276740078:True:=⟨⟩
theorem tw16740285353650120307:True:=⟨⟩
theorem tw14594770151752313595:True:=⟨⟩
theorem tw7845864236349909862:True:=⟨⟩
theorem tw2365686250014643163:True:=⟨⟩
theorem tw12978993420023059154:True:=⟨⟩
theorem tw5814184611871760267:True:=⟨⟩
theorem tw5984847156103040381:True:=⟨⟩
theorem tw7811941847423476775:True:=⟨⟩
theorem tw16883572002482199218:True:=⟨⟩
theorem tw11055156272002920912:True:=⟨⟩
theorem tw2667970002422642331:True:=⟨⟩
theorem tw14587121240430852012:True:=⟨⟩
theorem tw1120070257287563773:True:=⟨⟩
theorem tw9184179188903532499:True:=⟨⟩
theorem tw109555590387590570:True:=⟨⟩
theorem tw6591232128012734872:True:=⟨⟩
theorem tw1910001335192000712:True:=⟨⟩
theorem tw12211573363571226349:True:=⟨⟩
theorem tw8446237968467806817:True:=⟨⟩
theorem tw10967315035685487511:True:=⟨⟩
theorem tw9165617056583428159:True:=⟨⟩
theorem tw968037965847744395:True:=⟨⟩
theorem tw6143236078937317542:True:=⟨⟩
theorem tw15890007254962409487:True:=⟨⟩
theorem tw10286104663482157925:True:=⟨⟩
theorem tw5747095009998269146:True:=⟨⟩
theorem tw12650281404800806298:True:=⟨⟩
theorem tw2514508114500760249:True:=⟨⟩
theorem tw18193447140339778442:True:=⟨⟩
theorem tw7358269145736962596:True:=⟨⟩
theorem tw3630762100115623154:True:=⟨⟩
theorem tw2215872591607442681:True:=⟨⟩
theorem tw1326487533845951089:True:=⟨⟩
theorem tw5808747230011390711:True:=⟨⟩
theorem tw8721747010916373447:True:=⟨⟩
theorem tw8454589847290250054:True:=⟨⟩
theorem tw14300633431157215233:True:=⟨⟩
theorem tw12275856002188187245:True:=⟨⟩
theorem tw11019052276080047552:True:=⟨⟩
theorem tw7805752304046852756:True:=⟨⟩
theorem tw5325745659785338641:True:=⟨⟩
theorem tw14993527752946410886:True:=⟨⟩
theorem tw8912702822852166784:True:=⟨⟩
theorem tw11029731905595796366:True:=⟨⟩
theorem tw5197778213025966861:True:=⟨⟩
theorem tw4851694740580211143:True:=⟨⟩
theorem tw5464904530029869251:True:=⟨⟩
theorem tw1964576656113846439:True:=⟨⟩
theorem tw2787047517049593615:True:=⟨⟩
theorem tw17951185157565297921:True:=⟨⟩
theorem tw15565716035187098912:True:=⟨⟩
theorem tw11359454169738722820:True:=⟨⟩
theorem tw11220395426252751031:True:=⟨⟩
theorem tw3041731870529561294:True:=⟨⟩
theorem tw9602061500486911597:True:=⟨⟩
theorem tw14122827481141623982:True:=⟨⟩
theorem tw8015541313036408344:True:=⟨⟩
theorem tw10219486905863727563:True:=⟨⟩
theorem tw1397152156916949808:True:=⟨⟩
theorem tw13217084195547671186:True:=⟨⟩
theorem tw7627122729819011462:True:=⟨⟩
theorem tw5542373523448141474:True:=⟨⟩
end PySem.W.Fast
open PySem PySem.W PyProof.Rows
set_option maxRecDepth 100000 in
set_option maxHeartbeats 0 in
theorem PySem.Challenge.cw_roundglass_k40_whole_ever_told_holds : PySem.Challenge.rw_roundglass_k40_whole_ever_told.Holds := by
 w_on;o_law;k_head;(case hw=>w_witness2)
 k_fill
 refine K40.MF (l:=PySem.Challenge.rw_roundglass_k40_whole_ever_told) rfl rfl (fun w h Y=>PySem.W.kIn_of Y) ?F
 case F =>
  intro w mg fa h KX G hmg
  refine' K40.Jy ⟨PySem.W.mg_none_of KX G ?z_abs,PySem.W.mg_none_of KX G ?z_bool,PySem.W.mg_none_of KX G ?z_enumerate,PySem.W.mg_none_of KX G ?z_int,PySem.W.mg_none_of KX G ?z_isinstance,PySem.W.mg_none_of KX G ?z_len,PySem.W.mg_none_of KX G ?z_list,PySem.W.mg_none_of KX G ?z_max,PySem.W.mg_none_of KX G ?z_min,PySem.W.mg_none_of KX G ?z_range,PySem.W.mg_none_of KX G ?z_reversed,PySem.W.mg_none_of KX G ?z_tuple,PySem.W.mg_none_of KX G ?z_zip,DL.Lf _,DL.Bw KX G ?c0_AXIS_RAY ?c1_AXIS_RAY ?c2_AXIS_RAY ?c3_AXIS_RAY,DL.Jh KX G ?c0_FIRST_ROUNDS,DL.gL KX G ?c0_FOUR ?c1_FOUR,DL.Bw KX G ?c0_LEVEL_RAY ?c1_LEVEL_RAY ?c2_LEVEL_RAY ?c3_LEVEL_RAY,DL.gL KX G ?c0_NOUGHT ?c1_NOUGHT,DL.gL KX G ?c0_ONE ?c1_ONE,DL.Jg KX G ?c0_SELF ?c1_SELF ?c2_SELF ?c3_SELF ?c4_SELF ?c5_SELF,DL.gL KX G ?c0_TWO ?c1_TWO⟩ hmg (DL.j6 KX G ?n0 ?l0 ?c0 ?k0 ?b0) (DL.j6 KX G ?n1 ?l1 ?c1 ?k1 ?b1) (DL.Jp KX G ?n2 ?l2 ?c2 ?k2 ?b2) (DL.j6 KX G ?n3 ?l3 ?c3 ?k3 ?b3) (DL.j6 KX G ?n4 ?l4 ?c4 ?k4 ?b4) (DL.j6 KX G ?n5 ?l5 ?c5 ?k5 ?b5) (DL.j6 KX G ?n6 ?l6 ?c6 ?k6 ?b6) (DL.j6 KX G ?n7 ?l7 ?c7 ?k7 ?b7) (DL.j6 KX G ?n8 ?l8 ?c8 ?k8 ?b8) (DL.j6 KX G ?n9 ?l9 ?c9 ?k9 ?b9) (DL.j6 KX G ?n10 ?l10 ?c10 ?k10 ?b10) (DL.j6 KX G ?n11 ?l11 ?c11 ?k11 ?b11) (DL.j6 KX G ?n12 ?l12 ?c12 ?k12 ?b12) (DL.j6 KX G ?n13 ?l13 ?c13 ?k13 ?b13) (DL.j6 KX G ?n14 ?l14 ?c14 ?k14 ?b14) (DL.j6 KX G ?n15 ?l15 ?c15 ?k15 ?b15) (DL.j6 KX G ?n16 ?l16 ?c16 ?k16 ?b16) (DL.j6 KX G ?n17 ?l17 ?c17 ?k17 ?b17) (DL.j6 KX G ?n18 ?l18 ?c18 ?k18 ?b18) (DL.j6 KX G ?n19 ?l19 ?c19 ?k19 ?b19) (DL.j6 KX G ?n20 ?l20 ?c20 ?k20 ?b20) (DL.j6 KX G ?n21 ?l21 ?c21 ?k21 ?b21) (DL.j6 KX G ?n22 ?l22 ?c22 ?k22 ?b22) (DL.j6 KX G ?n23 ?l23 ?c23 ?k23 ?b23) (DL.j6 KX G ?n24 ?l24 ?c24 ?k24 ?b24) (DL.j6 KX G ?n25 ?l25 ?c25 ?k25 ?b25) (DL.j6 KX G ?n26 ?l26 ?c26 ?k26 ?b26) (DL.j6 KX G ?n27 ?l27 ?c27 ?k27 ?b27) (DL.j6 KX G ?n28 ?l28 ?c28 ?k28 ?b28) (DL.j6 KX G ?n29 ?l29 ?c29 ?k29 ?b29) (DL.j6 KX G ?n30 ?l30 ?c30 ?k30 ?b30) (DL.j6 KX G ?n31 ?l31 ?c31 ?k31 ?b31) (DL.j6 KX G ?n32 ?l32 ?c32 ?k32 ?b32) (DL.j6 KX G ?n33 ?l33 ?c33 ?k33 ?b33) (DL.j6 KX G ?n34 ?l34 ?c34 ?k34 ?b34) (DL.j6 KX G ?n35 ?l35 ?c35 ?k35 ?b35) (DL.j6 KX G ?n36 ?l36 ?c36 ?k36 ?b36) (DL.j6 KX G ?n37 ?l37 ?c37 ?k37 ?b37) (DL.j6 KX G ?n38 ?l38 ?c38 ?k38 ?b38) (DL.j6 KX G ?n39 ?l39 ?c39 ?k39 ?b39) (DL.j6 KX G ?n40 ?l40 ?c40 ?k40 ?b40) (DL.j6 KX G ?n41 ?l41 ?c41 ?k41 ?b41) (DL.j6 KX G ?n42 ?l42 ?c42 ?k42 ?b42) (DL.j6 KX G ?n43 ?l43 ?c43 ?k43 ?b43) (DL.j6 KX G ?n44 ?l44 ?c44 ?k44 ?b44) (DL.j6 KX G ?n45 ?l45 ?c45 ?k45 ?b45) (DL.j6 KX G ?n46 ?l46 ?c46 ?k46 ?b46) (DL.j6 KX G ?n47 ?l47 ?c47 ?k47 ?b47) (DL.j6 KX G ?n48 ?l48 ?c48 ?k48 ?b48) (DL.j6 KX G ?n49 ?l49 ?c49 ?k49 ?b49) (DL.j6 KX G ?n50 ?l50 ?c50 ?k50 ?b50) (DL.j6 KX G ?n51 ?l51 ?c51 ?k51 ?b51) (DL.j6 KX G ?n52 ?l52 ?c52 ?k52 ?b52) (DL.j6 KX G ?n53 ?l53 ?c53 ?k53 ?b53) (DL.j6 KX G ?n54 ?l54 ?c54 ?k54 ?b54) (DL.j6 KX G ?n55 ?l55 ?c55 ?k55 ?b55) (DL.j6 KX G ?n56 ?l56 ?c56 ?k56 ?b56) (DL.j6 KX G ?n57 ?l57 ?c57 ?k57 ?b57) (DL.j6 KX G ?n58 ?l58 ?c58 ?k58 ?b58) (DL.j6 KX G ?n59 ?l59 ?c59 ?k59 ?b59) (DL.j6 KX G ?n60 ?l60 ?c60 ?k60 ?b60) (DL.j6 KX G ?n61 ?l61 ?c61 ?k61 ?b61) (DL.j6 KX G ?n62 ?l62 ?c62 ?k62 ?b62) (DL.j6 KX G ?n63 ?l63 ?c63 ?k63 ?b63) (DL.j6 KX G ?n64 ?l64 ?c64 ?k64 ?b64) (DL.j6 KX G ?n65 ?l65 ?c65 ?k65 ?b65) (DL.j6 KX G ?n66 ?l66 ?c66 ?k66 ?b66) (DL.j6 KX G ?n67 ?l67 ?c67 ?k67 ?b67) (DL.j6 KX G ?n68 ?l68 ?c68 ?k68 ?b68) (DL.j6 KX G ?n69 ?l69 ?c69 ?k69 ?b69) (DL.j6 KX G ?n70 ?l70 ?c70 ?k70 ?b70) (DL.j6 KX G ?n71 ?l71 ?c71 ?k71 ?b71) (DL.j6 KX G ?n72 ?l72 ?c72 ?k72 ?b72) (DL.j6 KX G ?n73 ?l73 ?c73 ?k73 ?b73) (DL.j6 KX G ?n74 ?l74 ?c74 ?k74 ?b74) (DL.j6 KX G ?n75 ?l75 ?c75 ?k75 ?b75) (DL.Jo KX G ?n76 ?l76 ?c76 ?k76 ?b76)
  (case n0=>k_is);(case l0=>k_is);(case c0=>k_is);(case k0=>k_is);(case b0=>(intro us hl;exact match us,hl with|[_,_],_=>rfl))
  (case n1=>k_is);(case l1=>k_is);(case c1=>k_is);(case k1=>k_is);(case b1=>(intro us hl;exact match us,hl with|[_],_=>rfl))
  (case n2=>k_is);(case l2=>k_is);(case c2=>k_is);(case k2=>k_is);(case b2=>(intro us hl S;exact match us,hl with|[_,_],_=>rfl))
  (case n3=>k_is);(case l3=>k_is);(case c3=>k_is);(case k3=>k_is);(case b3=>(intro us hl;exact match us,hl with|[_,_],_=>rfl))
  (case n4=>k_is);(case l4=>k_is);(case c4=>k_is);(case k4=>k_is);(case b4=>(intro us hl;exact match us,hl with|[_,_],_=>rfl))
  (case n5=>k_is);(case l5=>k_is);(case c5=>k_is);(case k5=>k_is);(case b5=>(intro us hl;exact match us,hl with|[_],_=>rfl))
  (case n6=>k_is);(case l6=>k_is);(case c6=>k_is);(case k6=>k_is);(case b6=>(intro us hl;exact match us,hl with|[_,_,_],_=>rfl))
  (case n7=>k_is);(case l7=>k_is);(case c7=>k_is);(case k7=>k_is);(case b7=>(intro us hl;exact match us,hl with|[_,_,_],_=>rfl))
  (case n8=>k_is);(case l8=>k_is);(case c8=>k_is);(case k8=>k_is);(case b8=>(intro us hl;exact match us,hl with|[_,_],_=>rfl))
  (case n9=>k_is);(case l9=>k_is);(case c9=>k_is);(case k9=>k_is);(case b9=>(intro us hl;exact match us,hl with|[_],_=>rfl))
  (case n10=>k_is);(case l10=>k_is);(case c10=>k_is);(case k10=>k_is);(case b10=>(intro us hl;exact match us,hl with|[_],_=>rfl))
  (case n11=>k_is);(case l11=>k_is);(case c11=>k_is);(case k11=>k_is);(case b11=>(intro us hl;exact match us,hl with|[_],_=>rfl))
  (case n12=>k_is);(case l12=>k_is);(case c12=>k_is);(case k12=>k_is);(case b12=>(intro us hl;exact match us,hl with|[_,_,_,_],_=>rfl))
  (case n13=>k_is);(case l13=>k_is);(case c13=>k_is);(case k13=>k_is);(case b13=>(intro us hl;exact match us,hl with|[_,_],_=>rfl))
  (case n14=>k_is);(case l14=>k_is);(case c14=>k_is);(case k14=>k_is);(case b14=>(intro us hl;exact match us,hl with|[_],_=>rfl))
  (case n15=>k_is);(case l15=>k_is);(case c15=>k_is);(case k15=>k_is);(case b15=>(intro us hl;exact match us,hl with|[_],_=>rfl))
  (case n16=>k_is);(case l16=>k_is);(case c16=>k_is);(case k16=>k_is);(case b16=>(intro us hl;exact match us,hl with|[_,_],_=>rfl))
  (case n17=>k_is);(case l17=>k_is);(case c17=>k_is);(case k17=>k_is);(case b17=>(intro us hl;exact match us,hl with|[_,_,_,_],_=>rfl))
  (case n18=>k_is);(case l18=>k_is);(case c18=>k_is);(case k18=>k_is);(case b18=>(intro us hl;exact match us,hl with|[_,_,_,_],_=>rfl))
  (case n19=>k_is);(case l19=>k_is);(case c19=>k_is);(case k19=>k_is);(case b19=>(intro us hl;exact match us,hl with|[_,_,_,_],_=>rfl))
  (case n20=>k_is);(case l20=>k_is);(case c20=>k_is);(case k20=>k_is);(case b20=>(intro us hl;exact match us,hl with|[_,_,_],_=>rfl))
  (case n21=>k_is);(case l21=>k_is);(case c21=>k_is);(case k21=>k_is);(case b21=>(intro us hl;exact match us,hl with|[_,_,_],_=>rfl))
  (case n22=>k_is);(case l22=>k_is);(case c22=>k_is);(case k22=>k_is);(case b22=>(intro us hl;exact match us,hl with|[_,_],_=>rfl))
  (case n23=>k_is);(case l23=>k_is);(case c23=>k_is);(case k23=>k_is);(case b23=>(intro us hl;exact match us,hl with|[_,_,_,_,_],_=>rfl))
  (case n24=>k_is);(case l24=>k_is);(case c24=>k_is);(case k24=>k_is);(case b24=>(intro us hl;exact match us,hl with|[_,_],_=>rfl))
  (case n25=>k_is);(case l25=>k_is);(case c25=>k_is);(case k25=>k_is);(case b25=>(intro us hl;exact match us,hl with|[_,_,_],_=>rfl))
  (case n26=>k_is);(case l26=>k_is);(case c26=>k_is);(case k26=>k_is);(case b26=>(intro us hl;exact match us,hl with|[_,_],_=>rfl))
  (case n27=>k_is);(case l27=>k_is);(case c27=>k_is);(case k27=>k_is);(case b27=>(intro us hl;exact match us,hl with|[_,_,_],_=>rfl))
  (case n28=>k_is);(case l28=>k_is);(case c28=>k_is);(case k28=>k_is);(case b28=>(intro us hl;exact match us,hl with|[_,_],_=>rfl))
  (case n29=>k_is);(case l29=>k_is);(case c29=>k_is);(case k29=>k_is);(case b29=>(intro us hl;exact match us,hl with|[_,_],_=>rfl))
  (case n30=>k_is);(case l30=>k_is);(case c30=>k_is);(case k30=>k_is);(case b30=>(intro us hl;exact match us,hl with|[_],_=>rfl))
  (case n31=>k_is);(case l31=>k_is);(case c31=>k_is);(case k31=>k_is);(case b31=>(intro us hl;exact match us,hl with|[_],_=>rfl))
  (case n32=>k_is);(case l32=>k_is);(case c32=>k_is);(case k32=>k_is);(case b32=>(intro us hl;exact match us,hl with|[_],_=>rfl))
  (case n33=>k_is);(case l33=>k_is);(case c33=>k_is);(case k33=>k_is);(case b33=>(intro us hl;exact match us,hl with|[_],_=>rfl))
  (case n34=>k_is);(case l34=>k_is);(case c34=>k_is);(case k34=>k_is);(case b34=>(intro us hl;exact match us,hl with|[_,_],_=>rfl))
  (case n35=>k_is);(case l35=>k_is);(case c35=>k_is);(case k35=>k_is);(case b35=>(intro us hl;exact match us,hl with|[_],_=>rfl))
  (case n36=>k_is);(case l36=>k_is);(case c36=>k_is);(case k36=>k_is);(case b36=>(intro us hl;exact match us,hl with|[_],_=>rfl))
  (case n37=>k_is);(case l37=>k_is);(case c37=>k_is);(case k37=>k_is);(case b37=>(intro us hl;exact match us,hl with|[_,_],_=>rfl))
  (case n38=>k_is);(case l38=>k_is);(case c38=>k_is);(case k38=>k_is);(case b38=>(intro us hl;exact match us,hl with|[_,_],_=>rfl))
  (case n39=>k_is);(case l39=>k_is);(case c39=>k_is);(case k39=>k_is);(case b39=>(intro us hl;exact match us,hl with|[_],_=>rfl))
  (case n40=>k_is);(case l40=>k_is);(case c40=>k_is);(case k40=>k_is);(case b40=>(intro us hl;exact match us,hl with|[_,_],_=>rfl))
  (case n41=>k_is);(case l41=>k_is);(case c41=>k_is);(case k41=>k_is);(case b41=>(intro us hl;exact match us,hl with|[_,_],_=>rfl))
  (case n42=>k_is);(case l42=>k_is);(case c42=>k_is);(case k42=>k_is);(case b42=>(intro us hl;exact match us,hl with|[_],_=>rfl))
  (case n43=>k_is);(case l43=>k_is);(case c43=>k_is);(case k43=>k_is);(case b43=>(intro us hl;exact match us,hl with|[_,_],_=>rfl))
  (case n44=>k_is);(case l44=>k_is);(case c44=>k_is);(case k44=>k_is);(case b44=>(intro us hl;exact match us,hl with|[_,_,_],_=>rfl))
  (case n45=>k_is);(case l45=>k_is);(case c45=>k_is);(case k45=>k_is);(case b45=>(intro us hl;exact match us,hl with|[_],_=>rfl))
  (case n46=>k_is);(case l46=>k_is);(case c46=>k_is);(case k46=>k_is);(case b46=>(intro us hl;exact match us,hl with|[_,_],_=>rfl))
  (case n47=>k_is);(case l47=>k_is);(case c47=>k_is);(case k47=>k_is);(case b47=>(intro us hl;exact match us,hl with|[_],_=>rfl))
  (case n48=>k_is);(case l48=>k_is);(case c48=>k_is);(case k48=>k_is);(case b48=>(intro us hl;exact match us,hl with|[_,_,_],_=>rfl))
  (case n49=>k_is);(case l49=>k_is);(case c49=>k_is);(case k49=>k_is);(case b49=>(intro us hl;exact match us,hl with|[_],_=>rfl))
  (case n50=>k_is);(case l50=>k_is);(case c50=>k_is);(case k50=>k_is);(case b50=>(intro us hl;exact match us,hl with|[_,_,_,_,_],_=>rfl))
  (case n51=>k_is);(case l51=>k_is);(case c51=>k_is);(case k51=>k_is);(case b51=>(intro us hl;exact match us,hl with|[_,_,_,_,_,_],_=>rfl))
  (case n52=>k_is);(case l52=>k_is);(case c52=>k_is);(case k52=>k_is);(case b52=>(intro us hl;exact match us,hl with|[_,_,_],_=>rfl))
  (case n53=>k_is);(case l53=>k_is);(case c53=>k_is);(case k53=>k_is);(case b53=>(intro us hl;exact match us,hl with|[_,_,_,_],_=>rfl))
  (case n54=>k_is);(case l54=>k_is);(case c54=>k_is);(case k54=>k_is);(case b54=>(intro us hl;exact match us,hl with|[_,_,_,_],_=>rfl))
  (case n55=>k_is);(case l55=>k_is);(case c55=>k_is);(case k55=>k_is);(case b55=>(intro us hl;exact match us,hl with|[_,_,_],_=>rfl))
  (case n56=>k_is);(case l56=>k_is);(case c56=>k_is);(case k56=>k_is);(case b56=>(intro us hl;exact match us,hl with|[_,_,_],_=>rfl))
  (case n57=>k_is);(case l57=>k_is);(case c57=>k_is);(case k57=>k_is);(case b57=>(intro us hl;exact match us,hl with|[_,_],_=>rfl))
  (case n58=>k_is);(case l58=>k_is);(case c58=>k_is);(case k58=>k_is);(case b58=>(intro us hl;exact match us,hl with|[_],_=>rfl))
  (case n59=>k_is);(case l59=>k_is);(case c59=>k_is);(case k59=>k_is);(case b59=>(intro us hl;exact match us,hl with|[_,_,_,_],_=>rfl))
  (case n60=>k_is);(case l60=>k_is);(case c60=>k_is);(case k60=>k_is);(case b60=>(intro us hl;exact match us,hl with|[_],_=>rfl))
  (case n61=>k_is);(case l61=>k_is);(case c61=>k_is);(case k61=>k_is);(case b61=>(intro us hl;exact match us,hl with|[_],_=>rfl))
  (case n62=>k_is);(case l62=>k_is);(case c62=>k_is);(case k62=>k_is);(case b62=>(intro us hl;exact match us,hl with|[_],_=>rfl))
  (case n63=>k_is);(case l63=>k_is);(case c63=>k_is);(case k63=>k_is);(case b63=>(intro us hl;exact match us,hl with|[_],_=>rfl))
  (case n64=>k_is);(case l64=>k_is);(case c64=>k_is);(case k64=>k_is);(case b64=>(intro us hl;exact match us,hl with|[_],_=>rfl))
  (case n65=>k_is);(case l65=>k_is);(case c65=>k_is);(case k65=>k_is);(case b65=>(intro us hl;exact match us,hl with|[_],_=>rfl))
  (case n66=>k_is);(case l66=>k_is);(case c66=>k_is);(case k66=>k_is);(case b66=>(intro us hl;exact match us,hl with|[_,_,_],_=>rfl))
  (case n67=>k_is);(case l67=>k_is);(case c67=>k_is);(case k67=>k_is);(case b67=>(intro us hl;exact match us,hl with|[_,_],_=>rfl))
  (case n68=>k_is);(case l68=>k_is);(case c68=>k_is);(case k68=>k_is);(case b68=>(intro us hl;exact match us,hl with|[_,_],_=>rfl))
  (case n69=>k_is);(case l69=>k_is);(case c69=>k_is);(case k69=>k_is);(case b69=>(intro us hl;exact match us,hl with|[_,_,_],_=>rfl))
  (case n70=>k_is);(case l70=>k_is);(case c70=>k_is);(case k70=>k_is);(case b70=>(intro us hl;exact match us,hl with|[_,_],_=>rfl))
  (case n71=>k_is);(case l71=>k_is);(case c71=>k_is);(case k71=>k_is);(case b71=>(intro us hl;exact match us,hl with|[_,_,_],_=>rfl))
  (case n72=>k_is);(case l72=>k_is);(case c72=>k_is);(case k72=>k_is);(case b72=>(intro us hl;exact match us,hl with|[_,_],_=>rfl))
  (case n73=>k_is);(case l73=>k_is);(case c73=>k_is);(case k73=>k_is);(case b73=>(intro us hl;exact match us,hl with|[_],_=>rfl))
  (case n74=>k_is);(case l74=>k_is);(case c74=>k_is);(case k74=>k_is);(case b74=>(intro us hl;exact match us,hl with|[_],_=>rfl))
  (case n75=>k_is);(case l75=>k_is);(case c75=>k_is);(case k75=>k_is);(case b75=>(intro us hl;exact match us,hl with|[_],_=>rfl))
  (case n76=>k_is);(case l76=>k_is);(case c76=>k_is);(case k76=>k_is);(case b76=>(intro us hl;exact match us,hl with|[_],_=>rfl))
  (case z_abs=>k_is);(case z_bool=>k_is);(case z_enumerate=>k_is);(case z_int=>k_is);(case z_isinstance=>k_is);(case z_len=>k_is);(case z_list=>k_is);(case z_max=>k_is);(case z_min=>k_is);(case z_range=>k_is);(case z_reversed=>k_is);(case z_tuple=>k_is);(case z_zip=>k_is);(case c0_AXIS_RAY=>k_is);(case c1_AXIS_RAY=>k_is);(case c2_AXIS_RAY=>k_is);(case c3_AXIS_RAY=>k_is);(case c0_FIRST_ROUNDS=>k_is);(case c0_FOUR=>k_is);(case c1_FOUR=>k_is);(case c0_LEVEL_RAY=>k_is);(case c1_LEVEL_RAY=>k_is);(case c2_LEVEL_RAY=>k_is);(case c3_LEVEL_RAY=>k_is);(case c0_NOUGHT=>k_is);(case c1_NOUGHT=>k_is);(case c0_ONE=>k_is);(case c1_ONE=>k_is);(case c0_SELF=>k_is);(case c1_SELF=>k_is);(case c2_SELF=>k_is);(case c3_SELF=>k_is);(case c4_SELF=>k_is);(case c5_SELF=>k_is);(case c0_TWO=>k_is);(case c1_TWO=>k_is)
end
