import PyProof.Rows.All
import PyProof.Rows.SetFrom
import PyProof.CollectWalk
import PyProof.Rows.SortShell
import PyProof.FactsAll.set_1
import PyProof.FactsAll.set_2
import PyProof.MeetsSeq
import KE.KSortTup
import KE.KSortAsk
import OpenK.KLine
import KE.KPar
import KE.IntBitsLaws
import PyProof.Fits
import KE.KIsAll
import KE.KItem
import KE.KxBytes
import Wide.FinOn
import PyProof.EqAt
import PyProof.EqKinds
import PyProof.TupleCall
import PyProof.ZipIter
import PyProof.EnumMake
import PyProof.EnumFor
import PyProof.Rows.EnumRows
import PyProof.CompMap
import PyProof.CompUse
import KE.KRevSl
import KE.KRevIter
import PyProof.ListRange
import PyProof.AutoRange
import PyProof.FactsAll.range_2
import PyProof.MaxThree
import KE.RegKTryMore
import PyProof.Rows.SumAny
import KE.KMinBuiltin
import PyProof.Rows.CallKwBuiltin
import PyProof.JoinWalk
import PyProof.StrBlockL
import PyProof.StrCalls2
import PyProof.CallStr
import PyProof.Rows.StrWeight2
import PyProof.FitsInt
import PyProof.FactsAll.range_1
import PyProof.SeqRoads2
import KE.RegKIsAll
import PyProof.ExcArgsOwn
import PyProof.NsDelKeeps
import PyProof.RulesAs
import KE.KIntText
import PyProof.Rows.StrNews2
import PyProof.StrBlockH
import PyProof.Rows.RuleDivmod
import KE.IntTextText
import OpenK.KTop
import Lean
import PySem.Challenge.RW_roundglass_k26_idle_told
noncomputable section
open PySem renaming wpAny_bind→Nb,wpAny_pure→Ng
open PySem.Heap renaming get?_push_of_some→Nc,get?_push_size→Ni,lt_size→Nn,size_push→NT,get?_update_self→Oi,get?_update_other→OA,get?_update_ne→OP,get?_push_ne→Qk,size_update→Qw
open PySem.W renaming Frag→Nd
open Nat renaming lt_of_lt_of_le→Nf,pow_le_pow_right→Nl,le_trans→Nr,le_refl→Ny,ne_of_lt→NC,lt_of_le_of_lt→NK,ne_of_gt→NW,zero_le→Oa,mul_le_mul_right→Oc,pow_add→Og,mul_lt_mul_of_lt_of_le→Oj,pow_succ→Om,le_of_lt→Ou,mul_lt_mul''→Ov,gcd→Ow,lt_irrefl→OG,div_le_of_le_mul→OK,le_add_right→OQ,div_le_self→OV,mul_comm→OX,le_succ→Pe,gcd_pos_of_pos_right→Pf,pow_pos→Pu,min_le_right→PC,dvd_lcm_left→PD,mod_lt→PK,dvd_lcm_right→Qm,lt_succ_of_lt→Qn,lcm_pos→Qr,lt_succ_self→Qu,le_max_right→Qv,le_of_eq→QE,le_max_left→QF,zero_add→QK,max_le→QL,pow_lt_pow_right→QO,mul_le_mul→QR,log2_lt→QS,pos_iff_ne_zero→QT,mul_le_mul_left→QW,one_mul→QY,eq_zero_or_pos→Ra,one_lt_two_pow→Rf,mul_assoc→Rg,gcd_zero_right→Rh,gcd_dvd_right→Rm,gcd_comm→Rn,min_eq_right→Ry,mul_pos→RF,not_lt_zero→RK,min_eq_left→RN,lcm→RT
open List renaming mem_cons→Nh,mem_cons_of_mem→Nj,mem_cons_self→Nk,length_map→Nm,mem_of_getElem?→Nq,mem_map→Nu,not_mem_nil→Nv,getElem?_eq_some_iff→Nw,getD_eq_getElem?_getD→Nz,size_toArray→NA,getElem?_eq_getElem→NB,getElem?_map→ND,map_append→NF,mem_append_right→NJ,mem_append→NL,filter_cons_of_pos→NN,map_cons→NO,mem_singleton→NS,length_take→NU,length_cons→NV,length_append→NX,filter_cons_of_neg→Oe,map_map→Of,map_inj_right→Oh,map→Ol,mem_append_left→Oq,mem_of_mem_take→Ot,take_length→Ox,getElem?_replicate→Oy,take_add_one→Oz,take_of_length_le→OB,range→OC,length_drop→OD,zipIdx_cons→OE,all_eq_true→OF,length_filter_le→OH,take_succ_eq_append_getElem→OJ,mem_of_mem_drop→OL,foldl_append→OO,replicate→OS,map_nil→OU,lookup_cons→Pc,mem_filterMap→Pj,append_nil→Pk,forIn_cons→Pm,length_replicate→Px,eq_nil_of_length_eq_zero→PF,getElem?_append→PH,filterMap_cons→PL,nodup_cons→PM,of_mem_zip→PN,zipIdx_nil→PQ,take_succ_cons→PR,foldl_cons→PZ,getElem?_append_right→Qa,getElem?_append_left→Qe,forIn_nil→Qh,drop_eq_getElem_cons→Qi,append_assoc→Ql,all_cons→Qp,map_take→Qt,any_eq_true→Qx,getElem?_set_self→Qy,drop_of_length_le→QB,drop_eq_nil_of_le→QC,mem_filter→QD,getElem?_zipWith→QG,getElem?_eq_none→QJ,getElem?_set_ne→QM,getElem?_mapIdx→QN,mem_iff_getElem→QP,mem_range→QQ,perm_singleton→QX,any_cons→QZ,filter_append→Rc,any_eq_false→Ri,reverse_cons→Rj,length_range→Rl,all_map→Ro,any_map→Rp,ext_getElem→Rw,getElem_mem→Rx,length→RB,length_set→RC,length_zip→RG,nil_append→RJ,drop_zero→RP,map_drop→RU
open Int renaming natAbs_natCast→Np,natCast_inj→NG,toNat_natCast→NI,natAbs_mul→NQ,mul_ne_zero→NY,natAbs_neg→Oo,emod_lt_of_pos→OI,emod_nonneg→OW,natAbs_sub_le→Pa,mul_pos→Pd,natCast_mul→Pn,natAbs_add_le→Pt,mul_nonneg→Pw,mul_le_mul_of_nonneg_right→PB,mul_eq_zero→PX,sign_eq_neg_one_of_neg→Qb,natAbs_ediv_le_natAbs→Qg,mul_one→Qo,sign_eq_one_of_pos→Qz,neg_ediv_of_dvd→QV,lt_or_le→Rq,le_of_lt→Rr,zero_mul→Rt,zero_add→Ru,natCast_emod→RA,mul_neg→RI,neg_neg→RL,natAbs_pos→RQ,gcd→RV
open Bool renaming false_ne_true→Nt,and_eq_true→NP,true_and→NR,eq_iff_iff→OM,false_and→OR,false_eq_true→OT,and_false→Pb,and_true→Pr,noConfusion→Rz,or_eq_true→RO,or_false→RS
open Rat renaming intCast_mul→Nx,mul_nonneg→NH,divInt→NM,div_mul_cancel→NZ,intCast_natCast→Ob,num_divInt_den→Od,intCast_sub→ON,mul_pos→OY,div_def→OZ,zero_add→Pg,divInt_nonneg_iff_of_pos_right→Ph,num_eq_zero→Pl,intCast_add→Po,intCast_neg→Pp,mul_div_cancel→Pq,divInt_mul_divInt→Py,mul_comm→Pz,divInt_mul_right→PJ,le_refl→PV,neg_mul→PY,add_zero→Qc,num_nonneg→Qj,neg_num→Qq,intCast_eq_zero_iff→Qs,intCast_le_intCast→QA,divInt_add_divInt→QH,mul_zero→QI,neg_den→QU,sub_eq_add_neg→Rb,divInt_eq_div→Rk,num_intCast→RD,den_intCast→RE,neg_neg→RH,not_le→RR
open Option renaming getD_none→Rv
set_option compiler.extract_closed false
set_option Elab.async false
set_option linter.all false
set_option maxRecDepth 100000
section
namespace L2
open PySem PySem.Spec PyProof.Rows
noncomputable abbrev Key:=Sum Int Str
noncomputable def DF:Key→Value→Bool
 | .inl k,v=>Value.isInt k v
 | .inr x,v=>Value.isStrOf x v
noncomputable def JX(w:World):Key→Int
 | .inl k=>hashInt k
 | .inr x=>hashStr w x
theorem A2:∀{k:Key} {v:Value},DF k v=true→(∃ i t,k=Sum.inl i∧v=Value.int i t)∨(∃ x t,k=Sum.inr x∧v=Value.str x t)
 | .inl i,v,h=>by
  obtain⟨t,e⟩:=Value.isInt_shape (k:=i) (v:=v) h
  exact .inl ⟨i,t,rfl,e⟩
 | .inr x,v,h=>by
  obtain⟨t,e⟩:=Value.isStrOf_shape (x:=x) (v:=v) h
  exact .inr ⟨x,t,rfl,e⟩
theorem FX(a b:Int):decide ((Sum.inl a:Key)=Sum.inl b)=(a == b):=by
 by_cases e:a=b
 ·subst e;simp
 ·have h:¬ (Sum.inl a:Key)=Sum.inl b:=fun q=>e (Sum.inl.inj q)
  rw[decide_eq_false h]
  exact(beq_eq_false_iff_ne.mpr e).symm
theorem FU(a b:Str):decide ((Sum.inr a:Key)=Sum.inr b)=decide (a=b):=by
 by_cases e:a=b
 ·subst e;simp
 ·have h:¬ (Sum.inr a:Key)=Sum.inr b:=fun q=>e (Sum.inr.inj q)
  rw[decide_eq_false h,decide_eq_false e]
theorem FW(a:Int)(b:Str):decide ((Sum.inl a:Key)=Sum.inr b)=false:=decide_eq_false (fun q=>nomatch q)
theorem FV(a:Str)(b:Int):decide ((Sum.inr a:Key)=Sum.inl b)=false:=decide_eq_false (fun q=>nomatch q)
noncomputable def rY(prog:Program)(w:World):PySem.KeyKind prog w Key where
 is:=DF
 hash:=JX w
 inj:=fun v a b ha hb=>by
  rcases A2 ha with⟨i,t,rfl,rfl⟩|⟨x,t,rfl,rfl⟩
  ·rcases A2 hb with⟨j,u,rfl,e⟩|⟨y,u,rfl,e⟩
   ·injection e with e1 _;rw[e1]
   ·exact nomatch e
  ·rcases A2 hb with⟨j,u,rfl,e⟩|⟨y,u,rfl,e⟩
   ·exact nomatch e
   ·injection e with e1 _;rw[e1]
 byValue:=fun k v h=>by
  rcases A2 h with⟨i,t,rfl,rfl⟩|⟨x,t,rfl,rfl⟩<;>rfl
 pyHash:=fun hv h=>by
  rcases A2 hv with⟨i,t,rfl,rfl⟩|⟨x,t,rfl,rfl⟩
  ·exact wpAny_pyHash_int h
  ·exact wpAny_pyHash_str h
 eqBool:=fun hu hv h=>by
  rcases A2 hu with⟨i,t,rfl,rfl⟩|⟨x,t,rfl,rfl⟩
  ·rcases A2 hv with⟨j,u,rfl,rfl⟩|⟨y,u,rfl,rfl⟩
   ·rw[FX]at h;exact wpAny_eqBool_int h
   ·rw[FW]at h;exact SeqAt.EqAt.int_str i t y u _ _ _ _ h
  ·rcases A2 hv with⟨j,u,rfl,rfl⟩|⟨y,u,rfl,rfl⟩
   ·rw[FV]at h;exact SeqAt.EqAt.str_int x t j u _ _ _ _ h
   ·rw[FU]at h;exact wpAny_eqBool_str h
 «strs»:=fun k x t v h=>by
  rcases A2 h with⟨i,u,rfl,e⟩|⟨y,u,rfl,e⟩
  ·exact nomatch e
  ·injection e with e1 _
   subst e1
   cases v<;>rfl
inductive V where
 | non|bl (b:Bool)|int (i:Int)|str (x:Str)|byt (b:Array UInt8)|flt (b:UInt64)|ref (a:Addr)|ty (n:String)
 deriving DecidableEq
noncomputable def q9:V→Value→Prop
 | .non,u=>u=Value.none
 | .bl b,u=>u=Value.bool b
 | .int i,u=>∃ t,u=Value.int i t
 | .str x,u=>∃ t,u=Value.str x t
 | .byt b,u=>∃ t,u=Value.bytes b t
 | .flt b,u=>∃ t,u=Value.float b t
 | .ref a,u=>u=Value.ref a
 | .ty n,u=>u=Value.type n
noncomputable abbrev j6:List V→List Value→Prop:=Paired q9
theorem j6.length{xs:List V}{us:List Value}(r:j6 xs us):xs.length=us.length:=Paired.length r
theorem j6.get:∀{xs:List V} {us:List Value} {i:Nat} {x:V},j6 xs us→xs[i]? = some x→∃ u,us[i]? = some u∧q9 x u
 | _,_,_,_,.nil,e=>by simp at e
 | _,_,0,_,.cons r _,e=>by simp at e;subst e;exact⟨_,rfl,r⟩
 | _,_,i+1,x,.cons _ t,e=>by
  obtain⟨u,h1,h2⟩:=j6.get (i:=i) (x:=x) t (by simpa using e)
  exact⟨u,by simpa using h1,h2⟩
theorem j6.set{x:V}{u:Value}(r:q9 x u):∀{xs:List V} {us:List Value} (i:Nat),j6 xs us→j6 (xs.set i x) (us.set i u)
 | _,_,_,.nil=>.nil
 | _,_,0,.cons _ t=>.cons r t
 | _,_,i+1,.cons q t=>.cons q (j6.set r i t)
theorem j6.append:∀{xs ys:List V} {us ws:List Value},j6 xs us→j6 ys ws→j6 (xs++ys) (us++ws)
 | _,_,_,_,.nil,s=>s
 | _,_,_,_,.cons r t,s=>.cons r (j6.append t s)
theorem j6.take:∀{xs:List V} {us:List Value} (n:Nat),j6 xs us→j6 (xs.take n) (us.take n)
 | _,_,0,_=>.nil
 | _,_,_+1,.nil=>.nil
 | _,_,n+1,.cons r t=>.cons r (j6.take n t)
theorem j6.drop:∀{xs:List V} {us:List Value} (n:Nat),j6 xs us→j6 (xs.drop n) (us.drop n)
 | _,_,0,r=>r
 | _,_,_+1,.nil=>.nil
 | _,_,n+1,.cons _ t=>j6.drop n t
noncomputable def GF:Option V→Option Value→Prop
 | some v,some u=>q9 v u
 | none,none=>True
 | _,_=>False
noncomputable def KV{κ:Type}:List (κ × V)→List (κ × Value)→Prop:=Paired fun(p:κ × V) (q:κ × Value)=>p.1=q.1∧q9 p.2 q.2
noncomputable def kV:Key→V
 | .inl i=>.int i
 | .inr x=>.str x
inductive HO where
 | lst (xs:List V)
 | tup (xs:List V)
 | dK (kvs:List (Key × V))|dT (kvs:List (List Key × V))
 | set (S:Int→Bool) (n:Nat)
 | ins (C dx:Addr) (fs:List (Str × V))
 | own (x:Addr)
 | xd (fs:List (Str × V))
 | met (f x:Addr)
 | rng (lo hi:Int)
 | frz (o:Obj) (u:HO)
 | tbl (ps:Array Value)
 | ext (φ:Heap→Prop)
noncomputable abbrev Hp:=Addr→Option HO
noncomputable def upd(H:Hp)(a:Addr)(o:HO):Hp:=fun b=>if b=a then some o else H b
theorem i6{H:Hp}{a:Addr}{o:HO}:upd H a o a=some o:=by unfold upd;rw[if_pos rfl]
theorem g6{H:Hp}{a b:Addr}{o:HO}(h:b≠a):upd H a o b=H b:=by unfold upd;rw[if_neg h]
theorem ao{H:Hp}{a:Addr}{o u:HO}:upd (upd H a o) a u=upd H a u:=by
 funext b;unfold upd;split<;>rfl
theorem E6{H:Hp}{a b:Addr}{o:HO}(h:H a=some o)(h':H b=none):a≠b:=by
 intro e;subst e;rw[h]at h';cases h'
section
variable (P:Program) (w:World)
noncomputable def B4(H:Hp)(h:Heap)(a:Addr):HO→Prop
 | .lst xs=>xs.length≤sizeLine∧∃(its:List Value) (n:Nat),j6 xs its∧h.get? a=some { cls:=.type "list",data:=.seq its.toArray n }
 | .tup xs=>xs.length≤sizeLine∧∃ its:List Value,j6 xs its∧IsTup h a its.toArray
 | .dK kvs=>kvs.length≤sizeLine∧(a == sysModules)=false∧∃ vs,KV kvs vs∧h.DictOf (rY P w) a vs
 | .dT kvs=>kvs.length≤sizeLine∧(a == sysModules)=false∧∃ xs:List (List Key × Addr × Value),
   Paired (fun(p:List Key × V) (q:List Key × Addr × Value)=>p.1=q.1∧H q.2.1=some (.tup (p.1.map kV))∧q9 p.2 q.2.2) kvs xs ∧
   ∃ o es ep,h.get? a=some o∧o.ExactDict∧o.data = .dict es ep∧es.toList=xs.map (entryOfKey (tupleKind (rY P w)))∧(xs.map (·.1)).Nodup
 | .set S n=>h.SetOf (intKind P w) a S n
 | .ins C dx fs=>H dx=some (.own a)∧fs.length≤1000∧dx≠a∧h.get? a=some (PySem.W.instObj C dx) ∧
   ∃ mA,h.Ns1 dx mA∧(∀ f,GF (fs.lookup f) (mA f))∧PySem.Within mA (fs.map (·.1))
 | .own _=>∃ o,h.get? a=some o
 | .xd fs=>∃ mA,h.Ns1 a mA∧∀ f,GF (fs.lookup f) (mA f)
 | .rng lo hi=>∃ t u v,h.get? a=some { cls:=.type "range",data:=.fields #[.int lo t,.int hi u,.int 1 v] }
 | .frz o u=>h.get? a=some o∧B4 H h a u
 | .tbl ps=>h.get? a=some { cls:=.none,data:=.fields ps }
 | .met f x=>h.get? a=some (PySem.W.methodObj (.ref f) (.ref x))
 | .ext φ=>φ h∧(∃ o,h.get? a=some o)∧∀ h1 h2:Heap,φ h1→(∀ o,h1.get? a=some o→h2.get? a=some o)→φ h2
def HOk(H:Hp)(h:Heap):Prop:=∀ a o,H a=some o→B4 P w H h a o
end
section
variable {P:Program} {w:World} {H H':Hp} {h h':Heap} {a:Addr} {o:HO}
theorem B4.lt(x:B4 P w H h a o):a<h.objs.size:=by
 cases o with
 | lst xs=>obtain⟨_,_,_,_,e⟩:=x;exact Nn e
 | tup xs=>obtain⟨_,_,_,p⟩:=x;exact p.lt
 | dK kvs=>obtain⟨_,_,_,_,o,_,_,e,_⟩:=x;exact Nn e
 | dT kvs=>obtain⟨_,_,_,_,o,_,_,e,_⟩:=x;exact Nn e
 | set S n=>obtain⟨o,_,_,_,e,_⟩:=x;exact Nn e
 | ins C dx fs=>obtain⟨_,_,_,e,_⟩:=x;exact Nn e
 | own y=>obtain⟨_,e⟩:=x;exact Nn e
 | xd fs=>obtain⟨_,⟨_,_,_,e,_⟩,_⟩:=x;exact Nn e
 | rng lo hi=>obtain⟨_,_,_,e⟩:=x;exact Nn e
 | frz ob u=>obtain⟨e,_⟩:=x;exact Nn e
 | tbl ps=>exact Nn (show h.get? a=some _ from x)
 | met f y=>exact Nn (show h.get? a=some _ from x)
 | ext φ=>obtain⟨_,⟨_,e⟩,_⟩:=x;exact Nn e
theorem Paired.mapP{α β:Type}{F G:α→β→Prop}:∀{l₁:List α} {l₂:List β},Paired F l₁ l₂→(∀ a b,F a b→G a b)→Paired G l₁ l₂
 | _,_,.nil,_=>.nil
 | _,_,.cons r t,f=>.cons (f _ _ r) (Paired.mapP t f)
theorem B4.stay(x:B4 P w H h a o)(k:∀ b u,(b=a∨H b=some (.own a))→h.get? b=some u→h'.get? b=some u)
  (ho:∀ b,H b=some (.own a)→H' b=some (.own a)) (ht:∀ b xs,H b=some (.tup xs)→H' b=some (.tup xs)):B4 P w H' h' a o:=by
 induction o with
 | lst xs=>obtain⟨z,its,n,r,e⟩:=x;exact⟨z,its,n,r,k _ _ (.inl rfl) e⟩
 | tup xs=>obtain⟨z,its,r,ob,e,c⟩:=x;exact⟨z,its,r,ob,k _ _ (.inl rfl) e,c⟩
 | dK kvs=>obtain⟨z,y,vs,r,ob,es,ep,e,c⟩:=x;exact⟨z,y,vs,r,ob,es,ep,k _ _ (.inl rfl) e,c⟩
 | dT kvs =>
  obtain⟨z,y,xs,r,ob,es,ep,e,c⟩:=x
  exact⟨z,y,xs,Paired.mapP r fun p q z=>⟨z.1,ht _ _ z.2.1,z.2.2⟩,ob,es,ep,k _ _ (.inl rfl) e,c⟩
 | set S n=>obtain⟨ob,es,ep,t,e,c⟩:=x;exact⟨ob,es,ep,t,k _ _ (.inl rfl) e,c⟩
 | ins C dx fs =>
  obtain⟨d,z,ne,e,mA,⟨od,es,ep,e2,c⟩,r⟩:=x
  exact⟨ho _ d,z,ne,k _ _ (.inl rfl) e,mA,⟨od,es,ep,k _ _ (.inr d) e2,c⟩,r⟩
 | own y=>obtain⟨ob,e⟩:=x;exact⟨ob,k _ _ (.inl rfl) e⟩
 | xd fs=>obtain⟨mA,⟨od,es,ep,e,c⟩,r⟩:=x;exact⟨mA,⟨od,es,ep,k _ _ (.inl rfl) e,c⟩,r⟩
 | rng lo hi=>obtain⟨t,u,v,e⟩:=x;exact⟨t,u,v,k _ _ (.inl rfl) e⟩
 | frz ob u ih=>obtain⟨e,q⟩:=x;exact⟨k _ _ (.inl rfl) e,ih q⟩
 | tbl ps =>
  have e:h.get? a=some { cls:=.none,data:=.fields ps }:=x
  show h'.get? a=some { cls:=.none,data:=.fields ps }
  exact k a _ (.inl rfl) e
 | met f y =>
  have e:h.get? a=some (PySem.W.methodObj (.ref f) (.ref y)):=x
  show h'.get? a=some (PySem.W.methodObj (.ref f) (.ref y))
  exact k a _ (.inl rfl) e
 | ext φ=>obtain⟨p,⟨o,e⟩,st⟩:=x;exact⟨st _ _ p fun o q=>k _ _ (.inl rfl) q,⟨o,k _ _ (.inl rfl) e⟩,st⟩
theorem HOk.lt(x:HOk P w H h)(e:H a=some o):a<h.objs.size:=(x a o e).lt
theorem HOk.fresh(x:HOk P w H h)(e:h.objs.size≤a):H a=none:=by
 cases q:H a with
 | none=>rfl
 | some u=>exact absurd (Nf (x.lt q) e) (OG _)
theorem HOk.kept(x:HOk P w H h)(k:∀ b u,h.get? b=some u→h'.get? b=some u):HOk P w H h':=fun a o e =>
 (x a o e).stay (fun b u _ q=>k b u q) (fun _ q=>q) fun _ _ q=>q
theorem HOk.laid(x:HOk P w H h)(k:∀ b u,h.get? b=some u→h'.get? b=some u)(hp:h.objs.size≤a)(new:B4 P w (upd H a o) h' a o):HOk P w (upd H a o) h':=fun b u e=>by
 have hn:=x.fresh hp
 by_cases hb:b=a
 ·subst hb;rw[i6]at e;cases e;exact new
 ·rw[g6 hb]at e
  exact(x b u e).stay (fun c v _ q=>k c v q) (fun c q=>by rw[g6 (E6 q hn)];exact q) fun c xs q=>by rw[g6 (E6 q hn)];exact q
end
def Rd(H:Hp)(a:Addr)(u:HO):Prop:=H a=some u ∨ ∃ o,H a=some (.frz o u)
theorem Rd.of{H:Hp}{a:Addr}{u:HO}(h:H a=some u):Rd H a u:=.inl h
theorem Rd.ok{P:Program}{w:World}{H:Hp}{h:Heap}{a:Addr}{u:HO}(r:Rd H a u)(x:HOk P w H h):B4 P w H h a u:=by
 rcases r with r|⟨o,r⟩
 ·exact x a u r
 ·obtain⟨_,q⟩:=x a _ r
  exact q
noncomputable def Mut:Option HO→Prop
 | some (.lst _)=>True
 | some (.dK _)=>True
 | some (.dT _)=>True
 | some (.set _ _)=>True
 | some (.ins _ _ _)=>True
 | some (.ext _)=>True
 | _=>False
section
variable {P:Program} {w:World} {H:Hp} {h h':Heap} {x e:Addr} {o':HO}
theorem HOk.write(ok:HOk P w H h)(mu:Mut (H x))(he:e=x∨H e=some (.own x))(k:∀ b u,b≠e→h.get? b=some u→h'.get? b=some u)(heo:∃ u,h'.get? e=some u)
  (new:B4 P w (upd H x o') h' x o'):HOk P w (upd H x o') h':=fun b u q=>by
 have nown:∀ c y,H c=some (.own y)→c≠x:=fun c y r z=>by subst z;rw[r]at mu;exact mu
 have ntup:∀ c xs,H c=some (.tup xs)→c≠x:=fun c xs r z=>by subst z;rw[r]at mu;exact mu
 by_cases hb:b=x
 ·subst hb;rw[i6]at q;cases q;exact new
 ·rw[g6 hb]at q
  by_cases hbe:b=e
  ·have q':H b=some (.own x):=by
    rcases he with z|z
    ·exact absurd (hbe.trans z) hb
    ·rw[hbe];exact z
   rw[q]at q';cases q'
   obtain⟨v,hv⟩:=heo
   exact⟨v,by rw[hbe];exact hv⟩
  ·refine(ok b u q).stay (fun c v hc r=>k c v ?_ r) (fun c r=>by rw[g6 (nown c b r)];exact r) fun c xs r=>by rw[g6 (ntup c xs r)];exact r
   rcases hc with rfl|hc
   ·exact hbe
   ·rintro rfl
    rcases he with z|z
    ·exact nown c b hc z
    ·rw[hc]at z;cases z;exact hb rfl
end
structure Un(fs ex:List Addr)(H H':Hp)(h h':Heap):Prop where
 keep:∀ b o,h.get? b=some o→H b=none→b∉fs→b∉ex→h'.get? b=some o
 slot:∀ b o,h.get? b=some o→H b=none→b∈fs→b∉ex→∃ sl,h'.get? b=some { o with slots:=sl }
 free:∀ b o,h.get? b=some o→H b=none→b∉ex→H' b=none
 there:∀ b o,h.get? b=some o→b∉ex→∃ o',h'.get? b=some o'
 tups:∀ b xs,H b=some (.tup xs)→H' b=some (.tup xs)
 frzs:∀ b o u,H b=some (.frz o u)→H' b=some (.frz o u)
 tbls:∀ b ps,H b=some (.tbl ps)→∃ more,H' b=some (.tbl (ps++more))
section
variable {fs fs' ex ex':List Addr} {H H1 H2:Hp} {h h1 h2 h':Heap} {a x e:Addr} {o:HO}
theorem Un.any(u:Un fs ex H H1 h h1){b:Addr}{ob:Obj}(q:h.get? b=some ob)(n:H b=none)(hx:b∉ex):∃ sl,h1.get? b=some { ob with slots:=sl }:=by
 by_cases hb:b∈fs
 ·exact u.slot b ob q n hb hx
 ·exact⟨ob.slots,u.keep b ob q n hb hx⟩
theorem Un.trans(a:Un fs ex H H1 h h1)(b:Un fs ex H1 H2 h1 h2):Un fs ex H H2 h h2 where
 keep:=fun c ob q n hc hx=>b.keep c ob (a.keep c ob q n hc hx) (a.free c ob q n hx) hc hx
 slot:=fun c ob q n hc hx=>by
  obtain⟨sl,e1⟩:=a.slot c ob q n hc hx
  obtain⟨sl',e2⟩:=b.slot c _ e1 (a.free c ob q n hx) hc hx
  exact⟨sl',e2⟩
 free:=fun c ob q n hx=>by
  obtain⟨o',e1⟩:=a.there c ob q hx
  exact b.free c o' e1 (a.free c ob q n hx) hx
 there:=fun c ob q hx=>by
  obtain⟨o',e1⟩:=a.there c ob q hx
  exact b.there c o' e1 hx
 tups:=fun c xs q=>b.tups c xs (a.tups c xs q)
 frzs:=fun c ob xs q=>b.frzs c ob xs (a.frzs c ob xs q)
 tbls:=fun c ps q=>by
  obtain⟨m1,e1⟩:=a.tbls c ps q
  obtain⟨m2,e2⟩:=b.tbls c _ e1
  exact⟨m1++m2,by rw[e2,Array.append_assoc]⟩
theorem Un.kept(k:∀ b u,h.get? b=some u→h'.get? b=some u):Un fs ex H H h h' :=
 ⟨fun b ob q _ _ _=>k b ob q,fun b ob q _ _ _=>⟨ob.slots,k b ob q⟩,fun _ _ _ n _=>n,fun b ob q _=>⟨ob,k b ob q⟩,fun _ _ q=>q,fun _ _ _ q=>q,fun _ ps q=>⟨#[],by rw[q];simp⟩⟩
theorem Un.refl:Un fs ex H H h h:=Un.kept fun _ _ q=>q
theorem Un.laid(k:∀ b u,h.get? b=some u→h'.get? b=some u)(hp:h.objs.size≤a)(hn:H a=none):Un fs ex H (upd H a o) h h' where
 keep:=fun b u q _ _ _=>k b u q
 slot:=fun b u q _ _ _=>⟨u.slots,k b u q⟩
 free:=fun b u q n _=>by rw[g6 (NC (Nf (Nn q) hp))];exact n
 there:=fun b u q _=>⟨u,k b u q⟩
 tups:=fun b xs q=>by rw[g6 (E6 q hn)];exact q
 frzs:=fun b u xs q=>by rw[g6 (E6 q hn)];exact q
 tbls:=fun b ps q=>⟨#[],by rw[g6 (E6 q hn),q];simp⟩
theorem Un.write(mu:Mut (H x))(he:e=x∨H e=some (.own x))(k:∀ b u,b≠e→h.get? b=some u→h'.get? b=some u)(heo:∃ u,h'.get? e=some u):Un fs ex H (upd H x o) h h':=by
 have hx:∀ b,H b=none→b≠x:=fun b n z=>by subst z;rw[n]at mu;exact mu
 have hb:∀ b,H b=none→b≠e:=fun b n z=>by
  subst z
  rcases he with r|r
  ·exact hx b n r
  ·rw[n]at r;cases r
 have hm:∀ b u,H b=some u→¬ Mut (some u)→b≠x:=fun b u q nm z=>by subst z;rw[q]at mu;exact nm mu
 refine⟨fun b u q n _ _=>k b u (hb b n) q,fun b u q n _ _=>⟨u.slots,k b u (hb b n) q⟩,fun b u q n _=>by rw[g6 (hx b n)];exact n,fun b u q _=>?_,
  fun b xs q=>by rw[g6 (hm b _ q fun z=>z)];exact q,fun b u xs q=>by rw[g6 (hm b _ q fun z=>z)];exact q,fun b ps q=>⟨#[],by rw[g6 (hm b _ q fun z=>z),q];simp⟩⟩
 by_cases hbe:b=e
 ·subst hbe;exact heo
 ·exact⟨u,k b u hbe q⟩
theorem Un.mono(u:Un fs ex H H1 h h1)(hs:∀ b∈fs,b∈fs')(hx:∀ b∈ex,b∈ex'):Un fs' ex' H H1 h h1 :=
 ⟨fun b ob q n hb he=>u.keep b ob q n (fun z=>hb (hs b z)) fun z=>he (hx b z),fun _ _ q n _ he=>u.any q n fun z=>he (hx _ z),fun b ob q n he=>u.free b ob q n fun z=>he (hx b z),fun b ob q he=>u.there b ob q fun z=>he (hx b z),u.tups,u.frzs,u.tbls⟩
end
noncomputable def trk(h:Heap)(H:Hp):List Addr:=(OC h.objs.size).filter fun a=>(H a).isSome
noncomputable def kL(h:Heap)(H:Hp):Heap:=PySem.W.hideAll h (trk h H)
theorem ua(h:Heap)(H:Hp):(kL h H).objs.size=h.objs.size:=PySem.W.hideAll_size _ _
theorem xI{h:Heap}{H:Hp}{b:Addr}{o:Obj}(e:h.get? b=some o)(n:H b=none):(kL h H).get? b=some o :=
 PySem.W.hideAll_get _ e fun hm=>by
  have q:(H b).isSome=true:=(QD.mp hm).2
  rw[n]at q;simp at q
theorem BB{h:Heap}{H:Hp}{b:Addr}{o:Obj}(e:(kL h H).get? b=some o):h.get? b=some o∧H b=none:=by
 have e':h.get? b=some o:=PySem.W.of_hideAll (trk h H) e
 refine⟨e',?_⟩
 cases q:H b with
 | none=>rfl
 | some x =>
  have hm:b∈trk h H:=QD.mpr ⟨QQ.mpr (Nn e'),by simp[q]⟩
  have z:(kL h H).get? b=none:=PySem.W.hideAll_none (trk h H) hm
  rw[z]at e;cases e
noncomputable def dz(g h:Heap)(L:Addr):List (Addr × Obj):=(OC h.objs.size).filterMap fun a=>if a=L∨(g.get? a).isSome=true then none else(h.get? a).map fun o=>(a,o)
theorem V0{g h:Heap}{L a:Addr}{o:Obj}(h1:a≠L)(h2:g.get? a=none)(h3:h.get? a=some o):(a,o)∈dz g h L :=
 Pj.mpr ⟨a,QQ.mpr (Nn h3),by simp[h1,h2,h3]⟩
theorem eR{g h:Heap}{L:Addr}{p:Addr × Obj}(hp:p∈dz g h L):p.1≠L∧g.get? p.1=none∧h.get? p.1=some p.2:=by
 obtain⟨b,_,e⟩:=Pj.mp hp
 split at e
 ·cases e
 ·rename_i hn
  cases q:h.get? b with
  | none=>rw[q]at e;simp at e
  | some u =>
   rw[q]at e
   simp only[Option.map_some,Option.some.injEq]at e
   subst e
   refine⟨fun z=>hn (.inl z),?_,q⟩
   show g.get? b=none
   cases r:g.get? b with
   | none=>rfl
   | some v=>exact(hn (.inr (by simp[r]))).elim
noncomputable def D9(g h:Heap)(L d:Addr):List (Addr × Obj):=(dz g h L).filter fun p=>decide (p.1≠d)
theorem xo{g h:Heap}{L:Addr}:News g L h (dz g h L):=fun p hp=>let ⟨a,b,c⟩:=eR hp;⟨c,a,b⟩
structure Mod(K:Nd)(mg:Str→Option Value)(base:Heap):Prop where
 kin:K.In base
 glob:base.Ns mainGlobals mg
 blt:∃ mb,base.Ns builtinsNs mb∧∀ x:Str,x ≠ "__name__" → mb x=bootBuiltins x
 nolimit:base.NoLimit
structure Cx where
 prog:Program
 w:World
 K:Nd
 mg:Str→Option Value
 base:Heap
 A:Around
 N:List Str
 s₀:Shared
 H₀:Hp
 env:Env
 outer:List Env
 stack:List Env
 ex:List Addr
 fn:Str→Bool
 calm:Bool
 pn:List (Addr × Obj)
 xe:Value→Shared→Prop
noncomputable def frs(l:List Env):List Addr:=l.filterMap (·.frame)
noncomputable abbrev Cx.fs(X:Cx):List Addr:=frs X.outer
def Vis(sc:Scope)(x:Str):Prop:=sc.names.lookup x=some .local∨sc.names.lookup x=some .cell∨sc.names.lookup x=some .free
def Loc(sc:Scope)(x:Str):Prop:=sc.names.lookup x=some .local∨sc.names.lookup x=some .cell
def Kk(env:Env)(h:Heap)(m:Str→Option Value)(x:Str)(u:Value):Prop :=
 (env.kindOf x=some .local∧m x=some u)∨((env.kindOf x=some .cell∨env.kindOf x=some .free)∧∃ c,env.cells.lookup x=some c∧h.IsCell c (some u))
structure Cx.Ok(X:Cx):Prop where
 mod:Mod X.K X.mg X.base
 kind:X.env.scope.kind = .function
 glob:X.env.globals=mainGlobals
 blt:X.env.builtins=builtinsNs
 above:X.s₀.heap.objs.size≤X.env.locals
 inj:∀ x y c,X.env.cells.lookup x=some c→X.env.cells.lookup y=some c→x=y
 has:∀ x,(X.env.kindOf x=some .cell∨X.env.kindOf x=some .free)→∃ c,X.env.cells.lookup x=some c
 cab:∀ x c,X.fn x=true→X.env.cells.lookup x=some c→X.s₀.heap.objs.size≤c
 hd:X.calm=true→X.A.handled=none
 frames:X.A.frames=some X.stack
 stk:X.stack=X.outer∨(X.stack=X.env :: X.outer∧X.env.frame=some X.env.locals)
 exf:∀ b∈X.ex,b≠X.env.locals∧∀ x c,X.env.cells.lookup x=some c→c≠b
 bs:∀ b o,X.base.get? b=some o→X.s₀.heap.get? b=some o∧X.H₀ b=none
 bsz:X.base.objs.size≤X.s₀.heap.objs.size
 noex:∀ b o,X.base.get? b=some o→b∉X.ex
 exfs:∀ b∈X.ex,b∉X.fs
 funs:X.s₀.heap.FunFrames X.base X.outer
 frf:∀ b∈X.fs,X.H₀ b=none
structure Inv(X:Cx)(pins:List (Addr × Obj))(σ:List (Option V))(H:Hp)(s:Shared):Prop where
 ok:X.Ok
 os:s.os=X.s₀.os
 bare:AllBare s.gens
 base:Un X.fs X.ex X.H₀ H X.s₀.heap s.heap
 loc:∃ m,s.heap.Ns X.env.locals m∧∀(i:Nat) (x:Str) (v:V),X.N[i]? = some x→σ[i]? = some (some v)→Vis X.env.scope x→∃ u,q9 v u∧Kk X.env s.heap m x u
 cell:∀ x c,X.env.cells.lookup x=some c→∃ v,s.heap.IsCell c v
 free:H X.env.locals=none
 freeC:∀ x c,X.env.cells.lookup x=some c→H c=none
 pin:∀ p∈X.pn++pins,s.heap.get? p.1=some p.2∧H p.1=none∧p.1≠X.env.locals∧p.1∉X.fs∧∀ v,p.2.data ≠ .cell v
 hok:HOk X.prog X.w H s.heap
 len:σ.length=X.N.length
section
variable {X:Cx} {pins:List (Addr × Obj)} {σ:List (Option V)} {H H':Hp} {s:Shared} {h':Heap}
theorem Cx.Ok.nofr(ok:X.Ok){b:Addr}{o:Obj}(e:X.base.get? b=some o):b∉X.fs:=fun hb=>by
 have:=(ok.funs.mem hb).1
 rw[e]at this;cases this
theorem Inv.bs(I:Inv X pins σ H s):∀ b o,X.base.get? b=some o→s.heap.get? b=some o∧H b=none:=fun b o e =>
 ⟨I.base.keep b o (I.ok.bs b o e).1 (I.ok.bs b o e).2 (I.ok.nofr e) (I.ok.noex b o e),I.base.free b o (I.ok.bs b o e).1 (I.ok.bs b o e).2 (I.ok.noex b o e)⟩
theorem Inv.bk(I:Inv X pins σ H s):∀ b o,X.base.get? b=some o→s.heap.get? b=some o:=fun b o e=>(I.bs b o e).1
theorem Inv.mod(I:Inv X pins σ H s):Mod X.K X.mg X.base:=I.ok.mod
theorem Inv.kIn(I:Inv X pins σ H s):X.K.In s.heap:=I.ok.mod.kin.keeps I.bk
theorem Inv.nolimit(I:Inv X pins σ H s):s.heap.NoLimit:=I.ok.mod.nolimit.keeps I.bk
theorem Inv.fr(I:Inv X pins σ H s):∃ m,Fr X.base X.env.locals s.heap m :=
 let ⟨m,hn,_⟩:=I.loc
 ⟨m,hn,I.bk,Nr I.ok.bsz I.ok.above⟩
theorem Inv.lt(I:Inv X pins σ H s):X.env.locals<s.heap.objs.size:=let ⟨_,hn,_⟩:=I.loc;hn.lt
theorem Inv.sz(I:Inv X pins σ H s):X.s₀.heap.objs.size≤s.heap.objs.size:=Nr I.ok.above (Ou I.lt)
theorem Inv.nofs(I:Inv X pins σ H s){a:Addr}(h:s.heap.objs.size≤a):a∉X.fs:=fun hb=>by
 obtain⟨_,o,ho,_⟩:=I.ok.funs.mem hb
 exact absurd (Nf (Nn ho) (Nr I.sz h)) (OG _)
theorem Inv.cne(I:Inv X pins σ H s):∀ x c,X.env.cells.lookup x=some c→c≠X.env.locals:=fun x c e z=>by
 obtain⟨v,o,ho,hd⟩:=I.cell x c e
 obtain⟨m,⟨o',es,ep,ho',hd',_⟩,_⟩:=I.loc
 rw[z,ho']at ho;cases ho;rw[hd']at hd;cases hd
theorem Inv.funs(I:Inv X pins σ H s):s.heap.FunFrames X.base X.outer:=by
 have all:∀(l:List Env),(∀ b∈frs l,b∈X.fs)→X.s₀.heap.FunFrames X.base l→s.heap.FunFrames X.base l:=by
  intro l
  induction l with
  | nil=>intro _ _;trivial
  | cons env r ih =>
   intro hs hl
   obtain⟨hk,⟨L,o,hf,hn,ho,hd⟩,hr⟩:=hl
   have hL:L∈X.fs:=hs L (by unfold frs;rw[PL,hf];exact Nk)
   obtain⟨sl,e⟩:=I.base.slot L o ho (I.ok.frf L hL) hL fun z=>I.ok.exfs L z hL
   exact⟨hk,⟨L,_,hf,hn,e,hd⟩,ih (fun b hb=>hs b (by unfold frs;rw[PL,hf];exact Nj _ hb)) hr⟩
 exact all X.outer (fun _ hb=>hb) I.ok.funs
theorem Inv.stack(I:Inv X pins σ H s):s.heap.FunFrames X.base X.stack:=by
 rcases I.ok.stk with e|⟨e,hf⟩
 ·rw[e];exact I.funs
 ·rw[e]
  obtain⟨m,hn,_⟩:=I.loc
  refine .cons (by rw[I.ok.kind];decide) hf hn ?_ I.funs
  exact Heap.get?_none_of_le (Nr I.ok.bsz I.ok.above)
theorem Inv.stkSub(I:Inv X pins σ H s):∀ b∈frs X.stack,b∈X.env.locals :: X.fs:=fun b hb=>by
 rcases I.ok.stk with e|⟨e,hf⟩
 ·rw[e]at hb;exact Nj _ hb
 ·rw[e]at hb
  unfold frs at hb
  rw[PL,hf]at hb
  exact hb
theorem Inv.stkFree(I:Inv X pins σ H s):∀ b∈frs X.stack,H b=none:=fun b hb=>by
 rcases Nh.mp (I.stkSub b hb)with e|hb
 ·rw[e];exact I.free
 ·obtain⟨_,o,ho,_⟩:=I.ok.funs.mem hb
  exact I.base.free b o ho (I.ok.frf b hb) fun z=>I.ok.exfs b z hb
theorem Inv.step{g':Array GenState}{t':Nat}{d':Drawn}{ch:List Addr}(I:Inv X pins σ H s)
  (hch:∀ b∈ch,(b∈X.ex∨X.s₀.heap.objs.size≤b)∧b≠X.env.locals∧(∀ x c,X.env.cells.lookup x=some c→c≠b)∧∀ p∈X.pn++pins,p.1≠b)
  (keep:∀ b o,b≠X.env.locals→b∉X.fs→b∉ch→s.heap.get? b=some o→H b=none→h'.get? b=some o)
  (slot:∀ b o,b≠X.env.locals→b∈X.fs→b∉ch→s.heap.get? b=some o→H b=none→∃ sl,h'.get? b=some { o with slots:=sl }) (free:∀ b o,b∉ch→s.heap.get? b=some o→H b=none→H' b=none)
  (there:∀ b o,b∉ch→s.heap.get? b=some o→∃ o',h'.get? b=some o')
  (tups:∀ b xs,H b=some (.tup xs)→H' b=some (.tup xs)) (frzs:∀ b o u,H b=some (.frz o u)→H' b=some (.frz o u)) (tbls:∀ b ps,H b=some (.tbl ps)→∃ more,H' b=some (.tbl (ps++more)))
  (ns:∀ m,s.heap.Ns X.env.locals m→h'.Ns X.env.locals m) (hok:HOk X.prog X.w H' h') (hg:AllBare g') :
  Inv X pins σ H' { s with heap:=h',gens:=g',drawn:=d',toks:=t' }:=by
 have neL:∀ b o,X.s₀.heap.get? b=some o→b≠X.env.locals:=fun b o e=>NC (Nf (Nn e) I.ok.above)
 have neC:∀ b o,X.s₀.heap.get? b=some o→b∉X.ex→b∉ch:=fun b o e hx hb=>by
  rcases(hch b hb).1 with z|z
  ·exact hx z
  ·exact absurd (Nf (Nn e) z) (OG _)
 have cellK:∀ x c,X.env.cells.lookup x=some c→∀ v,s.heap.IsCell c v→h'.IsCell c v:=fun x c e v zz=>by
  obtain⟨o,ho,hd⟩:=zz
  have nch:c∉ch:=fun z=>(hch c z).2.2.1 x c e rfl
  by_cases hc:c∈X.fs
  ·obtain⟨sl,q⟩:=slot c o (I.cne x c e) hc nch ho (I.freeC x c e)
   exact⟨_,q,hd⟩
  ·exact⟨o,keep c o (I.cne x c e) hc nch ho (I.freeC x c e),hd⟩
 refine⟨I.ok,I.os,hg,⟨fun b o e n hb hx=>?_,fun b o e n hb hx=>?_,fun b o e n hx=>?_,fun b o e hx=>?_,fun b xs e=>tups b xs (I.base.tups b xs e),fun b o xs e=>frzs b o xs (I.base.frzs b o xs e),fun b ps e=>?_⟩,?_,fun x c e=>?_,?_,fun x c e=>?_,fun p hp=>?_,hok,I.len⟩
 ·exact keep b o (neL b o e) hb (neC b o e hx) (I.base.keep b o e n hb hx) (I.base.free b o e n hx)
 ·obtain⟨sl,e1⟩:=I.base.slot b o e n hb hx
  obtain⟨sl',e2⟩:=slot b _ (neL b o e) hb (neC b o e hx) e1 (I.base.free b o e n hx)
  exact⟨sl',e2⟩
 ·obtain⟨o',e1⟩:=I.base.there b o e hx
  exact free b o' (neC b o e hx) e1 (I.base.free b o e n hx)
 ·obtain⟨o',e1⟩:=I.base.there b o e hx
  exact there b o' (neC b o e hx) e1
 ·obtain⟨m1,e1⟩:=I.base.tbls b ps e
  obtain⟨m2,e2⟩:=tbls b _ e1
  exact⟨m1++m2,by rw[e2,Array.append_assoc]⟩
 ·obtain⟨m,hn,hl⟩:=I.loc
  refine⟨m,ns m hn,fun i x v e1 e2 e3=>?_⟩
  obtain⟨u,r,l⟩:=hl i x v e1 e2 e3
  refine⟨u,r,?_⟩
  rcases l with l|⟨k,c,e,z⟩
  ·exact .inl l
  ·exact .inr ⟨k,c,e,cellK x c e _ z⟩
 ·obtain⟨v,z⟩:=I.cell x c e
  exact⟨v,cellK x c e v z⟩
 ·obtain⟨m,⟨o,_,_,ho,_⟩,_⟩:=I.loc
  exact free _ o (fun z=>(hch _ z).2.1 rfl) ho I.free
 ·obtain⟨v,o,ho,hd⟩:=I.cell x c e
  exact free c o (fun z=>(hch c z).2.2.1 x c e rfl) ho (I.freeC x c e)
 ·obtain⟨e,n,ne,nf,d⟩:=I.pin p hp
  have nch:p.1∉ch:=fun z=>(hch p.1 z).2.2.2 p hp rfl
  exact⟨keep p.1 p.2 ne nf nch e n,free p.1 p.2 nch e n,ne,nf,d⟩
theorem Inv.un{t':Nat}(I:Inv X pins σ H s)(u:Un X.fs [] H H' s.heap h')(hok:HOk X.prog X.w H' h'):Inv X pins σ H' { s with heap:=h',toks:=t' }:=by
 obtain⟨m,⟨o,es,ep,ho,r⟩,_⟩:=id I.loc
 obtain⟨sl,hL⟩:=u.any ho I.free (by simp)
 exact I.step (g':=s.gens) (d':=s.drawn) (ch:=[]) (fun _ z=>nomatch z) (fun b o _ hb _ e n=>u.keep b o e n hb (by simp)) (fun b o _ hb _ e n=>u.slot b o e n hb (by simp)) (fun b o _ e n=>u.free b o e n (by simp)) (fun b o _ e=>u.there b o e (by simp)) u.tups u.frzs u.tbls (fun m' hm=>by
  obtain⟨o',es',ep',ho',r'⟩:=hm
  rw[ho]at ho';cases ho'
  exact⟨_,es',ep',hL,r'⟩) hok I.bare
theorem Inv.call{g':Array GenState}{t':Nat}{d':Drawn}{ch:List Addr}(I:Inv X pins σ H s)(u:Un (frs X.stack) ch H H' s.heap h')(hok:HOk X.prog X.w H' h')(hg:AllBare g')
  (hch:∀ b∈ch,(b∈X.ex∨X.s₀.heap.objs.size≤b)∧b≠X.env.locals∧(∀ x c,X.env.cells.lookup x=some c→c≠b)∧∀ p∈X.pn++pins,p.1≠b) :
  Inv X pins σ H' { s with heap:=h',gens:=g',drawn:=d',toks:=t' }:=by
 obtain⟨m,⟨o,es,ep,ho,r⟩,_⟩:=id I.loc
 obtain⟨sl,hL⟩:=u.any ho I.free fun z=>(hch _ z).2.1 rfl
 exact I.step (ch:=ch) hch (fun b o hL hb hc e n=>u.keep b o e n (fun z=>(Nh.mp (I.stkSub b z)).elim hL hb) hc) (fun b o _ _ hc e n=>u.any e n hc) (fun b o hc e n=>u.free b o e n hc) (fun b o hc e=>u.there b o e hc) u.tups u.frzs u.tbls (fun m' hm=>by
  obtain⟨o',es',ep',ho',r'⟩:=hm
  rw[ho]at ho';cases ho'
  exact⟨_,es',ep',hL,r'⟩) hok hg
theorem Inv.turned{t':Nat}{it:Addr}(I:Inv X pins σ H s)(k:∀ b o,b≠it→s.heap.get? b=some o→h'.get? b=some o)(hn:H it=none)(hL:it≠X.env.locals)
  (h1:it∈X.ex∨X.s₀.heap.objs.size≤it) (h2:∀ x c,X.env.cells.lookup x=some c→c≠it) (h3:∀ p∈X.pn++pins,p.1≠it):Inv X pins σ H { s with heap:=h',toks:=t' }:=by
 have nit:∀ b u,H b=some u→b≠it:=fun b u e z=>by rw[z,hn]at e;cases e
 refine I.step (g':=s.gens) (d':=s.drawn) (ch:=[it]) (fun b hb=>?_) (fun b o _ _ hc e _=>k b o (fun z=>hc (by simp[z])) e) (fun b o _ _ hc e _=>⟨o.slots,k b o (fun z=>hc (by simp[z])) e⟩) (fun _ _ _ _ n=>n)
  (fun b o hc e=>⟨o,k b o (fun z=>hc (by simp[z])) e⟩) (fun _ _ e=>e) (fun _ _ _ e=>e) (fun b ps e=>⟨#[],by rw[e];simp⟩) (fun m hm=>?_) (fun b u e=>?_) I.bare
 ·have e:b=it:=by simpa using hb
  subst e
  exact⟨h1,hL,h2,h3⟩
 ·obtain⟨o,es,ep,ho,r⟩:=hm
  exact⟨o,es,ep,k _ o (Ne.symm hL) ho,r⟩
 ·refine(I.hok b u e).stay (fun c v hc q=>k c v ?_ q) (fun _ q=>q) fun _ _ q=>q
  rcases hc with z|z
  ·rw[z];exact nit b u e
  ·exact nit c _ z
theorem Inv.tok(I:Inv X pins σ H s)(t:Nat):Inv X pins σ H { s with toks:=t }:=I.un (h':=s.heap) (t':=t) Un.refl I.hok
theorem Inv.kept{t':Nat}(I:Inv X pins σ H s)(k:∀ b u,s.heap.get? b=some u→h'.get? b=some u):Inv X pins σ H { s with heap:=h',toks:=t' }:=I.un (Un.kept k) (I.hok.kept k)
theorem Inv.laid{a:Addr}{o:HO}{t':Nat}(I:Inv X pins σ H s)(k:∀ b u,s.heap.get? b=some u→h'.get? b=some u)(hp:s.heap.objs.size≤a)(new:B4 X.prog X.w (upd H a o) h' a o) :
  Inv X pins σ (upd H a o) { s with heap:=h',toks:=t' }:=I.un (Un.laid k hp (I.hok.fresh hp)) (I.hok.laid k hp new)
theorem Inv.write{x e:Addr}{o:HO}{t':Nat}(I:Inv X pins σ H s)(mu:Mut (H x))(he:e=x∨H e=some (.own x))(k:∀ b u,b≠e→s.heap.get? b=some u→h'.get? b=some u)(heo:∃ u,h'.get? e=some u)
  (new:B4 X.prog X.w (upd H x o) h' x o):Inv X pins σ (upd H x o) { s with heap:=h',toks:=t' }:=I.un (Un.write mu he k heo) (I.hok.write mu he k heo new)
theorem Inv.pins_of{pins':List (Addr × Obj)}(I:Inv X pins σ H s)(h:∀ p∈pins',s.heap.get? p.1=some p.2∧H p.1=none∧p.1≠X.env.locals∧p.1∉X.fs∧∀ v,p.2.data ≠ .cell v):Inv X pins' σ H s :=
 ⟨I.ok,I.os,I.bare,I.base,I.loc,I.cell,I.free,I.freeC,fun p hp=>(NL.mp hp).elim (fun z=>I.pin p (Oq _ z)) (h p),I.hok,I.len⟩
theorem nQ{N:List Str}(hN:N.Nodup){i j:Nat}{x:Str}(a:N[i]? = some x)(b:N[j]? = some x):i=j:=by
 obtain⟨h1,e1⟩:=Nw.mp a
 obtain⟨h2,e2⟩:=Nw.mp b
 exact(List.getElem_inj hN).mp (e1.trans e2.symm)
theorem hJ{M:Model}{A:Around}{E:Value→Shared→Prop}{i:Nat}{x:Str}{v:V}{u:Value}{Q:Unit→Shared→Prop}(I:Inv X pins σ H s)(hN:X.N.Nodup)(hi:X.N[i]? = some x)(hx:Loc X.env.scope x)(r:q9 v u)
  (h:∀ s',Inv X pins (σ.set i (some v)) H s'→(∃ a,Heap.SameBut a s.heap s'.heap∧(a=X.env.locals∨X.env.cells.lookup x=some a))→Q () s') (hf:X.fn x=true∨X.env.scope.names.lookup x=some .local:=by first|exact .inl rfl|exact .inr rfl|assumption):wpAny M A (storeName X.env x u) Q E s:=by
 obtain⟨m,hn,hl⟩:=id I.loc
 have hcls:(X.env.scope.kind == .class || (X.env.scope.kind == .module && X.env.locals != X.env.globals))=false:=by rw[I.ok.kind];rfl
 have hiσ:i<σ.length:=by rw[I.len];exact(Nw.mp hi).1
 have cne:=I.cne
 have tracked:∀{a:Addr} {h':Heap},(∃ o,s.heap.get? a=some o∧H a=none)→Heap.SameBut a s.heap h'→HOk X.prog X.w H h':=fun{a h'} ha hs b ob e=>by
  obtain⟨_,_,hfree⟩:=ha
  refine(I.hok b ob e).stay (fun c w' hc q=>(hs.2 c ?_).trans q) (fun _ q=>q) fun _ _ q=>q
  rintro rfl
  rcases hc with rfl|hc
  ·rw[hfree]at e;cases e
  ·rw[hfree]at hc;cases hc
 rcases hx with hk|hk
 ·refine wpAny_storeName_local hk hn (fun h' hn' hs=>?_) hcls
  obtain⟨oL,_,_,hoL,_⟩:=id hn
  refine h _ ⟨I.ok,I.os,I.bare,⟨fun b o e n hb hx=>?_,fun b o e n hb hx=>?_,I.base.free,fun b o e hx=>?_,I.base.tups,I.base.frzs,I.base.tbls⟩,⟨_,hn',fun j y v' e1 e2 e3=>?_⟩,fun y c e=>?_,I.free,I.freeC,fun p hp=>?_,tracked ⟨oL,hoL,I.free⟩ hs,by simpa using I.len⟩ ⟨_,hs,.inl rfl⟩
  ·exact(hs.2 b (NC (Nf (Nn e) I.ok.above))).trans (I.base.keep b o e n hb hx)
  ·obtain⟨sl,e1⟩:=I.base.slot b o e n hb hx
   exact⟨sl,(hs.2 b (NC (Nf (Nn e) I.ok.above))).trans e1⟩
  ·obtain⟨o',e1⟩:=I.base.there b o e hx
   exact⟨o',(hs.2 b (NC (Nf (Nn e) I.ok.above))).trans e1⟩
  ·by_cases hj:j=i
   ·subst hj
    rw[hi]at e1;cases e1
    rw[Qy hiσ]at e2
    cases e2
    exact⟨u,r,.inl ⟨hk,by simp⟩⟩
   ·rw[QM (Ne.symm hj)]at e2
    obtain⟨u',r',q⟩:=hl j y v' e1 e2 e3
    refine⟨u',r',?_⟩
    rcases q with⟨k,e⟩|⟨k,c,e,z⟩
    ·refine .inl ⟨k,?_⟩
     have:y≠x:=fun e=>hj (nQ hN e1 (e▸hi))
     simp[this,e]
    ·exact .inr ⟨k,c,e,z.sameBut hs (cne y c e)⟩
  ·obtain⟨w',z⟩:=I.cell y c e
   exact⟨w',z.sameBut hs (cne y c e)⟩
  ·obtain⟨e,n,ne,nf,d⟩:=I.pin p hp
   exact⟨(hs.2 p.1 ne).trans e,n,ne,nf,d⟩
 ·have hfn:X.fn x=true:=by
   rcases hf with z|z
   ·exact z
   ·rw[z]at hk;cases hk
  obtain⟨c,hc⟩:=I.ok.has x (.inl hk)
  obtain⟨w',z⟩:=I.cell x c hc
  refine wpAny_storeName_cell I.ok.kind hk hc z (fun h' hc' hs=>?_)
  obtain⟨oc,hoc,hocd⟩:=id z
  refine h { s with heap:=h' } ⟨I.ok,I.os,I.bare,⟨fun b o e n hb hx=>?_,fun b o e n hb hx=>?_,I.base.free,fun b o e hx=>?_,I.base.tups,I.base.frzs,I.base.tbls⟩,⟨m,hn.sameBut hs (Ne.symm (cne x c hc)),fun j y v' e1 e2 e3=>?_⟩,fun y c' e=>?_,I.free,I.freeC,fun p hp=>?_,tracked ⟨oc,hoc,I.freeC x c hc⟩ hs,by simpa using I.len⟩ ⟨c,hs,.inr hc⟩
  ·exact(hs.2 b (NC (Nf (Nn e) (I.ok.cab x c hfn hc)))).trans (I.base.keep b o e n hb hx)
  ·obtain⟨sl,e1⟩:=I.base.slot b o e n hb hx
   exact⟨sl,(hs.2 b (NC (Nf (Nn e) (I.ok.cab x c hfn hc)))).trans e1⟩
  ·obtain⟨o',e1⟩:=I.base.there b o e hx
   exact⟨o',(hs.2 b (NC (Nf (Nn e) (I.ok.cab x c hfn hc)))).trans e1⟩
  ·by_cases hj:j=i
   ·subst hj
    rw[hi]at e1;cases e1
    rw[Qy hiσ]at e2
    cases e2
    exact⟨u,r,.inr ⟨.inl hk,c,hc,hc'⟩⟩
   ·rw[QM (Ne.symm hj)]at e2
    obtain⟨u',r',q⟩:=hl j y v' e1 e2 e3
    refine⟨u',r',?_⟩
    rcases q with q|⟨k,c',e,z'⟩
    ·exact .inl q
    ·refine .inr ⟨k,c',e,z'.sameBut hs ?_⟩
     rintro rfl
     exact hj (nQ hN e1 (I.ok.inj _ _ _ e hc▸hi))
  ·by_cases hcc:c'=c
   ·subst hcc;exact⟨_,hc'⟩
   ·obtain⟨w2,z2⟩:=I.cell y c' e
    exact⟨w2,z2.sameBut hs hcc⟩
  ·obtain⟨e,n,ne,nf,d⟩:=I.pin p hp
   refine⟨(hs.2 p.1 ?_).trans e,n,ne,nf,d⟩
   intro q
   rw[q,hoc]at e
   have q':oc=p.2:=Option.some.inj e
   exact d w' (by rw[← q'];exact hocd)
theorem av{M:Model}{A:Around}{E:Value→Shared→Prop}{i:Nat}{x:Str}{v:V}{u:Value}{Q:Unit→Shared→Prop}(I:Inv X pins σ H s)(hN:X.N.Nodup)(hi:X.N[i]? = some x)(hx:Loc X.env.scope x)(r:q9 v u)
  (h:∀ s',Inv X pins (σ.set i (some v)) H s'→Q () s') (hf:X.fn x=true∨X.env.scope.names.lookup x=some .local:=by first|exact .inl rfl|exact .inr rfl|assumption):wpAny M A (storeName X.env x u) Q E s :=
 hJ I hN hi hx r (fun s' I' _=>h s' I') hf
theorem Inv.call'{s':Shared}{ch:List Addr}(I:Inv X pins σ H s)(ho:s'.os=s.os)(u:Un (frs X.stack) ch H H' s.heap s'.heap)(hok:HOk X.prog X.w H' s'.heap)(hg:AllBare s'.gens)
  (hch:∀ b∈ch,(b∈X.ex∨X.s₀.heap.objs.size≤b)∧b≠X.env.locals∧(∀ x c,X.env.cells.lookup x=some c→c≠b)∧∀ p∈X.pn++pins,p.1≠b):Inv X pins σ H' s':=by
 obtain⟨h',g',d',t',o'⟩:=s'
 have e:o'=s.os:=ho
 subst e
 exact I.call (g':=g') (t':=t') (d':=d') u hok hg hch
end
noncomputable abbrev XK:=Value→Option Addr→Hp→Prop
noncomputable abbrev St:=List (Option V)
noncomputable abbrev VK:=V→Hp→Prop
noncomputable abbrev TE:=St→Hp→VK→Prop
noncomputable abbrev TT:=St→Hp→(Bool→Hp→Prop)→Prop
noncomputable abbrev TA:=St→Hp→(List V→Hp→Prop)→Prop
structure oN where
 nx:St→Hp→Prop
 rt:VK
 bk:St→Hp→Prop:=fun _ _=>False
 ct:St→Hp→Prop:=fun _ _=>False
noncomputable abbrev TS:=oN→St→Hp→Prop
def EP(X:Cx)(pins:List (Addr × Obj))(σ:St)(Q:VK)(u:Value)(s':Shared):Prop:=∃ v H',Inv X pins σ H' s'∧q9 v u∧Q v H'
def TP(X:Cx)(pins:List (Addr × Obj))(σ:St)(Q:Bool→Hp→Prop)(b:Bool)(s':Shared):Prop:=∃ H',Inv X pins σ H' s'∧Q b H'
def AP(X:Cx)(pins:List (Addr × Obj))(σ:St)(Q:List V→Hp→Prop)(us:List Value)(s':Shared):Prop:=∃ vs H',Inv X pins σ H' s'∧j6 vs us∧Q vs H'
def SP(X:Cx)(pins:List (Addr × Obj))(D:oN)(f:Flow)(s':Shared):Prop :=
 match f with
 | .next=>∃ σ' H',Inv X pins σ' H' s'∧D.nx σ' H'
 | .brk=>∃ σ' H',Inv X pins σ' H' s'∧D.bk σ' H'
 | .cont=>∃ σ' H',Inv X pins σ' H' s'∧D.ct σ' H'
 | .ret u=>∃ v σ' H',Inv X pins σ' H' s'∧q9 v u∧D.rt v H'
def PE(X:Cx)(e:Expr)(t:TE):Prop :=
 ∀(pins:List (Addr × Obj)) (s:Shared) (σ:St) (H:Hp) (Q:VK),Inv X pins σ H s→t σ H Q→wpAny (model X.prog X.w) X.A (eval e X.env) (EP X pins σ Q) X.xe s
def PT(X:Cx)(e:Expr)(t:TT):Prop :=
 ∀(pins:List (Addr × Obj)) (s:Shared) (σ:St) (H:Hp) (Q:Bool→Hp→Prop),Inv X pins σ H s→t σ H Q→wpAny (model X.prog X.w) X.A (isTrue e X.env (eval e X.env)) (TP X pins σ Q) X.xe s
def PW(X:Cx)(e:Expr)(t:TT):Prop :=
 ∀(whole:Sem Value) (pins:List (Addr × Obj)) (s:Shared) (σ:St) (H:Hp) (Q:Bool→Hp→Prop),Inv X pins σ H s→t σ H Q→wpAny (model X.prog X.w) X.A (isTrue e X.env whole) (TP X pins σ Q) X.xe s
theorem PW.pt{X:Cx}{e:Expr}{t:TT}(h:PW X e t):PT X e t:=h _
def PA(X:Cx)(es:List Expr)(t:TA):Prop :=
 ∀(pos:Pos) (pins:List (Addr × Obj)) (s:Shared) (σ:St) (H:Hp) (Q:List V→Hp→Prop),Inv X pins σ H s→t σ H Q→wpAny (model X.prog X.w) X.A (spliced (backTo pos (starEach es X.env))) (AP X pins σ Q) X.xe s
def PS(X:Cx)(st:Stmt)(t:TS):Prop :=
 ∀(pins:List (Addr × Obj)) (s:Shared) (σ:St) (H:Hp) (D:oN),Inv X pins σ H s→t D σ H→wpAny (model X.prog X.w) X.A (exec st X.env) (SP X pins D) X.xe s
def PSs(X:Cx)(st:List Stmt)(t:TS):Prop :=
 ∀(pins:List (Addr × Obj)) (s:Shared) (σ:St) (H:Hp) (D:oN),Inv X pins σ H s→t D σ H→wpAny (model X.prog X.w) X.A (execs st X.env) (SP X pins D) X.xe s
theorem thn{α:Type}{t:Sem α}{Q Q':α→Shared→Prop}{M:Model}{A:Around}{E:Value→Shared→Prop}{s:Shared}(h:wpAny M A t Q E s)(hQ:∀ a s,Q a s→Q' a s):wpAny M A t Q' E s:=wpAny_mono h hQ fun _ _ x=>x
section
variable {X:Cx}
def Hu(i:Nat):TE:=fun σ H Q=>∃ v,σ[i]? = some (some v)∧Q v H
def tC(v:V):TE:=fun _ H Q=>Q v H
theorem wU{i:Nat}{x:Str}{pos:Pos}(hN:X.N[i]? = some x)(hv:Vis X.env.scope x)(hd:(x == ("__debug__" : Str))=false:=by decide)(hcd:(x == ("__classdict__" : Str))=false:=by decide):PE X (.Name x pos) (Hu i):=by
 intro pins s σ H Q I h
 obtain⟨v,e,h⟩:=h
 obtain⟨m,hn,hl⟩:=I.loc
 obtain⟨u,r,l⟩:=hl i x v hN e hv
 have fin:EP X pins σ Q u s:=⟨v,H,I,r,h⟩
 rcases l with⟨hk,hm⟩|⟨hk,c,hc,hcell⟩
 ·exact wpAny_Name (wpAny_loadName_local I.ok.kind hk hn hm fin) hd
 ·rcases hk with hk|hk
  ·exact wpAny_Name (wpAny_loadName_cell I.ok.kind hk hc hcell fin) hd
  ·exact wpAny_Name (wpAny_loadName_free I.ok.kind hk hc hcell fin hcd) hd
theorem FA{i j pos}:PE X (.Constant (.int i) j pos) (tC (.int i)):=fun _ _ _ H _ I h=>wpAny_Constant_int ⟨.int i,H,I.tok _,⟨_,rfl⟩,h⟩
theorem HS{b j pos}:PE X (.Constant (.bool b) j pos) (tC (.bl b)):=fun _ _ _ H _ I h=>Constant_bool ⟨.bl b,H,I,rfl,h⟩
theorem Fz{j pos}:PE X (.Constant .none j pos) (tC .non):=fun _ _ _ H _ I h=>Constant_none ⟨.non,H,I,rfl,h⟩
theorem Fv{x j pos}:PE X (.Constant (.str x) j pos) (tC (.str x)):=fun _ _ _ H _ I h=>Calls.Constant_str ⟨.str x,H,I.tok _,⟨_,rfl⟩,h⟩
def Gl(X:Cx)(x:Str):Prop:=X.env.kindOf x=some .globalImplicit
theorem so{E:Value→Shared→Prop}{pins:List (Addr × Obj)}{s:Shared}{σ:St}{H:Hp}{x:Str}{u:Value}{pos:Pos}{Q:Value→Shared→Prop}(I:Inv X pins σ H s)(hg:Gl X x)(hm:X.mg x=some u)(h:Q u s)
  (hd:(x == ("__debug__" : Str))=false:=by decide):wpAny (model X.prog X.w) X.A (eval (.Name x pos) X.env) Q E s :=
 Calls.Name_function_global I.ok.kind hg (Calls.loadGlobal_global (by rw[I.ok.glob];exact I.mod.glob.keeps I.bk) hm h) hd
theorem O3{E:Value→Shared→Prop}{pins:List (Addr × Obj)}{s:Shared}{σ:St}{H:Hp}{x:Str}{u:Value}{pos:Pos}{Q:Value→Shared→Prop}(I:Inv X pins σ H s)(hg:Gl X x)(hm:X.mg x=none)(hv:bootBuiltins x=some u)(h:Q u s)
  (hn:x ≠ "__name__" := by decide) (hd:(x == ("__debug__" : Str))=false:=by decide):wpAny (model X.prog X.w) X.A (eval (.Name x pos) X.env) Q E s:=by
 obtain⟨mb,h1,h2⟩:=I.mod.blt
 exact Calls.Name_function_global I.ok.kind hg (Calls.loadGlobal_builtin (by rw[I.ok.glob];exact I.mod.glob.keeps I.bk) hm (by rw[I.ok.blt];exact h1.keeps I.bk) ((h2 x hn).trans hv) h) hd
theorem Bi{x:Str}{v:V}{u:Value}{pos:Pos}(hg:Gl X x)(hm:X.mg x=some u)(r:q9 v u)(hd:(x == ("__debug__" : Str))=false:=by decide):PE X (.Name x pos) (tC v) :=
 fun _ _ _ H _ I h=>so I hg hm ⟨v,H,I,r,h⟩ hd
theorem Bm{x:Str}{v:V}{u:Value}{pos:Pos}(hg:Gl X x)(hm:X.mg x=none)(hv:bootBuiltins x=some u)(r:q9 v u)(hn:x ≠ "__name__" := by decide)(hd:(x == ("__debug__" : Str))=false:=by decide):PE X (.Name x pos) (tC v) :=
 fun _ _ _ H _ I h=>O3 I hg hm hv ⟨v,H,I,r,h⟩ hn hd
variable {a b:Expr} {ta tb:TE} {pos:Pos}
theorem q9.none_iff{x:V}{v:Value}(r:q9 x v):(v == Value.none)=decide (x = .non):=by
 cases x with
 | non=>cases r;rfl
 | bl _=>cases r;rfl
 | int _=>obtain⟨t,rfl⟩:=r;rfl
 | str _=>obtain⟨t,rfl⟩:=r;rfl
 | byt _=>obtain⟨t,rfl⟩:=r;rfl
 | flt _=>obtain⟨t,rfl⟩:=r;rfl
 | ref _=>cases r;rfl
 | ty _=>cases r;rfl
def tB(t:TE):TT:=fun σ H Q=>t σ H fun x H1=>∃ c,x = .bl c∧Q c H1
theorem Fg{e:Expr}{t:TE}(h:PE X e t)(he:∀ whole,isTrue e X.env whole=(do let v ← whole;standAt e.pos;holding [v] (truthy v)):=by intro _;rfl):PT X e (tB t):=by
 intro pins s σ H Q I hw
 refine isTrue_plain (thn (h pins s σ H _ I hw) fun v s1 ⟨x,H1,I1,r1,q1⟩=>?_) (he _)
 obtain⟨d,rfl,q⟩:=q1
 cases r1
 exact wpAny_truthy_bool ⟨H1,I1,q⟩
variable {tA tB':TT} {D9:List Expr}
def JC(t u:TT):TT:=fun σ H Q=>t σ H fun c H1=>if c=true then u σ H1 Q else Q false H1
def tOr(t u:TT):TT:=fun σ H Q=>t σ H fun c H1=>if c=true then Q true H1 else u σ H1 Q
def Jv(t:TT):TT:=fun σ H Q=>t σ H fun c H1=>Q (!c) H1
theorem AU(ha:PT X a tA):PW X (.BoolOp .And [a] pos) tA:=by
 intro wh pins s σ H Q I h
 refine isTrue_and (thn (ha pins s σ H Q I h) fun c s1 e=>?_)
 cases c with
 | true=>exact isTrue_and_nil e
 | false=>exact e
theorem Fd(ha:PT X a tA):PW X (.BoolOp .Or [a] pos) tA:=by
 intro wh pins s σ H Q I h
 refine isTrue_or (thn (ha pins s σ H Q I h) fun c s1 e=>?_)
 cases c with
 | false=>exact isTrue_or_nil e
 | true=>exact e
theorem Fe(ha:PT X a tA)(hb:PW X (.BoolOp .And (b :: D9) pos) tB'):PW X (.BoolOp .And (a :: b :: D9) pos) (JC tA tB'):=by
 intro wh pins s σ H Q I h
 refine isTrue_and (thn (ha pins s σ H _ I h) fun c s1 zz=>?_)
 obtain⟨H1,I1,q1⟩:=zz
 cases c with
 | true=>exact hb wh pins s1 σ H1 Q I1 q1
 | false=>exact⟨H1,I1,q1⟩
theorem HM(ha:PT X a tA)(hb:PW X (.BoolOp .Or (b :: D9) pos) tB'):PW X (.BoolOp .Or (a :: b :: D9) pos) (tOr tA tB'):=by
 intro wh pins s σ H Q I h
 refine isTrue_or (thn (ha pins s σ H _ I h) fun c s1 zz=>?_)
 obtain⟨H1,I1,q1⟩:=zz
 cases c with
 | true=>exact⟨H1,I1,q1⟩
 | false=>exact hb wh pins s1 σ H1 Q I1 q1
theorem Fh(ha:PT X a tA):PT X (.UnaryOp .Not a pos) (Jv tA):=by
 intro pins s σ H Q I h
 exact isTrue_not (ha pins s σ H (fun c H1=>Q (!c) H1) I h)
def HE(ta tb:TE):TE:=fun σ H Q=>ta σ H fun x H1=>∃ c,x = .bl c∧if c=true then tb σ H1 Q else Q (.bl false) H1
def Hx(ta:TE):TE:=fun σ H Q=>ta σ H fun x H1=>∃ c,x = .bl c∧Q (.bl (!c)) H1
theorem Fx{op}{t:TE}(h:PE X a t):PE X (.BoolOp op [a] pos) t:=fun pins s σ H Q I hw=>BoolOp_one (h pins s σ H Q I hw)
theorem FD(ha:PE X a ta)(hb:PE X (.BoolOp .And (b :: D9) pos) tb):PE X (.BoolOp .And (a :: b :: D9) pos) (HE ta tb):=by
 intro pins s σ H Q I h
 refine BoolOp_and (thn (ha pins s σ H _ I h) fun v s1 zz=>?_)
 obtain⟨x,H1,I1,r1,q1⟩:=zz
 obtain⟨c,rfl,q1⟩:=q1
 cases r1
 refine wpAny_truthy_bool ?_
 cases c with
 | true=>exact hb pins s1 σ H1 Q I1 q1
 | false=>exact⟨.bl false,H1,I1,rfl,q1⟩
theorem Fy(ha:PE X a ta):PE X (.UnaryOp .Not a pos) (Hx ta):=by
 intro pins s σ H Q I h
 refine UnaryOp_ (thn (ha pins s σ H _ I h) fun v s1 zz=>?_)
 obtain⟨x,H1,I1,r1,q1⟩:=zz
 obtain⟨c,rfl,q1⟩:=q1
 cases r1
 exact not_of (wpAny_truthy_bool ⟨.bl (!c),H1,I1,rfl,q1⟩)
def tIf(t:TT)(ta tb:TE):TE:=fun σ H Q=>t σ H fun c H1=>if c=true then ta σ H1 Q else tb σ H1 Q
theorem wW{c:Expr}(hc:PT X c tA)(ha:PE X a ta)(hb:PE X b tb):PE X (.IfExp c a b pos) (tIf tA ta tb):=by
 intro pins s σ H Q I h
 refine wpAny_IfExp (thn (hc pins s σ H _ I h) fun d s1 zz=>?_)
 obtain⟨H1,I1,q1⟩:=zz
 cases d with
 | true=>exact ha pins s1 σ H1 Q I1 q1
 | false=>exact hb pins s1 σ H1 Q I1 q1
end
def SqL(K:Nd)(H:Hp)(a:Addr)(xs:List V):Prop :=
 Rd H a (.lst xs) ∨
  ∃(o:Obj) (its:Array Value) (n:Nat),K.lookup a=some o∧o.cls = .type "list" ∧ o.dict=none∧o.data = .seq its n∧its.size≤sizeLine∧j6 xs its.toList
def SqT(K:Nd)(H:Hp)(a:Addr)(xs:List V):Prop :=
 Rd H a (.tup xs) ∨
  ∃(o:Obj) (its:Array Value) (n:Nat),K.lookup a=some o∧o.cls = .type "tuple" ∧ o.data = .seq its n∧its.size≤sizeLine∧j6 xs its.toList
noncomputable def Kj:Value→Option V
 | .none=>some .non
 | .bool b=>some (.bl b)
 | .int i _=>some (.int i)
 | .str x _=>some (.str x)
 | .bytes b _=>some (.byt b)
 | .float b _=>some (.flt b)
 | .ref a=>some (.ref a)
 | .type n=>some (.ty n)
 | _=>none
theorem q9.abs{x:V}{u:Value}(r:q9 x u):Kj u=some x:=by
 cases x with
 | non=>cases r;rfl
 | bl _=>cases r;rfl
 | int _=>obtain⟨t,rfl⟩:=r;rfl
 | str _=>obtain⟨t,rfl⟩:=r;rfl
 | byt _=>obtain⟨t,rfl⟩:=r;rfl
 | flt _=>obtain⟨t,rfl⟩:=r;rfl
 | ref _=>cases r;rfl
 | ty _=>cases r;rfl
theorem q9.inj{x y:V}{u:Value}(r:q9 x u)(q:q9 y u):x=y:=Option.some.inj (r.abs.symm.trans q.abs)
theorem j6.inj:∀{xs ys:List V} {us:List Value},j6 xs us→j6 ys us→xs=ys
 | _,_,_,.nil,.nil=>rfl
 | _,_,_,.cons r t,.cons r' t'=>by rw[r.inj r',j6.inj t t']
section
variable {X:Cx} {pins:List (Addr × Obj)} {σ:St} {H:Hp} {s:Shared} {a:Addr} {xs ys:List V}
theorem SqL.of{K:Nd}(h:H a=some (.lst xs)):SqL K H a xs:=.inl (.inl h)
theorem SqT.of{K:Nd}(h:H a=some (.tup xs)):SqT K H a xs:=.inl (.inl h)
theorem Inv.list(I:Inv X pins σ H s)(h:SqL X.K H a xs):∃ its:List Value,j6 xs its∧PlainL s.heap a its.toArray∧xs.length≤sizeLine:=by
 rcases h with h|⟨o,its,n,hk,hc,hd,hs,hz,r⟩
 ·obtain⟨z,its,n,r,e⟩:=h.ok I.hok
  exact⟨its,r,⟨_,n,e,rfl,rfl,rfl⟩,z⟩
 ·refine⟨its.toList,r,⟨o,n,I.kIn a o hk,hc,hd,by simpa using hs⟩,?_⟩
  have e:=r.length
  simp only[Array.length_toList]at e
  omega
theorem Inv.tuple(I:Inv X pins σ H s)(h:SqT X.K H a xs):∃ its:List Value,j6 xs its∧IsTup s.heap a its.toArray∧xs.length≤sizeLine:=by
 rcases h with h|⟨o,its,n,hk,hc,hs,hz,r⟩
 ·obtain⟨z,its,r,p⟩:=h.ok I.hok
  exact⟨its,r,p,z⟩
 ·refine⟨its.toList,r,⟨o,I.kIn a o hk,hc,n,by simpa using hs⟩,?_⟩
  have e:=r.length
  simp only[Array.length_toList]at e
  omega
theorem Inv.list_inj(I:Inv X pins σ H s)(h:SqL X.K H a xs)(h':SqL X.K H a ys):xs=ys:=by
 obtain⟨its,r,⟨o,n,e,_,_,d⟩,_⟩:=I.list h
 obtain⟨its',r',⟨o',n',e',_,_,d'⟩,_⟩:=I.list h'
 rw[e]at e';cases e'
 rw[d]at d'
 injection d' with d1 _
 have:its=its':=by simpa using congrArg Array.toList d1
 subst this
 exact r.inj r'
theorem Inv.tuple_inj(I:Inv X pins σ H s)(h:SqT X.K H a xs)(h':SqT X.K H a ys):xs=ys:=by
 obtain⟨its,r,⟨o,e,_,n,d⟩,_⟩:=I.tuple h
 obtain⟨its',r',⟨o',e',_,n',d'⟩,_⟩:=I.tuple h'
 rw[e]at e';cases e'
 rw[d]at d'
 injection d' with d1 _
 have:its=its':=by simpa using congrArg Array.toList d1
 subst this
 exact r.inj r'
end
noncomputable abbrev Cx.wish(X:Cx)(E:Value→Shared→Prop):Cx:={ X with xe:=E }
noncomputable abbrev Cx.nox(X:Cx):Cx:=X.wish fun _ _=>False
theorem Cx.Ok.wish{X:Cx}(ok:X.Ok)(E:Value→Shared→Prop):(X.wish E).Ok :=
 ⟨ok.mod,ok.kind,ok.glob,ok.blt,ok.above,ok.inj,ok.has,ok.cab,ok.hd,ok.frames,ok.stk,ok.exf,ok.bs,ok.bsz,ok.noex,ok.exfs,ok.funs,ok.frf⟩
theorem Cx.Ok.unwish{X:Cx}{E:Value→Shared→Prop}(ok:(X.wish E).Ok):X.Ok :=
 ⟨ok.mod,ok.kind,ok.glob,ok.blt,ok.above,ok.inj,ok.has,ok.cab,ok.hd,ok.frames,ok.stk,ok.exf,ok.bs,ok.bsz,ok.noex,ok.exfs,ok.funs,ok.frf⟩
section
variable {X:Cx} {pins:List (Addr × Obj)} {σ:St} {H:Hp} {s:Shared} {E:Value→Shared→Prop}
theorem Inv.wish(I:Inv X pins σ H s)(E:Value→Shared→Prop):Inv (X.wish E) pins σ H s:=⟨I.ok.wish E,I.os,I.bare,I.base,I.loc,I.cell,I.free,I.freeC,I.pin,I.hok,I.len⟩
theorem Inv.unwish(I:Inv (X.wish E) pins σ H s):Inv X pins σ H s:=⟨I.ok.unwish,I.os,I.bare,I.base,I.loc,I.cell,I.free,I.freeC,I.pin,I.hok,I.len⟩
theorem SP.unwish{D:oN}{f:Flow}{s':Shared}(h:SP (X.wish E) pins D f s'):SP X pins D f s':=by
 cases f with
 | next=>obtain⟨σ',H',I,q⟩:=h;exact⟨σ',H',I.unwish,q⟩
 | brk=>obtain⟨σ',H',I,q⟩:=h;exact⟨σ',H',I.unwish,q⟩
 | cont=>obtain⟨σ',H',I,q⟩:=h;exact⟨σ',H',I.unwish,q⟩
 | ret u=>obtain⟨v,σ',H',I,r,q⟩:=h;exact⟨v,σ',H',I.unwish,r,q⟩
theorem PE.nox{e:Expr}{t:TE}(h:PE X.nox e t):PE X e t:=fun pins s σ H Q I hw =>
 wpAny_mono (h pins s σ H Q (I.wish _) hw) (fun _ _ ⟨v,H',I',r,q⟩=>⟨v,H',I'.unwish,r,q⟩) fun _ _ z=>False.elim z
theorem PT.nox{e:Expr}{t:TT}(h:PT X.nox e t):PT X e t:=fun pins s σ H Q I hw =>
 wpAny_mono (h pins s σ H Q (I.wish _) hw) (fun _ _ ⟨H',I',q⟩=>⟨H',I'.unwish,q⟩) fun _ _ z=>False.elim z
theorem PSs.nox{st:List Stmt}{t:TS}(h:PSs X.nox st t):PSs X st t:=fun pins s σ H D I hw =>
 wpAny_mono (h pins s σ H D (I.wish _) hw) (fun _ _ q=>q.unwish) fun _ _ z=>False.elim z
end
section
variable {X:Cx} {st:Stmt} {D9:List Stmt} {t u:TS} {e:Expr} {te:TE} {pos:Pos}
def Hy:TS:=fun D σ H=>D.nx σ H
def Jr(t u:TS):TS:=fun D σ H=>t { D with nx:=u D } σ H
theorem AX:PSs X [] Hy:=fun _ _ σ H _ I h=>wpAny_execs_nil ⟨σ,H,I,h⟩
theorem ny(h1:PS X st t)(h2:PSs X D9 u):PSs X (st :: D9) (Jr t u):=by
 intro pins s σ H D I h
 refine wpAny_execs_cons (thn (h1 pins s σ H { D with nx:=u D } I h) fun f s1 q=>?_)
 cases f with
 | next =>
  obtain⟨σ',H',I',q⟩:=q
  exact h2 pins s1 σ' H' D I' q
 | ret v=>exact q
 | brk=>exact q
 | cont=>exact q
theorem AW(h1:PS X st t):PSs X [st] t:=by
 intro pins s σ H D I h
 refine wpAny_execs_cons (thn (h1 pins s σ H D I h) fun f s1 q=>?_)
 cases f with
 | next=>exact wpAny_execs_nil q
 | ret v=>exact q
 | brk=>exact q
 | cont=>exact q
theorem Inv.quiet{pins:List (Addr × Obj)}{σ:St}{H:Hp}{s:Shared}(I:Inv X pins σ H s):interactive X.env=false:=by simp[interactive,I.ok.kind]
def HB(te:TE):TS:=fun D σ H=>te σ H fun _ H1=>D.nx σ H1
theorem AZ(he:PE X e te)(hs:swapsWith e none pos.line X.env=pure false:=by rfl):PS X (.Expr e pos) (HB te):=by
 intro pins s σ H D I h
 exact wpAny_Expr_any (thn (he pins s σ H _ I h) fun v s1 ⟨x,H1,I1,r1,q1⟩=>⟨σ,H1,I1,q1⟩) I.quiet hs
def Js(te:TE):TS:=fun D σ H=>te σ H D.rt
theorem Fj(he:PE X e te):PS X (.Return (some e) pos) (Js te):=by
 intro pins s σ H D I h
 exact wpAny_Return_some (thn (he pins s σ H _ I h) fun v s1 ⟨x,H1,I1,r1,q1⟩=>⟨x,σ,H1,I1,r1,q1⟩)
def Jy(c:TT)(t u:TS):TS:=fun D σ H=>c σ H fun b H1=>if b=true then t D σ H1 else u D σ H1
theorem HN{c:Expr}{a b:List Stmt}{tc:TT}(hc:PT X c tc)(ha:PSs X a t)(hb:PSs X b u):PS X (.If c a b pos) (Jy tc t u):=by
 intro pins s σ H D I h
 refine wpAny_If (thn (hc pins s σ H _ I h) fun d s1 zz=>?_)
 obtain⟨H1,I1,q1⟩:=zz
 cases d with
 | true=>exact ha pins s1 σ H1 D I1 q1
 | false=>exact hb pins s1 σ H1 D I1 q1
def EE:TS:=fun _ _ _=>False
theorem wJ:PS X st EE:=fun _ _ _ _ _ _ h=>h.elim
end
noncomputable abbrev TG:=V→St→Hp→(St→Hp→Prop)→Prop
noncomputable abbrev TGs:=List V→St→Hp→(St→Hp→Prop)→Prop
def PG(X:Cx)(target:Expr)(t:TG):Prop :=
 ∀(pins:List (Addr × Obj)) (s:Shared) (σ:St) (H:Hp) (v:V) (u:Value) (Q:St→Hp→Prop),Inv X pins σ H s→q9 v u→t v σ H Q →
  wpAny (model X.prog X.w) X.A (assign target X.env u) (fun _ s'=>∃ σ' H',Inv X pins σ' H' s'∧Q σ' H') X.xe s
def PGs(X:Cx)(ts:List Expr)(t:TGs):Prop :=
 ∀(pins:List (Addr × Obj)) (s:Shared) (σ:St) (H:Hp) (vs:List V) (us:List Value) (Q:St→Hp→Prop),Inv X pins σ H s→j6 vs us→t vs σ H Q →
  wpAny (model X.prog X.w) X.A (assignInOrder ((assignEach ts X.env).map (·.2)) us) (fun _ s'=>∃ σ' H',Inv X pins σ' H' s'∧Q σ' H') X.xe s
noncomputable abbrev GD:=V→V→V→Hp→(Hp→Prop)→Prop
def Jj(X:Cx)(t:GD):Prop :=
 ∀(pins:List (Addr × Obj)) (s:Shared) (σ:St) (H:Hp) (o i v:V) (ov iv u:Value) (Q:Hp→Prop),Inv X pins σ H s→q9 o ov→q9 i iv→q9 v u→t o i v H Q →
  wpAny (model X.prog X.w) X.A (setItem ov iv u) (fun _ s'=>∃ H',Inv X pins σ H' s'∧Q H') X.xe s
section
variable {X:Cx} {pos:Pos}
def xP(i:Nat):TG:=fun v σ H Q=>Q (σ.set i (some v)) H
theorem Bh{i:Nat}{x:Str}(hN:X.N.Nodup)(hi:X.N[i]? = some x)(hx:Loc X.env.scope x)(hf:X.fn x=true∨X.env.scope.names.lookup x=some .local:=by first|exact .inl rfl|exact .inr rfl|assumption):PG X (.Name x pos) (xP i):=by
 intro pins s σ H v u Q I r h
 exact wpAny_assign_Name (av I hN hi hx r (fun s' I'=>⟨_,H,I',h⟩) hf)
def Kd:TGs:=fun vs σ H Q=>vs=[]∧Q σ H
def Iz(t:TG)(u:TGs):TGs:=fun vs σ H Q=>∃ v r,vs=v :: r∧t v σ H fun σ' H'=>u r σ' H' Q
theorem Bf:PGs X [] Kd:=by
 intro pins s σ H vs us Q I r h
 obtain⟨e,h⟩:=h
 subst e
 cases r
 exact assignInOrder_nil ⟨σ,H,I,h⟩
theorem wR{e:Expr}{es:List Expr}{t:TG}{u:TGs}(h1:PG X e t)(h2:PGs X es u)
  (hs:(assignEach (e :: es) X.env).map (·.2)=assign e X.env :: (assignEach es X.env).map (·.2):=by rfl):PGs X (e :: es) (Iz t u):=by
 intro pins s σ H vs us Q I r h
 obtain⟨v,vr,e1,h⟩:=h
 subst e1
 cases r with
 | cons r rr =>
  rw[hs]
  refine assignInOrder_cons (thn (h1 pins s σ H _ _ _ I r h) fun _ s1 zz=>?_)
  obtain⟨σ1,H1,I1,q1⟩:=zz
  exact h2 pins s1 σ1 H1 _ _ Q I1 rr q1
def Ka(K:Nd)(n:Nat)(t:TGs):TG:=fun v σ H Q=>∃ a xs,v = .ref a∧SqT K H a xs∧xs.length=n∧t xs σ H Q
theorem Fs{es:List Expr}{k:Nat}{t:TGs}{n:Nat}(hc:X.calm=true)(h:PGs X es t)
  (hn:(assignEach es X.env).length=n:=by rfl) (hst:(assignEach es X.env).findIdx? (·.1)=none:=by rfl):PG X (.Tuple es k pos) (Ka X.K n t):=by
 intro pins s σ H v u Q I r hw
 obtain⟨a,xs,e1,hq,hl,hw⟩:=hw
 subst e1
 cases r
 obtain⟨its,rv,ht,hz⟩:=I.tuple hq
 refine assign_Tuple_tuple (I.ok.hd hc) ht (by simp[hn,← hl,rv.length]) hst fun h' hx=>?_
 have I1:Inv X pins σ H { s with heap:=h' }:=I.kept (t':=s.toks) fun b o e=>hx b o (NC (Nn e)) e
 exact h pins _ σ H xs _ Q I1 (by simpa using rv) hw
def Kb(to ti:TE)(t:GD):TG:=fun v σ H Q=>to σ H fun o H1=>ti σ H1 fun i H2=>t o i v H2 fun H3=>Q σ H3
theorem Ft{o i:Expr}{to ti:TE}{t:GD}(ho:PE X o to)(hi:PE X i ti)(hs:Jj X t)
  (ha:∀ v,assign (.Subscript o i pos) X.env v=(do
   let ov ← holding [v] (eval o X.env)
   let iv ← holding [v,ov] (eval i X.env)
   standAt pos
   holding [v,ov,iv] (setItem ov iv v)
   release [v,ov,iv] []):=by intro _;rfl):PG X (.Subscript o i pos) (Kb to ti t):=by
 intro pins s σ H v u Q I r h
 rw[ha]
 refine Nb (wpAny_holding (thn (ho pins s σ H _ I h) fun ov s1 zz=>?_))
 obtain⟨x,H1,I1,r1,q1⟩:=zz
 refine Nb (wpAny_holding (thn (hi pins s1 σ H1 _ I1 q1) fun iv s2 zz=>?_))
 obtain⟨y,H2,I2,r2,q2⟩:=zz
 refine Nb (wpAny_standAt (Nb (wpAny_holding (thn (hs pins s2 σ H2 x y v ov iv u _ I2 r1 r2 r q2) fun _ s3 zz=>?_))))
 obtain⟨H3,I3,q3⟩:=zz
 exact wpAny_release ⟨σ,H3,I3,q3⟩
def EF(te:TE)(g:TG):TS:=fun D σ H=>te σ H fun x H1=>g x σ H1 D.nx
theorem Fo{tg e:Expr}{te:TE}{g:TG}(he:PE X e te)(hg:PG X tg g)(hs:swapsWithSole [tg] e pos.line X.env=pure false:=by rfl)(hw:swappedStores [tg] e X.env=pure none:=by rfl)
  (h1:(assignEach [tg] X.env).map (·.2)=[assign tg X.env]:=by rfl):PS X (.Assign [tg] e pos) (EF te g):=by
 intro pins s σ H D I h
 refine wpAny_Assign_stores (thn (he pins s σ H _ I h) fun v s1 ⟨x,H1,I1,r1,q1⟩=>?_) hs hw
 rw[h1]
 exact thn (hg pins s1 σ H1 x v _ I1 r1 q1) fun _ s2 q=>q
theorem Fi{i:Nat}{x:Str}{e:Expr}{te:TE}{pos':Pos}(hN:X.N.Nodup)(hi:X.N[i]? = some x)(hx:Loc X.env.scope x)(he:PE X e te)(hs:swapsWith e (some (.Name x pos')) pos.line X.env=pure false:=by rfl)(hf:X.fn x=true∨X.env.scope.names.lookup x=some .local:=by first|exact .inl rfl|exact .inr rfl|assumption) :
  PS X (.Assign [.Name x pos'] e pos) (EF te (xP i)):=by
 intro pins s σ H D I h
 refine wpAny_Assign_Name (thn (he pins s σ H _ I h) fun v s1 ⟨y,H1,I1,r1,q1⟩=>?_) hs
 exact av I1 hN hi hx r1 (fun s2 I2=>⟨_,H1,I2,q1⟩) hf
def Jt(i j:Nat)(ta:TA):TS:=fun D σ H=>ta σ H fun vs H1=>∃ v w,vs=[v,w]∧D.nx ((σ.set i (some v)).set j (some w)) H1
theorem Fl{i j:Nat}{x y:Str}{a b:Expr}{ta:TA}{px py pt:Pos}{kt k2 pt2}(hc:X.calm=true)(hN:X.N.Nodup)(hi:X.N[i]? = some x)(hj:X.N[j]? = some y)(hij:i≠j)
  (hx:X.env.scope.names.lookup x=some .local) (hy:X.env.scope.names.lookup y=some .local) (ha:PA X [a,b] ta)
  (hw:swappedStores [.Tuple [.Name x px,.Name y py] kt pt] (.Tuple [a,b] k2 pt2) X.env=pure (some [x,y]))
  (hs:swapsWithSole [.Tuple [.Name x px,.Name y py] kt pt] (.Tuple [a,b] k2 pt2) pos.line X.env=pure false:=by rfl) :
  PS X (.Assign [.Tuple [.Name x px,.Name y py] kt pt] (.Tuple [a,b] k2 pt2) pos) (Jt i j ta):=by
 intro pins s σ H D I h
 rw[exec_Assign_arm]
 refine Nb (wpAny_standAt ?_)
 rw[hs]
 refine Nb (Ng ?_)
 rw[if_neg (by decide)]
 refine Nb (Tuple_ (thn (ha _ pins s σ H _ I h) fun us s1 zz=>?_))
 obtain⟨vs,H1,I1,r1,q1⟩:=zz
 obtain⟨v,w,e1,q1⟩:=q1
 subst e1
 obtain⟨u1,u2,rfl,rv,rw'⟩:∃ u1 u2,us=[u1,u2]∧q9 v u1∧q9 w u2:=by
  cases r1 with
  | cons p q =>
   cases q with
   | cons p' q' =>
    cases q'
    exact⟨_,_,rfl,p,p'⟩
 refine wpAny_newObj_type ?_ (by show 2≤sizeLine;decide)
 have I2:Inv X pins σ H1 { s1 with heap:=s1.heap.push { cls:=.type "tuple",data:=.seq [u1,u2].toArray } }:=I1.kept (t':=s1.toks) fun b o e=>Nc _ e
 rw[hw]
 refine Nb (Ng ?_)
 show wpAny (model X.prog X.w) X.A (do rule "assign.swapped-stores";let items ← unpackItems (.ref s1.heap.objs.size) 2 none;assignInOrder [fun v=>bindName X.env y v,fun v=>bindName X.env x v] items.reverse;pure Flow.next) _ _ _
 refine Nb (wpAny_rule (Nb (unpackItems_tuple (items:=#[u1,u2]) (I.ok.hd hc) (IsTup.new s1.heap _) fun h' hx'=>?_)))
 have I3:=I2.kept (h':=h') (t':=s1.toks) fun b o e=>hx' b o (NC (Nn e)) e
 show wpAny _ _ (assignInOrder [fun v=>bindName X.env y v,fun v=>bindName X.env x v] [u2,u1] >>= fun _=>pure Flow.next) _ _ _
 refine Nb (assignInOrder_cons (wpAny_bindName (av I3 hN hj (.inl hy) rw' (fun s2 I4=>?_) (.inr hy))))
 refine assignInOrder_cons (wpAny_bindName (av I4 hN hi (.inl hx) rv (fun s3 I5=>assignInOrder_nil (Ng ?_)) (.inr hx)))
 rw[List.set_comm _ _ (Ne.symm hij)]at I5
 exact⟨_,H1,I5,q1⟩
end
section
variable {X:Cx} {pos:Pos}
def ED(c:TT)(tb:TS):TS:=fun D σ H=>∃ W:Nat→St→Hp→Prop,(∃ m,W m σ H)∧∀ m σ H,W m σ H →
 c σ H fun b H1=>if b=true then ∃ N:St→Hp→Prop,(∀ σ' H',N σ' H'→∃ m',m'<m∧W m' σ' H')∧tb { D with nx:=N,ct:=N,bk:=D.nx } σ H1 else D.nx σ H1
theorem wI{c:Expr}{body:List Stmt}{tc:TT}{tb:TS}(hp:PassesOwn (model X.prog X.w) X.A X.env X.xe)(hc:PT X c tc)(hb:PSs X body tb):PS X (.While c body [] pos) (ED tc tb):=by
 intro pins s σ H D I h
 obtain⟨W,⟨m0,w0⟩,turn⟩:=h
 refine wpAny_While (codeAny_whileLoop (fun n s'=>∃ σ' H',Inv X pins σ' H' s'∧W n σ' H') ?_ m0 ⟨σ,H,I,w0⟩)
 rintro n s1 ⟨σ1,H1,I1,w1⟩
 refine wpAny_passesOwn hp (thn (hc pins s1 σ1 H1 _ I1 (turn n σ1 H1 w1)) fun b s2 zz=>?_)
 obtain⟨H2,I2,q2⟩:=zz
 cases b with
 | true =>
  obtain⟨N,hN,q2⟩:=q2
  rw[if_pos rfl]
  refine wpAny_passesOwn hp (thn (hb pins s2 σ1 H2 _ I2 q2) fun f s3 q3=>?_)
  cases f with
  | next =>
   obtain⟨σ3,H3,I3,n3⟩:=q3
   obtain⟨m',hm,w3⟩:=hN σ3 H3 n3
   exact⟨m',hm,σ3,H3,I3,w3⟩
  | cont =>
   obtain⟨σ3,H3,I3,n3⟩:=q3
   obtain⟨m',hm,w3⟩:=hN σ3 H3 n3
   exact⟨m',hm,σ3,H3,I3,w3⟩
  | brk=>exact q3
  | ret v=>exact q3
 | false =>
  rw[if_neg Nt]
  exact wpAny_execs_nil ⟨σ1,H2,I2,q2⟩
end
structure It where
 go:Nat→Hp→Prop
 yld:Nat→Hp→V→Hp→Prop
 stop:Nat→Hp→Prop
def Y3(X:Cx)(pins:List (Addr × Obj))(H:Hp)(b:Addr):Prop :=
 H b=none∧b≠X.env.locals∧b∉X.fs∧(b∈X.ex∨X.s₀.heap.objs.size≤b)∧(∀ x c,X.env.cells.lookup x=some c→c≠b)∧∀ p∈X.pn++pins,p.1≠b
theorem Inv.fpOk{X:Cx}{pins:List (Addr × Obj)}{σ:St}{H H':Hp}{s:Shared}{b:Addr}(I:Inv X pins σ H s)(hb:s.heap.objs.size≤b)(hn:H' b=none):Y3 X pins H' b:=by
 refine⟨hn,NW (Nf I.lt hb),I.nofs hb,.inr (Nr I.sz hb),fun x c e z=>?_,fun p hp z=>?_⟩
 ·obtain⟨v,q⟩:=I.cell x c e
  exact absurd (Nf q.lt (by rw[z];exact hb)) (OG _)
 ·exact absurd (Nf (Nn (I.pin p hp).1) (by rw[z];exact hb)) (OG _)
structure oK(P:Program)(w:World)(K:Nd)(tg:Expr)(J:It)(fp:List Addr)(it:Addr)(tn:Nat→Heap→Prop):Prop where
 mem:it∈fp
 obj:∀ i h,tn i h→∀ b∈fp,∃ o,h.get? b=some o∧∀ v,o.data ≠ .cell v
 keep:∀ i h h',tn i h→(∀ b∈fp,∀ o,h.get? b=some o→h'.get? b=some o)→tn i h'
 item:∀(X:Cx),X.prog=P→X.w=w→X.K=K→X.calm=true→∀(i:Nat) (pins:List (Addr × Obj)) (s:Shared) (σ:St) (H:Hp) (E:Value→Shared→Prop),Inv X pins σ H s→(∀ b∈fp,Y3 X pins H b)→tn i s.heap→J.go i H →
  wpAny (model P w) X.A (pyNext (.ref it)) (fun r s1=>∃ u,r=some u ∧
   wpAny (model P w) X.A (letOwnedTupleGo tg (.ref it) u) (fun _ s2=>∃ x H',Inv X pins σ H' s2∧q9 x u∧J.yld i H x H'∧tn (i+1) s2.heap∧∀ b∈fp,H' b=none) E s1) E s
 done:∀(X:Cx),X.prog=P→X.w=w→X.K=K→X.calm=true→∀(i:Nat) (pins:List (Addr × Obj)) (s:Shared) (σ:St) (H:Hp) (E:Value→Shared→Prop),Inv X pins σ H s→(∀ b∈fp,Y3 X pins H b)→tn i s.heap→J.stop i H →
  wpAny (model P w) X.A (pyNext (.ref it)) (fun r s1=>r=none∧Inv X pins σ H s1) E s
 self:∀(A:Around) (i:Nat) (s:Shared) (Q:Value→Shared→Prop) (E:Value→Shared→Prop),tn i s.heap→Q (.ref it) s→wpAny (model P w) A (pyIter (.ref it)) Q E s
noncomputable abbrev TI:=St→Hp→(It→Hp→Prop)→Prop
def PIE(X:Cx)(pins:List (Addr × Obj))(σ:St)(tg:Expr)(R:It→Hp→Prop)(itv:Value)(s2:Shared):Prop :=
 ∃(it:Addr) (fp:List Addr) (tn:Nat→Heap→Prop) (J:It) (H':Hp),itv = .ref it∧Inv X pins σ H' s2∧oK X.prog X.w X.K tg J fp it tn∧tn 0 s2.heap∧(∀ b∈fp,Y3 X pins H' b)∧R J H'
def PI(X:Cx)(tg iter:Expr)(wi:TI):Prop :=
 ∀(pins:List (Addr × Obj)) (s:Shared) (σ:St) (H:Hp) (R:It→Hp→Prop),Inv X pins σ H s→wi σ H R →
  wpAny (model X.prog X.w) X.A (eval iter X.env) (fun v s1=>wpAny (model X.prog X.w) X.A (pyIter v) (PIE X pins σ tg R) X.xe s1) X.xe s
theorem xK{M:Model}{A:Around}{E:Value→Shared→Prop}{s:Shared}{tg:Expr}{it:Addr}{u:Value}{o:Obj}{n:String}{vs:Array Value}{Q:Unit→Shared→Prop}(ho:s.heap.get? it=some o)(hc:o.cls = .type n)(hd:o.data = .fields vs)
  (hn:["enumerate","zip","dict_itemiterator","dict_reverseitemiterator","odict_iterator","itertools.zip_longest","itertools.pairwise"].contains n=false) (hQ:Q () s):wpAny M A (letOwnedTupleGo tg (.ref it) u) Q E s:=by
 unfold letOwnedTupleGo
 cases tg<;>first
  | exact Ng hQ
  | (cases u<;>first
    | exact Ng hQ
    | (refine Nb (wpAny_load ho ?_);rw[hc,hd];show wpAny M A (if (["enumerate","zip","dict_itemiterator","dict_reverseitemiterator","odict_iterator","itertools.zip_longest","itertools.pairwise"].contains n && vs[0]? == some (rawInt _))=true then _ else _) Q E s;rw[if_neg (by intro h;rw[hn,OR]at h;cases h)];exact Ng hQ))
noncomputable def Itl(K:Nd)(a:Addr):It :=
 ⟨fun i H=>∃ xs x,SqL K H a xs∧xs[i]? = some x,fun i H x H'=>H'=H∧∀ xs,SqL K H a xs→xs[i]? = some x,fun i H=>∃ xs,SqL K H a xs∧xs.length≤i⟩
noncomputable def Itt(K:Nd)(a:Addr):It :=
 ⟨fun i H=>∃ xs x,SqT K H a xs∧xs[i]? = some x,fun i H x H'=>H'=H∧∀ xs,SqT K H a xs→xs[i]? = some x,fun i H=>∃ xs,SqT K H a xs∧xs.length≤i⟩
noncomputable def Itr(lo:Int)(n:Nat):It:=⟨fun i _=>i<n,fun i H x H'=>H'=H∧x = .int (lo+i),fun i _=>n≤i⟩
theorem tu{P:Program}{w:World}{K:Nd}{tg:Expr}(a it:Addr):oK P w K tg (Itl K a) [it] it (fun i h=>h.IsListIter it a i) where
 mem:=by simp
 obj:=fun i h st b hb=>by
  have e:b=it:=by simpa using hb
  subst e
  obtain⟨o,e,c,d⟩:=st
  exact⟨o,e,fun v z=>by rw[d]at z;cases z⟩
 keep:=fun i h h' st k=>st.at fun o e=>k it (by simp) o e
 item:=by
  intro X hP hw hK hc i pins s σ H E I hf st hg
  subst hP hw hK
  obtain⟨xs,x,hq,hx⟩:=hg
  obtain⟨its,rv,p,hz⟩:=I.list hq
  obtain⟨u,hu,ru⟩:=rv.get hx
  obtain⟨f0,f1,f2,f3,f4,f5⟩:=hf it (by simp)
  refine wpAny_pyNext_list_item st p.isList (x:=u) (by simpa using hu) fun h' st' sb=>?_
  have I1:Inv X pins σ H { s with heap:=h' }:=I.turned (t':=s.toks) (fun b o hb e=>(sb.2 b hb).trans e) f0 f1 f3 f4 f5
  obtain⟨o,e,c,d⟩:=id st'
  exact⟨u,rfl,xK (s:={ s with heap:=h' }) e c d (by decide) ⟨x,H,I1,ru,⟨rfl,fun ys hy=>by rw[I.list_inj hy hq];exact hx⟩,st',fun b hb=>(hf b hb).1⟩⟩
 done:=by
  intro X hP hw hK hc i pins s σ H E I hf st hg
  subst hP hw hK
  obtain⟨xs,hq,hx⟩:=hg
  obtain⟨its,rv,p,hz⟩:=I.list hq
  obtain⟨f0,f1,f2,f3,f4,f5⟩:=hf it (by simp)
  have hl:=rv.length
  exact wpAny_pyNext_list_end (I.ok.hd hc) st p.isList (by simp;omega) fun h' eb=>⟨rfl,I.turned (t':=s.toks) (fun b o hb e=>eb b o hb e) f0 f1 f3 f4 f5⟩
 self:=fun _ _ _ _ _ st h=>wpAny_pyIter_listiter st h
theorem oT{P:Program}{w:World}{K:Nd}{tg:Expr}(a it:Addr):oK P w K tg (Itt K a) [it] it (fun i h=>h.IsTupleIter it a i) where
 mem:=by simp
 obj:=fun i h st b hb=>by
  have e:b=it:=by simpa using hb
  subst e
  obtain⟨o,e,c,d⟩:=st
  exact⟨o,e,fun v z=>by rw[d]at z;cases z⟩
 keep:=fun i h h' st k=>st.at fun o e=>k it (by simp) o e
 item:=by
  intro X hP hw hK hc i pins s σ H E I hf st hg
  subst hP hw hK
  obtain⟨xs,x,hq,hx⟩:=hg
  obtain⟨its,rv,p,hz⟩:=I.tuple hq
  obtain⟨u,hu,ru⟩:=rv.get hx
  obtain⟨f0,f1,f2,f3,f4,f5⟩:=hf it (by simp)
  refine wpAny_pyNext_tuple_item st (show s.heap.IsTuple a its.toArray from p) (x:=u) (by simpa using hu) fun h' st' sb=>?_
  have I1:Inv X pins σ H { s with heap:=h' }:=I.turned (t':=s.toks) (fun b o hb e=>(sb.2 b hb).trans e) f0 f1 f3 f4 f5
  obtain⟨o,e,c,d⟩:=id st'
  exact⟨u,rfl,xK (s:={ s with heap:=h' }) e c d (by decide) ⟨x,H,I1,ru,⟨rfl,fun ys hy=>by rw[I.tuple_inj hy hq];exact hx⟩,st',fun b hb=>(hf b hb).1⟩⟩
 done:=by
  intro X hP hw hK hc i pins s σ H E I hf st hg
  subst hP hw hK
  obtain⟨xs,hq,hx⟩:=hg
  obtain⟨its,rv,p,hz⟩:=I.tuple hq
  obtain⟨f0,f1,f2,f3,f4,f5⟩:=hf it (by simp)
  have hl:=rv.length
  exact wpAny_pyNext_tuple_end (I.ok.hd hc) st (show s.heap.IsTuple a its.toArray from p) (by simp;omega) fun h' eb=>⟨rfl,I.turned (t':=s.toks) (fun b o hb e=>eb b o hb e) f0 f1 f3 f4 f5⟩
 self:=fun _ _ _ _ _ st h=>wpAny_pyIter_tupleiter st h
theorem oU{P:Program}{w:World}{K:Nd}{tg:Expr}(it:Addr)(lo:Int)(n:Nat):oK P w K tg (Itr lo n) [it] it (fun i h=>IsRangeIter h it (lo+(i:Nat)*1) ((n:Int) - (i:Nat)) 1) where
 mem:=by simp
 obj:=fun i h st b hb=>by
  have e:b=it:=by simpa using hb
  subst e
  exact⟨_,st,fun v z=>by
   have z':Data.fields _=Data.cell v:=z
   cases z'⟩
 keep:=fun i h h' st k=>k it (by simp) _ st
 item:=by
  intro X hP hw hK hc i pins s σ H E I hf st hg
  subst hP hw hK
  obtain⟨f0,f1,f2,f3,f4,f5⟩:=hf it (by simp)
  have W:=Walks.range (prog:=X.prog) (w:=X.w) (I.ok.hd hc) it lo 1 n
  refine W.item i s _ _ hg st fun v h' tk hv st' kk=>?_
  obtain⟨t,rfl⟩:=hv
  have I1:Inv X pins σ H { s with heap:=h',toks:=tk }:=I.turned (fun b o hb e=>kk b o (by simpa using hb) e) f0 f1 f3 f4 f5
  refine⟨_,rfl,xK (s:={ s with heap:=h',toks:=tk }) (n := "range_iterator") st' rfl rfl (by decide) ⟨.int (lo+i),H,I1,⟨t,?_⟩,⟨rfl,rfl⟩,st',fun b hb=>(hf b hb).1⟩⟩
  rw[Qo]
 done:=by
  intro X hP hw hK hc i pins s σ H E I hf st hg
  subst hP hw hK
  obtain⟨f0,f1,f2,f3,f4,f5⟩:=hf it (by simp)
  exact wpAny_pyNext_range_end (I.ok.hd hc) st (by have:n≤i:=hg;omega) fun h' eb=>⟨rfl,I.turned (t':=s.toks) (fun b o hb e=>eb b o hb e) f0 f1 f3 f4 f5⟩
 self:=fun _ _ _ _ _ st h=>wpAny_pyIter_rangeiter st h
section
variable {X:Cx} {tg:Expr}
theorem nv{pins:List (Addr × Obj)}{σ:St}{H:Hp}{s:Shared}{R:It→Hp→Prop}{E:Value→Shared→Prop}{lo hi:Int}{t u v:Tok}{tk:Nat}(I:Inv X pins σ H s)(h1:-(2 ^ 62)≤lo)(h2:lo<2 ^ 62)(h3:-(2 ^ 62)≤hi)(h4:hi<2 ^ 62)
  (q:R (Itr lo (hi - lo).toNat) H):wpAny (model X.prog X.w) X.A (pyIter (.ref s.heap.objs.size)) (PIE X pins σ tg R) E { s with heap:=s.heap.push { cls:=.type "range",data:=.fields #[.int lo t,.int hi u,.int 1 v] },toks:=tk }:=by
 refine wpAny_pyIter_range (IsRange.new ..) (small_one h1 h2 h3 h4) ?_
 have I1:Inv X pins σ H { s with heap:=s.heap.push { cls:=.type "range",data:=.fields #[.int lo t,.int hi u,.int 1 v] },toks:=tk }:=I.kept fun b o e=>Nc _ e
 refine⟨(s.heap.push { cls:=.type "range",data:=.fields #[.int lo t,.int hi u,.int 1 v] }).objs.size,[(s.heap.push { cls:=.type "range",data:=.fields #[.int lo t,.int hi u,.int 1 v] }).objs.size],_,_,H,rfl,
  I1.kept (t':=tk) fun b o e=>Nc _ e,oU _ lo (hi - lo).toNat,?_,fun b hb=>?_,q⟩
 ·have e1:lo+((0:Nat):Int)*1=lo:=by simp
  have e2:(((hi - lo).toNat:Nat):Int) - ((0:Nat):Int)=Builtin.Range.rangeSize lo hi 1:=by rw[rangeSize_one];split<;>omega
  show IsRangeIter _ _ (lo+((0:Nat):Int)*1) ((((hi - lo).toNat:Nat):Int) - ((0:Nat):Int)) 1
  rw[e1,e2]
  exact Ni _ rfl
 ·have e:b=(s.heap.push { cls:=.type "range",data:=.fields #[.int lo t,.int hi u,.int 1 v] }).objs.size:=by simpa using hb
  subst e
  exact I1.fpOk (Ny _) (I1.hok.fresh (Ny _))
def Ir(ta:TA):TI:=fun σ H R=>ta σ H fun vs H1=>∃ j:Int,vs=[.int j]∧-(2 ^ 62)≤j∧j<2 ^ 62∧R (Itr 0 j.toNat) H1
def Iq(ta:TA):TI:=fun σ H R=>ta σ H fun vs H1=>∃ i j:Int,vs=[.int i,.int j]∧(-(2 ^ 62)≤i∧i<2 ^ 62∧-(2 ^ 62)≤j∧j<2 ^ 62)∧R (Itr i (j - i).toNat) H1
theorem tP{a:Expr}{ta:TA}{p pos:Pos}(hg:Gl X "range")(hm:X.mg "range" = none)(ha:PA X [a] ta)(hs:starEach [a] X.env=[(false,eval a X.env)]:=by rfl):PI X tg (.Call (.Name "range" p) [a] [] pos) (Ir ta):=by
 intro pins s σ H R I h
 refine Call_ (O3 I hg hm boot_range (PyProof.Rows.callWith_type1 (thn (ha pos pins s σ H _ I h) fun us s1 ⟨vs,H1,I1,r1,q1⟩=>?_) hs rfl))
 obtain⟨j,e,q1,q2,q⟩:=q1
 subst e
 cases r1 with
 | cons r rr =>
  cases rr
  obtain⟨t,rfl⟩:=r
  exact call_range_1 (nv I1 (by omega) (by omega) q1 q2 (by simpa using q))
theorem tO{a b:Expr}{ta:TA}{p pos:Pos}(hg:Gl X "range")(hm:X.mg "range" = none)(ha:PA X [a,b] ta)(hs:starEach [a,b] X.env=[(false,eval a X.env),(false,eval b X.env)]:=by rfl)(hs2:starEach [b] X.env=[(false,eval b X.env)]:=by rfl) :
  PI X tg (.Call (.Name "range" p) [a,b] [] pos) (Iq ta):=by
 intro pins s σ H R I h
 refine Call_ (O3 I hg hm boot_range (PyProof.Rows.callWith_type1 (thn (ha pos pins s σ H _ I h) fun us s1 ⟨vs,H1,I1,r1,q1⟩=>?_) (by rw[hs,hs2]) (by rw[hs2];rfl)))
 obtain⟨i,j,e,⟨q1,q2,q3,q4⟩,q⟩:=q1
 subst e
 cases r1 with
 | cons r rr =>
  cases rr with
  | cons r' rr =>
   cases rr
   obtain⟨t,rfl⟩:=r
   obtain⟨t',rfl⟩:=r'
   exact call_range_2 (nv I1 q1 q2 q3 q4 q)
def Jz(wi:TI)(g:TG)(tb:TS):TS:=fun D σ H=>wi σ H fun J H1=>∃ W:Nat→Nat→St→Hp→Prop,(∃ m,W 0 m σ H1)∧∀ i m σ H,W i m σ H →
 (J.stop i H∧D.nx σ H)∨(J.go i H∧∃ N:St→Hp→Prop,(∀ σ' H',N σ' H'→∃ m',m'<m∧W (i+1) m' σ' H')∧∀ x H',J.yld i H x H'→g x σ H' fun σ2 H2=>tb { D with nx:=N,ct:=N,bk:=D.nx } σ2 H2)
noncomputable def jX(fp:List Addr)(h:Heap):List (Addr × Obj):=fp.filterMap fun b=>(h.get? b).map fun o=>(b,o)
theorem G9{fp:List Addr}{h:Heap}{b:Addr}{o:Obj}(hb:b∈fp)(e:h.get? b=some o):(b,o)∈jX fp h:=Pj.mpr ⟨b,hb,by rw[e];rfl⟩
theorem tU{fp:List Addr}{h:Heap}{p:Addr × Obj}(hp:p∈jX fp h):p.1∈fp∧h.get? p.1=some p.2:=by
 obtain⟨b,hb,e⟩:=Pj.mp hp
 cases q:h.get? b with
 | none=>rw[q]at e;cases e
 | some o =>
  rw[q]at e
  have e':(b,o)=p:=Option.some.inj e
  subst e'
  exact⟨hb,q⟩
theorem Inv.pinned{pins:List (Addr × Obj)}{σ:St}{H:Hp}{s:Shared}{fp:List Addr}(I:Inv X pins σ H s)(hf:∀ b∈fp,Y3 X pins H b)(ho:∀ b∈fp,∃ o,s.heap.get? b=some o∧∀ v,o.data ≠ .cell v):Inv X (pins++jX fp s.heap) σ H s :=
 I.pins_of fun p hp=>(NL.mp hp).elim (fun z=>I.pin p (NJ _ z)) fun z=>by
  obtain⟨hb,e⟩:=tU z
  obtain⟨f0,f1,f2,_⟩:=hf p.1 hb
  obtain⟨o,e',d⟩:=ho p.1 hb
  rw[e]at e';cases e'
  exact⟨e,f0,f1,f2,d⟩
theorem Inv.unpinned{pins pl:List (Addr × Obj)}{σ:St}{H:Hp}{s:Shared}(I:Inv X (pins++pl) σ H s):Inv X pins σ H s:=I.pins_of fun p hp=>I.pin p (NJ _ (Oq _ hp))
theorem Fm{iter:Expr}{body:List Stmt}{wi:TI}{g:TG}{tb:TS}{pos:Pos}(hp:PassesOwn (model X.prog X.w) X.A X.env X.xe)(hc:X.calm=true)(hi:PI X tg iter wi)(hg:PG X tg g)(hb:PSs X body tb)
  (hs:∀ x,foldedSetIterable iter X.env x=pure x:=by intro _;rfl):PS X (.For tg iter body [] pos) (Jz wi g tb):=by
 intro pins s σ H D I h
 refine wpAny_For (thn (hi pins s σ H _ I h) fun v s1 h1=>thn h1 fun itv s2 h2=>?_) hs
 obtain⟨it,fp,tn,J,H2,e,I2,T,st2,f2,W,⟨m0,w0⟩,turn⟩:=h2
 subst e
 have stat:∀{H':Hp},(∀ b∈fp,H' b=none)→∀ b∈fp,Y3 X pins H' b:=fun hn b hb=>⟨hn b hb,(f2 b hb).2⟩
 refine codeAny_forLoop_any (fun n s'=>∃ i σ' H',Inv X pins σ' H' s'∧tn i s'.heap∧(∀ b∈fp,H' b=none)∧W i n σ' H') ?_ m0 ⟨0,σ,H2,I2,st2,fun b hb=>(f2 b hb).1,w0⟩
 rintro n s3 ⟨i,σ3,H3,I3,st3,fr3,w3⟩
 rcases turn i n σ3 H3 w3 with⟨stop,qn⟩|⟨go,N,hN,step⟩
 ·refine wpAny_passesOwn hp (thn (T.done X rfl rfl rfl hc i pins s3 σ3 H3 X.xe I3 (stat fr3) st3 stop) fun r s4 zz=>?_)
  obtain⟨hr,I4⟩:=zz
  subst hr
  exact wpAny_execs_nil ⟨σ3,H3,I4,qn⟩
 ·refine wpAny_passesOwn hp (thn (T.item X rfl rfl rfl hc i pins s3 σ3 H3 X.xe I3 (stat fr3) st3 go) fun r s4 zz=>?_)
  obtain⟨u,hr,h4⟩:=zz
  subst hr
  refine wpAny_passesOwn hp (thn h4 fun _ s5 zz=>?_)
  obtain⟨x,H5,I5,r5,y5,st5,fr5⟩:=zz
  have I5':=I5.pinned (stat fr5) (T.obj _ _ st5)
  refine wpAny_passesOwn hp (thn (hg _ s5 σ3 H5 x u _ I5' r5 (step x H5 y5)) fun _ s6 zz=>?_)
  obtain⟨σ6,H6,I6,q6⟩:=zz
  refine wpAny_passesOwn hp (thn (hb _ s6 σ6 H6 _ I6 q6) fun f s7 q7=>?_)
  have again:∀{σ7:St} {H7:Hp},Inv X (pins++jX fp s5.heap) σ7 H7 s7→N σ7 H7→∃ m,m<n∧∃ i σ' H',Inv X pins σ' H' s7∧tn i s7.heap∧(∀ b∈fp,H' b=none)∧W i m σ' H':=fun{σ7 H7} I7 n7=>by
   obtain⟨m',hm,w7⟩:=hN σ7 H7 n7
   refine⟨m',hm,i+1,σ7,H7,I7.unpinned,T.keep _ _ _ st5 fun b hb o e=>(I7.pin (b,o) (NJ _ (NJ _ (G9 hb e)))).1,fun b hb=>?_,w7⟩
   obtain⟨o,e,d⟩:=T.obj _ _ st5 b hb
   exact(I7.pin (b,o) (NJ _ (NJ _ (G9 hb e)))).2.1
  cases f with
  | next=>obtain⟨σ7,H7,I7,n7⟩:=q7;exact again I7 n7
  | cont=>obtain⟨σ7,H7,I7,n7⟩:=q7;exact again I7 n7
  | brk=>obtain⟨σ7,H7,I7,q7⟩:=q7;exact⟨σ7,H7,I7.unpinned,q7⟩
  | ret v=>obtain⟨x7,σ7,H7,I7,r7,q7⟩:=q7;exact⟨x7,σ7,H7,I7.unpinned,r7,q7⟩
end
noncomputable abbrev R2:=V→V→Hp→VK→Prop
def OpR(X:Cx)(f:Value→Value→Sem Value)(r:R2):Prop :=
 ∀(pins:List (Addr × Obj)) (s:Shared) (σ:St) (H:Hp) (x y:V) (v u:Value) (Q:VK),Inv X pins σ H s→q9 x v→q9 y u→r x y H Q →
  wpAny (model X.prog X.w) X.A (f v u) (EP X pins σ Q) X.xe s
def UnR(X:Cx)(f:Value→Sem Value)(r:V→Hp→VK→Prop):Prop :=
 ∀(pins:List (Addr × Obj)) (s:Shared) (σ:St) (H:Hp) (x:V) (v:Value) (Q:VK),Inv X pins σ H s→q9 x v→r x H Q →
  wpAny (model X.prog X.w) X.A (f v) (EP X pins σ Q) X.xe s
def v9(X:Cx)(f:Value)(r:List V→Hp→VK→Prop):Prop :=
 ∀(pins:List (Addr × Obj)) (s:Shared) (σ:St) (H:Hp) (xs:List V) (us:List Value) (Q:VK),Inv X pins σ H s→j6 xs us→r xs H Q →
  wpAny (model X.prog X.w) X.A (call f us) (EP X pins σ Q) X.xe s
def tOp(r:R2)(ta tb:TE):TE:=fun σ H Q=>ta σ H fun x H1=>tb σ H1 fun y H2=>r x y H2 Q
def tUn(r:V→Hp→VK→Prop)(ta:TE):TE:=fun σ H Q=>ta σ H fun x H1=>r x H1 Q
def rI(C:Int→Int→Prop)(g:Int→Int→V):R2:=fun x y H Q=>∃ i j,x = .int i∧y = .int j∧C i j∧Q (g i j) H
def rI0(g:Int→Int→V):R2:=fun x y H Q=>∃ i j,x = .int i∧y = .int j∧Q (g i j) H
noncomputable def rU(g:Int→V):V→Hp→VK→Prop:=fun x H Q=>∃ i,x = .int i∧Q (g i) H
section
variable {X:Cx} {a b c:Expr} {ta tb tc:TE} {pos:Pos}
theorem Gx(ha:PE X a ta)(hb:PE X b tb){pins:List (Addr × Obj)}{s:Shared}{σ:St}{H:Hp}{R:V→V→Hp→Prop}(I:Inv X pins σ H s)
  (h:ta σ H fun x H1=>tb σ H1 fun y H2=>R x y H2) {Q:Value→Shared→Prop} {f:Value→Value→Sem Value}
  (hf:∀ v u s2 x y H2,Inv X pins σ H2 s2→q9 x v→q9 y u→R x y H2→wpAny (model X.prog X.w) X.A (f v u) Q X.xe s2) :
  wpAny (model X.prog X.w) X.A (eval a X.env) (fun v s₁=>wpAny (model X.prog X.w) X.A (eval b X.env) (fun u s₂=>wpAny (model X.prog X.w) X.A (f v u) Q X.xe s₂) X.xe s₁) X.xe s:=by
 refine thn (ha pins s σ H _ I h) fun v s1 zz=>?_
 obtain⟨x,H1,I1,r1,q1⟩:=zz
 refine thn (hb pins s1 σ H1 _ I1 q1) fun u s2 zz=>?_
 obtain⟨y,H2,I2,r2,q2⟩:=zz
 exact hf v u s2 x y H2 I2 r1 r2 q2
theorem DB{op:Operator}{r:R2}(ho:OpR X (binaryOp op) r)(ha:PE X a ta)(hb:PE X b tb):PE X (.BinOp a op b pos) (tOp r ta tb):=by
 intro pins s σ H Q I h
 exact wpAny_BinOp (Gx ha hb I h fun v u s2 x y H2 I2 rx ry q=>ho pins s2 σ H2 x y v u Q I2 rx ry q)
theorem HP{op:UnaryOp}{r:V→Hp→VK→Prop}(ho:UnR X (unaryOp op) r)(ha:PE X a ta):PE X (.UnaryOp op a pos) (tUn r ta):=by
 intro pins s σ H Q I h
 exact UnaryOp_ (thn (ha pins s σ H _ I h) fun v s1 ⟨x,H1,I1,r1,q1⟩=>ho pins s1 σ H1 x v Q I1 r1 q1)
theorem opI{f:Value→Value→Sem Value}{C:Int→Int→Prop}{g:Int→Int→Int}
  (rule:∀(i j:Int) (t u:Tok) (s:Shared) (Q:Value→Shared→Prop) (E:Value→Shared→Prop),C i j→Q (.int (g i j) s.toks) { s with toks:=s.toks+1 }→wpAny (model X.prog X.w) X.A (f (.int i t) (.int j u)) Q E s) :
  OpR X f (rI C fun i j=>.int (g i j)):=by
 intro pins s σ H x y v u Q I rx ry h
 obtain⟨i,j,rfl,rfl,hc,q⟩:=h
 obtain⟨t,rfl⟩:=rx
 obtain⟨t',rfl⟩:=ry
 exact rule i j t t' s _ _ hc ⟨.int (g i j),H,I.tok _,⟨_,rfl⟩,q⟩
theorem Ia{f:Value→Value→Sem Value}{g:Int→Int→Int}
  (rule:∀(i j:Int) (t u:Tok) (s:Shared) (Q:Value→Shared→Prop) (E:Value→Shared→Prop),Q (.int (g i j) s.toks) { s with toks:=s.toks+1 }→wpAny (model X.prog X.w) X.A (f (.int i t) (.int j u)) Q E s) :
  OpR X f (rI0 fun i j=>.int (g i j)):=by
 intro pins s σ H x y v u Q I rx ry h
 obtain⟨i,j,rfl,rfl,q⟩:=h
 obtain⟨t,rfl⟩:=rx
 obtain⟨t',rfl⟩:=ry
 exact rule i j t t' s _ _ ⟨.int (g i j),H,I.tok _,⟨_,rfl⟩,q⟩
theorem Br{f:Value→Value→Sem Value}{g:Int→Int→Bool}
  (rule:∀(i j:Int) (t u:Tok) (s:Shared) (Q:Value→Shared→Prop) (E:Value→Shared→Prop),Q (.bool (g i j)) s→wpAny (model X.prog X.w) X.A (f (.int i t) (.int j u)) Q E s) :
  OpR X f (rI0 fun i j=>.bl (g i j)):=by
 intro pins s σ H x y v u Q I rx ry h
 obtain⟨i,j,rfl,rfl,q⟩:=h
 obtain⟨t,rfl⟩:=rx
 obtain⟨t',rfl⟩:=ry
 exact rule i j t t' s _ _ ⟨.bl (g i j),H,I,rfl,q⟩
def zo(i j:Int):Prop:=0≤j∧j≤1000000∧i.natAbs<2 ^ 64
theorem FJ:OpR X (binaryOp .Add) (rI0 fun i j=>.int (i+j)):=Ia fun _ _ _ _ _ _ _ q=>add_int q
theorem FG:OpR X (binaryOp .Sub) (rI0 fun i j=>.int (i - j)):=Ia fun _ _ _ _ _ _ _ q=>sub_int q
theorem FI:OpR X (binaryOp .Mod) (rI (fun _ j=>0<j) fun i j=>.int (i % j)):=opI fun i j _ _ _ _ _ hc q=>by
 have h1:(0:Int)<j:=hc
 exact mod_int' (by omega) (by rw[Int.fmod_eq_emod_of_nonneg i (by omega)];exact q)
theorem FH:OpR X (binaryOp .Pow) (rI zo fun i j=>.int (i ^ j.toNat)):=opI fun _ _ _ _ _ _ _ hc q=>pow_int_small hc.1 hc.2.1 hc.2.2 q
theorem unI{f:Value→Sem Value}{g:Int→Int}
  (rule:∀(i:Int) (t:Tok) (s:Shared) (Q:Value→Shared→Prop) (E:Value→Shared→Prop),Q (.int (g i) s.toks) { s with toks:=s.toks+1 }→wpAny (model X.prog X.w) X.A (f (.int i t)) Q E s) :
  UnR X f (rU fun i=>.int (g i)):=by
 intro pins s σ H x v Q I rx h
 obtain⟨i,rfl,q⟩:=h
 obtain⟨t,rfl⟩:=rx
 exact rule i t s _ _ ⟨.int (g i),H,I.tok _,⟨_,rfl⟩,q⟩
theorem Ey:UnR X (unaryOp .USub) (rU fun i=>.int (-i)):=unI fun _ _ _ _ _ q=>neg_int q
end
noncomputable def HG:V→V→Bool
 | .non,.non=>true|.non,.int _=>true|.int _,.non=>true|.non,.bl _=>true|.bl _,.non=>true|.non,.str _=>true|.str _,.non=>true
 | .int _,.int _=>true|.bl _,.bl _=>true|.str _,.str _=>true|.byt _,.byt _=>true
 | .int _,.str _=>true|.str _,.int _=>true|.bl _,.str _=>true|.str _,.bl _=>true
 | _,_=>false
def rEq:R2:=fun x y H Q=>HG x y=true∧Q (.bl (decide (x=y))) H
def rNe:R2:=fun x y H Q=>HG x y=true∧Q (.bl (!decide (x=y))) H
theorem sL{i j:Int}:decide (V.int i=V.int j)=(i == j):=by
 rw[OM]
 simp
theorem yj{i j:Bool}:decide (V.bl i=V.bl j)=(i == j):=by
 rw[OM]
 simp
theorem sJ{i j:Str}:decide (V.str i=V.str j)=(i == j):=by
 rw[OM]
 simp
theorem sM{i j:Array UInt8}:decide (V.byt i=V.byt j)=(i.toList == j.toList):=by
 rw[OM]
 cases i
 cases j
 simp
section
variable {X:Cx} {a b c:Expr} {ta tb tc:TE} {pos:Pos}
theorem p9{pins:List (Addr × Obj)}{σ:St}{H:Hp}{s:Shared}{Q:VK}{k k':Bool}(I:Inv X pins σ H s)(q:Q (.bl k) H)(e:k=k'):EP X pins σ Q (.bool k') s:=by
 subst e
 exact⟨.bl k,H,I,rfl,q⟩
theorem DC:OpR X (compareOp .Eq) rEq:=by
 intro pins s σ H x y v u Q I rx ry h
 obtain⟨hs,q⟩:=h
 cases x with
 | non =>
  cases rx
  cases y with
  | non=>cases ry;exact PySem.EqNone.eq_none_none (p9 I q (by simp))
  | bl j=>cases ry;exact PySem.EqNone.eq_none_bool (p9 I q (by simp))
  | int j=>obtain⟨t',rfl⟩:=ry;exact PySem.EqNone.eq_none_int (p9 I q (by simp))
  | str j=>obtain⟨t',rfl⟩:=ry;exact PySem.EqNone.eq_none_str (p9 I q (by simp))
  | _=>exact absurd (show false=true from hs) Nt
 | bl i =>
  cases rx
  cases y with
  | non=>cases ry;exact PySem.EqNone.eq_bool_none (p9 I q (by simp))
  | bl j=>cases ry;exact eq_bool (p9 I q yj)
  | str j=>obtain⟨t',rfl⟩:=ry;exact PySem.EqMixed.eq_bool_str (p9 I q (by simp))
  | _=>exact absurd (show false=true from hs) Nt
 | int i =>
  obtain⟨t,rfl⟩:=rx
  cases y with
  | non=>cases ry;exact PySem.EqNone.eq_int_none (p9 I q (by simp))
  | int j=>obtain⟨t',rfl⟩:=ry;exact eq_int (p9 I q sL)
  | str j=>obtain⟨t',rfl⟩:=ry;exact PySem.EqMixed.eq_int_str (p9 I q (by simp))
  | _=>exact absurd (show false=true from hs) Nt
 | str i =>
  obtain⟨t,rfl⟩:=rx
  cases y with
  | non=>cases ry;exact PySem.EqNone.eq_str_none (p9 I q (by simp))
  | bl j=>cases ry;exact PySem.EqMixed.eq_str_bool (p9 I q (by simp))
  | int j=>obtain⟨t',rfl⟩:=ry;exact PySem.EqMixed.eq_str_int (p9 I q (by simp))
  | str j=>obtain⟨t',rfl⟩:=ry;exact eq_str (p9 I q sJ)
  | _=>exact absurd (show false=true from hs) Nt
 | byt i =>
  obtain⟨t,rfl⟩:=rx
  cases y with
  | byt j=>obtain⟨t',rfl⟩:=ry;exact PySem.W.eq_bytes (p9 I q sM)
  | _=>exact absurd (show false=true from hs) Nt
 | _=>cases y<;>exact absurd (show false=true from hs) Nt
theorem HV:OpR X (compareOp .NotEq) rNe:=by
 intro pins s σ H x y v u Q I rx ry h
 obtain⟨hs,q⟩:=h
 cases x with
 | non =>
  cases rx
  cases y with
  | non=>cases ry;exact PySem.EqNone.ne_none_none (p9 I q (by simp))
  | bl j=>cases ry;exact PySem.EqNone.ne_none_bool (p9 I q (by simp))
  | int j=>obtain⟨t',rfl⟩:=ry;exact PySem.EqNone.ne_none_int (p9 I q (by simp))
  | str j=>obtain⟨t',rfl⟩:=ry;exact PySem.EqNone.ne_none_str (p9 I q (by simp))
  | _=>exact absurd (show false=true from hs) Nt
 | bl i =>
  cases rx
  cases y with
  | non=>cases ry;exact PySem.EqNone.ne_bool_none (p9 I q (by simp))
  | bl j=>cases ry;exact ne_bool (p9 I q (congrArg not yj))
  | str j=>obtain⟨t',rfl⟩:=ry;exact PySem.EqMixed.ne_bool_str (p9 I q (by simp))
  | _=>exact absurd (show false=true from hs) Nt
 | int i =>
  obtain⟨t,rfl⟩:=rx
  cases y with
  | non=>cases ry;exact PySem.EqNone.ne_int_none (p9 I q (by simp))
  | int j=>obtain⟨t',rfl⟩:=ry;exact ne_int (p9 I q (congrArg not sL))
  | str j=>obtain⟨t',rfl⟩:=ry;exact PySem.EqMixed.ne_int_str (p9 I q (by simp))
  | _=>exact absurd (show false=true from hs) Nt
 | str i =>
  obtain⟨t,rfl⟩:=rx
  cases y with
  | non=>cases ry;exact PySem.EqNone.ne_str_none (p9 I q (by simp))
  | bl j=>cases ry;exact PySem.EqMixed.ne_str_bool (p9 I q (by simp))
  | int j=>obtain⟨t',rfl⟩:=ry;exact PySem.EqMixed.ne_str_int (p9 I q (by simp))
  | str j=>obtain⟨t',rfl⟩:=ry;exact ne_str (p9 I q (congrArg not sJ))
  | _=>exact absurd (show false=true from hs) Nt
 | byt i =>
  obtain⟨t,rfl⟩:=rx
  cases y with
  | byt j=>obtain⟨t',rfl⟩:=ry;exact PySem.W.ne_bytes (p9 I q (congrArg not sM))
  | _=>exact absurd (show false=true from hs) Nt
 | _=>cases y<;>exact absurd (show false=true from hs) Nt
theorem HW:OpR X (compareOp .Lt) (rI0 fun i j=>.bl (decide (i<j))):=Br fun _ _ _ _ _ _ _ q=>lt_int q
theorem HX:OpR X (compareOp .LtE) (rI0 fun i j=>.bl (decide (i≤j))):=Br fun _ _ _ _ _ _ _ q=>le_int q
theorem HY:OpR X (compareOp .Gt) (rI0 fun i j=>.bl (decide (j<i))):=Br fun _ _ _ _ _ _ _ q=>gt_int q
theorem HZ:OpR X (compareOp .GtE) (rI0 fun i j=>.bl (decide (j≤i))):=Br fun _ _ _ _ _ _ _ q=>ge_int q
noncomputable def Im:HO→Bool
 | .lst _=>true
 | .ins _ _ _=>true
 | _=>false
theorem ir{pins:List (Addr × Obj)}{s:Shared}{σ:St}{H:Hp}{a:Addr}{o:HO}(I:Inv X pins σ H s)(h:H a=some o)(p:Im o=true):∃ ob,s.heap.get? a=some ob∧ob.cls ≠ .type "tuple" := by
 cases o with
 | lst xs =>
  obtain⟨_,its,n,_,e⟩:xs.length≤sizeLine∧∃(its:List Value) (n:Nat),j6 xs its∧s.heap.get? a=some { cls:=.type "list",data:=.seq its.toArray n }:=I.hok a _ h
  exact⟨_,e,(by show Value.type "list" ≠ .type "tuple";decide +kernel)⟩
 | ins C dx fs =>
  have x:=I.hok a _ h
  obtain⟨_,_,_,e,_⟩:=x
  exact⟨_,e,(by show Value.ref C ≠ .type "tuple";exact fun z=>by cases z)⟩
 | _=>exact absurd (show false=true from p) Nt
theorem OpR.or{f:Value→Value→Sem Value}{r r':R2}(h:OpR X f r)(h':OpR X f r'):OpR X f (fun x y H Q=>r x y H Q∨r' x y H Q):=by
 intro pins s σ H x y v u Q I rx ry q
 rcases q with q|q
 ·exact h pins s σ H x y v u Q I rx ry q
 ·exact h' pins s σ H x y v u Q I rx ry q
theorem xm(b:Expr){op:CmpOp}(h:op ≠ .In:=by decide)(h2:op ≠ .NotIn:=by decide):behindInMarks op b=false:=by
 have e1:(op == CmpOp.In)=false:=by cases op<;>first|rfl|exact absurd rfl h
 have e2:(op == CmpOp.NotIn)=false:=by cases op<;>first|rfl|exact absurd rfl h2
 cases b<;>simp[behindInMarks,e1,e2]
theorem Bk{op:CmpOp}{r:R2}(ho:OpR X (compareOp op) r)(ha:PE X a ta)(hb:PE X b tb)(hm:behindInMarks op b=false):PE X (.Compare a [op] [b] pos) (tOp r ta tb):=by
 intro pins s σ H Q I h
 exact wpAny_Compare1 (Gx ha hb I h fun v u s2 x y H2 I2 rx ry q=>ho pins s2 σ H2 x y v u Q I2 rx ry q) hm
def Hv(t:TE):TT:=fun σ H Q=>t σ H fun x H'=>∃ k,x = .bl k∧Q k H'
theorem AV{op:CmpOp}{r:R2}(ho:OpR X (compareOp op) r)(ha:PE X a ta)(hb:PE X b tb)(hm:behindInMarks op b=false):PT X (.Compare a [op] [b] pos) (Hv (tOp r ta tb)):=by
 intro pins s σ H Q I h
 refine wpAny_isTrue_Compare1 (thn (ha pins s σ H _ I h) fun v s1 ⟨x,H1,I1,r1,q1⟩=>thn (hb pins s1 σ H1 _ I1 q1) fun u s2 ⟨y,H2,I2,r2,q2⟩ =>
  thn (ho pins s2 σ H2 x y v u _ I2 r1 r2 q2) fun c s3 ⟨z,H3,I3,r3,k,e,q3⟩=>?_) hm
 subst e
 cases r3
 exact wpAny_truthy_bool ⟨H3,I3,q3⟩
def vM(r r':R2)(ta tb tc:TE):TE:=fun σ H Q=>ta σ H fun x H1=>tb σ H1 fun y H2=>r x y H2 fun z H3=>∃ k,z = .bl k ∧
 (if k=true then tc σ H3 fun w' H4=>r' y w' H4 Q else Q (.bl false) H3)
theorem wX{op op':CmpOp}{r r':R2}(ho:OpR X (compareOp op) r)(ho':OpR X (compareOp op') r')(ha:PE X a ta)(hb:PE X b tb)(hc:PE X c tc)
  (hm:lastMarks [op,op'] [b,c]=false:=by with_unfolding_all rfl):PE X (.Compare a [op,op'] [b,c] pos) (vM r r' ta tb tc):=by
 intro pins s σ H Q I h
 refine Compare_chain (thn (ha pins s σ H _ I h) fun v s1 ⟨x,H1,I1,r1,q1⟩=>chain_link (thn (hb pins s1 σ H1 _ I1 q1) fun u s2 ⟨y,H2,I2,r2,q2⟩ =>
  thn (ho pins s2 σ H2 x y v u _ I2 r1 r2 q2) fun d s3 ⟨z,H3,I3,r3,k,e,q3⟩=>?_)) hm
 subst e
 cases r3
 refine wpAny_truthy_bool ?_
 cases k with
 | false=>exact ite_ff ⟨.bl false,H3,I3,rfl,q3⟩
 | true=>exact ite_tt (chain_last (thn (hc pins s3 σ H3 _ I3 q3) fun w' s4 ⟨z',H4,I4,r4,q4⟩=>ho' pins s4 σ H4 y z' u w' Q I4 r2 r4 q4))
theorem pZ{xs:List V}{its:List Value}(r:j6 xs its):(!its.toArray.isEmpty) = !xs.isEmpty:=by
 cases r<;>simp
theorem kH:(sizeLine:Nat)<2 ^ 63:=by rw[sizeLine_eq];decide
theorem hG{x:V}{us:List Value}(r:j6 [x] us):∃ u,us=[u]∧q9 x u:=by
 cases r with
 | cons r1 r2=>cases r2;exact⟨_,rfl,r1⟩
theorem vF{x y:V}{us:List Value}(r:j6 [x,y] us):∃ u w',us=[u,w']∧q9 x u∧q9 y w':=by
 cases r with
 | cons r1 r2 =>
  cases r2 with
  | cons r3 r4=>cases r4;exact⟨_,_,rfl,r1,r3⟩
theorem yG:v9 X (.builtin "abs") (fun xs H Q=>∃ i,xs=[.int i]∧Q (.int (if i<0 then -i else i)) H):=by
 intro pins s σ H xs us Q I r h
 obtain⟨i,rfl,q⟩:=h
 obtain⟨u,rfl,t,rfl⟩:=hG r
 exact call_abs_int fun u tk=>⟨.int (if i<0 then -i else i),H,I.tok _,⟨_,rfl⟩,q⟩
theorem ug(hc:X.calm=true):v9 X (.builtin "max") (fun xs H Q=>∃ i j,xs=[.int i,.int j]∧Q (.int (if j > i then j else i)) H):=by
 intro pins s σ H xs us Q I r h
 obtain⟨i,j,rfl,q⟩:=h
 obtain⟨u,w',rfl,⟨t,rfl⟩,⟨t',rfl⟩⟩:=vF r
 refine max_two_ints (I.ok.hd hc) fun h' tk k=>⟨_,H,I.kept k,?_,q⟩
 by_cases hj:j > i
 ·rw[if_pos hj,if_pos hj];exact⟨_,rfl⟩
 ·rw[if_neg hj,if_neg hj];exact⟨_,rfl⟩
theorem uf(hc:X.calm=true):v9 X (.builtin "min") (fun xs H Q=>∃ i j,xs=[.int i,.int j]∧Q (.int (if j<i then j else i)) H):=by
 intro pins s σ H xs us Q I r h
 obtain⟨i,j,rfl,q⟩:=h
 obtain⟨u,w',rfl,⟨t,rfl⟩,⟨t',rfl⟩⟩:=vF r
 refine min_two_ints (I.ok.hd hc) fun h' tk k=>⟨_,H,I.kept k,?_,q⟩
 by_cases hj:j<i
 ·rw[if_pos hj,if_pos hj];exact⟨_,rfl⟩
 ·rw[if_neg hj,if_neg hj];exact⟨_,rfl⟩
end
structure GG(h:Heap)(x dx C:Addr)(mA:Str→Option Value):Prop where
 obj:h.get? x=some (PySem.W.instObj C dx)
 ns:h.Ns1 dx mA
 ne:dx≠x
theorem tV{h:Heap}{dx:Addr}{mA:Str→Option Value}(n:h.Ns1 dx mA):∃ od,h.get? dx=some od∧∀ name,PySem.W.lookIn name od=some (mA name):=by
 obtain⟨o,es,ep,ho,hd,hk,_,hm⟩:=n
 refine⟨o,ho,fun name=>?_⟩
 have e:=hm name
 unfold nsFind findBy at e
 rw[← Array.find?_toList]at e
 unfold PySem.W.lookIn
 rw[hd]
 dsimp only
 split
 ·rename_i y q
  rw[q]at e
  exact congrArg some e
 ·rename_i q
  rw[q]at e
  have a:es.toList.any (·.refKey)=false:=by
   rw[Ri]
   intro y hy
   obtain⟨z,t,hkey⟩:=hk y (Array.mem_toList_iff.mp hy)
   simp[DictEntry.refKey,hkey]
  have a':¬ es.toList.any (·.refKey)=true:=by rw[a];exact Nt
  rw[if_neg a']
  exact congrArg some e
theorem GG.look{h:Heap}{x dx C:Addr}{mA:Str→Option Value}(I:GG h x dx C mA):∃ od,PySem.W.InstAt h x (PySem.W.instObj C dx) C (some od)∧∀ name,PySem.W.lookIn name od=some (mA name) :=
 let ⟨od,ho,hl⟩:=tV I.ns
 ⟨od,⟨I.obj,rfl,rfl,ho⟩,hl⟩
section
variable {prog:Program} {w:World} {A:Around} {E:Value→Shared→Prop} {s:Shared} {K:Nd} {x dx C f:Addr} {mA:Str→Option Value} {name:Str} {v:Value}
end
section
variable {P:Program} {w:World} {H H':Hp} {h h':Heap} {a C dx:Addr} {fs fs':List (Str × V)}
theorem BX(hok:HOk P w H h)(e:H a=some (.ins C dx fs)):∃ mA,GG h a dx C mA∧(∀ f,GF (fs.lookup f) (mA f))∧PySem.Within mA (fs.map (·.1))∧fs.length≤1000∧H dx=some (.own a):=by
 obtain⟨d,z,ne,ob,mA,n,r,q⟩:=(show B4 P w H h a (.ins C dx fs)from hok a _ e)
 exact⟨mA,⟨ob,n,ne⟩,r,q,z,d⟩
end
structure Cls(K:Nd)(C:Addr):Prop where
 pg:PySem.W.plainGet K C Str.empty=true
 hd:PySem.W.hasDictIn K C=true
 po:PySem.W.plainOver K C=true
 sa:PySem.W.findIn K (.ref C) "__setattr__" = some (some (.builtin "object.__setattr__"))
theorem Cls.get{K:Nd}{C:Addr}(c:Cls K C)(f:Str):PySem.W.plainGet K C f=true:=c.pg
section
variable {X:Cx} {pins:List (Addr × Obj)} {σ:St} {H:Hp} {s:Shared} {a C dx:Addr} {fs:List (Str × V)} {f:Str} {v:V} {A:Around} {E:Value→Shared→Prop}
theorem Inv.made(I:Inv X pins σ H s):Inv X pins σ (upd (upd H s.heap.objs.size (.own (s.heap.objs.size+1))) (s.heap.objs.size+1) (.ins C s.heap.objs.size []))
  { s with heap:=(s.heap.push PySem.W.emptyDict).push (PySem.W.instObj C s.heap.objs.size) }:=by
 have e1:(s.heap.push PySem.W.emptyDict).get? s.heap.objs.size=some PySem.W.emptyDict:=Ni s.heap rfl
 have e2:((s.heap.push PySem.W.emptyDict).push (PySem.W.instObj C s.heap.objs.size)).get? (s.heap.objs.size+1)=some (PySem.W.instObj C s.heap.objs.size):=by
  have:=Ni (s.heap.push PySem.W.emptyDict) (o:=PySem.W.instObj C s.heap.objs.size) rfl
  rwa [NT]at this
 have e3:(s.heap.push PySem.W.emptyDict).Ns s.heap.objs.size (fun _=>none):=⟨PySem.W.emptyDict,#[],_,e1,rfl,(fun e he=>absurd he (by simp)),fun _=>rfl⟩
 have I1:=I.laid (a:=s.heap.objs.size) (o:=.own (s.heap.objs.size+1)) (h':=s.heap.push PySem.W.emptyDict) (t':=s.toks) (fun b u q=>Nc _ q) (Ny _) ⟨_,e1⟩
 refine I1.laid (a:=s.heap.objs.size+1) (o:=.ins C s.heap.objs.size []) (t':=s.toks) (fun b u q=>Nc _ q) (QE (NT _ _)) ?_
 have ne:s.heap.objs.size≠s.heap.objs.size+1:=NC (Qu _)
 refine⟨by rw[g6 ne,i6],Oa _,ne,e2,fun _=>none,(Heap.Ns1.of_empty e3).at fun o q=>Nc _ q,fun _=>True.intro,fun y hy=>absurd rfl hy⟩
end
section
variable {X:Cx} {o e value:Expr} {f:Str} {pos pos' tpos:Pos} {ta tv:TE}
end
section
variable {X:Cx} {pins:List (Addr × Obj)} {σ:St} {H:Hp} {s:Shared} {A:Around} {E:Value→Shared→Prop} {Q:Value→Shared→Prop} {c:Value} {b:Bool}
inductive cK (K:Nd) (H:Hp):V→Value→Prop where
 | non:cK K H .non (.type "NoneType")
 | bl (x:Bool):cK K H (.bl x) (.type "bool")
 | int (i:Int):cK K H (.int i) (.type "int")
 | str (x:Str):cK K H (.str x) (.type "str")
 | flt (x:UInt64):cK K H (.flt x) (.type "float")
 | lst {a:Addr} {xs:List V} (e:H a=some (.lst xs)):cK K H (.ref a) (.type "list")
 | frz {a:Addr} {o:Obj} {xs:List V} (e:H a=some (.frz o (.lst xs))):cK K H (.ref a) (.type "list")
 | tup {a:Addr} {xs:List V} (e:H a=some (.tup xs)):cK K H (.ref a) (.type "tuple")
 | dK {a:Addr} {kvs:List (Key × V)} (e:H a=some (.dK kvs)):cK K H (.ref a) (.type "dict")
 | dT {a:Addr} {kvs:List (List Key × V)} (e:H a=some (.dT kvs)):cK K H (.ref a) (.type "dict")
 | ins {a C dx:Addr} {fs:List (Str × V)} (e:H a=some (.ins C dx fs)) (cl:Cls K C) (ha:PySem.W.findIn K (.ref C) "__class__" = some (some (.builtin "object.__class__")))
   (hn:PySem.W.specialIn K (.builtin "object.__class__") "__get__" = some (some (.builtin "getset_descriptor.__get__"))) (htk:PySem.W.takesIn K (.builtin "object.__class__")=some true)
   (hm:PySem.W.mroIn K C (.type "object")=some true):cK K H (.ref a) (.ref C)
theorem P3{x:V}{u t:Value}(I:Inv X pins σ H s)(rx:q9 x u)(ty:cK X.K H x t)(e:PySem.W.kitOne X.K t c=some b)(h:∀ tk,Q (.bool b) { s with toks:=tk }) :
  wpAny (model X.prog X.w) A (call (.builtin "isinstance") [u,c]) Q E s:=by
 cases ty with
 | non=>cases(show u=Value.none from rx);exact PySem.W.kia_one PySem.W.kitx_none I.kIn True.intro e (fun z=>nomatch z) h
 | bl y=>cases(show u=Value.bool y from rx);exact PySem.W.kia_one PySem.W.kitx_bool I.kIn True.intro e (fun z=>nomatch z) h
 | int i=>obtain⟨t,q⟩:=(show ∃ t,u=Value.int i t from rx);cases q;exact PySem.W.kia_one PySem.W.kitx_int I.kIn True.intro e (fun z=>nomatch z) h
 | str y=>obtain⟨t,q⟩:=(show ∃ t,u=Value.str y t from rx);cases q;exact PySem.W.kia_one PySem.W.kitx_str I.kIn True.intro e (fun z=>nomatch z) h
 | flt y=>obtain⟨t,q⟩:=(show ∃ t,u=Value.float y t from rx);cases q;exact PySem.W.kia_one PySem.W.kitx_float I.kIn True.intro e (fun z=>nomatch z) h
 | @lst a xs ea =>
  cases(show u=Value.ref a from rx)
  obtain⟨_,_,n,_,h1⟩:=(show B4 X.prog X.w H s.heap a (.lst xs)from I.hok a _ ea)
  exact PySem.W.kia_one PySem.W.kitx_list I.kIn ⟨_,h1,rfl⟩ e (fun z=>nomatch z) h
 | @frz a ob xs ea =>
  cases(show u=Value.ref a from rx)
  obtain⟨_,_,_,n,_,h1⟩:=(show B4 X.prog X.w H s.heap a (.frz ob (.lst xs))from I.hok a _ ea)
  exact PySem.W.kia_one PySem.W.kitx_list I.kIn ⟨_,h1,rfl⟩ e (fun z=>nomatch z) h
 | @tup a xs ea =>
  cases(show u=Value.ref a from rx)
  obtain⟨_,_,_,p⟩:=(show B4 X.prog X.w H s.heap a (.tup xs)from I.hok a _ ea)
  obtain⟨o,h1,h2,_⟩:=p
  exact PySem.W.kia_one PySem.W.kitx_tuple I.kIn ⟨o,h1,h2⟩ e (fun z=>nomatch z) h
 | @dK a kvs ea =>
  cases(show u=Value.ref a from rx)
  obtain⟨_,_,vs,_,p⟩:=(show B4 X.prog X.w H s.heap a (.dK kvs)from I.hok a _ ea)
  obtain⟨o,es,ep,h1,h2,_⟩:=p
  exact PySem.W.kia_one PySem.W.kitx_dict I.kIn ⟨o,h1,h2.1⟩ e (fun z=>nomatch z) h
 | @dT a kvs ea =>
  cases(show u=Value.ref a from rx)
  obtain⟨_,_,xs,_,o,es,ep,h1,h2,_⟩:=(show B4 X.prog X.w H s.heap a (.dT kvs)from I.hok a _ ea)
  exact PySem.W.kia_one PySem.W.kitx_dict I.kIn ⟨o,h1,h2.1⟩ e (fun z=>nomatch z) h
 | @ins a C dx fs ea cl ha hn htk hm =>
  cases(show u=Value.ref a from rx)
  obtain⟨mA,O,_⟩:=BX I.hok ea
  obtain⟨od,J,_⟩:=O.look
  exact PySem.W.kia_one (PySem.W.kitx_own (cl.get _) cl.hd ha hn htk hm) I.kIn J e (fun z=>nomatch z) h
end
structure J8(k:Nat)(A:Around):Prop where
 hd:A.handled=none
 dp:A.depth+3*k+5<recursionLimit
 un:A.units+16*k+200<cLine
theorem J8.mono{j k:Nat}{A:Around}(r:J8 k A)(h:j≤k):J8 j A:=⟨r.hd,by have:=r.dp;omega,by have:=r.un;omega⟩
theorem J8.deeper{k:Nat}{A:Around}(r:J8 (k+1) A)(env:Env):J8 k (A.deeper env) :=
 ⟨r.hd,by have:=r.dp;show A.depth+1+3*k+5<_;omega,by have:=r.un;show A.units+3+16*k+200<_;omega⟩
theorem J8.in1{k:Nat}{A:Around}(r:J8 (k+1) A):J8 k A.in1 :=
 ⟨r.hd,by have:=r.dp;show A.depth+3*k+5<_;omega,by have:=r.un;show A.units+1+16*k+200<_;omega⟩
theorem J8.depth{k:Nat}{A:Around}(r:J8 k A):A.depth<recursionLimit:=by have:=r.dp;omega
theorem J8.units{k:Nat}{A:Around}(r:J8 k A):A.units+64<cLine:=by have:=r.un;omega
def Jw:TA:=fun _ H Q=>Q [] H
def HC(ta:TE)(tr:TA):TA:=fun σ H Q=>ta σ H fun x H1=>tr σ H1 fun xs H2=>Q (x :: xs) H2
section
variable {X:Cx} {e:Expr} {es:List Expr} {te:TE} {t:TA} {pos:Pos}
theorem FE:PA X [] Jw:=fun _ _ _ _ H Q I h=>Calls.spliced_nil ⟨[],H,I,.nil,h⟩
theorem Bn(ha:PE X e te)(hr:PA X es t)(hs:starEach (e :: es) X.env=(false,eval e X.env) :: starEach es X.env:=by rfl):PA X (e :: es) (HC te t):=by
 intro pos pins s σ H Q I h
 rw[hs]
 show wpAny _ _ (spliced ((false,eval e X.env) :: backTo pos (starEach es X.env))) _ _ s
 refine Calls.spliced_cons (thn (ha pins s σ H _ I h) fun u s1 zz=>?_)
 obtain⟨x,H1,I1,r1,q1⟩:=zz
 exact thn (hr pos pins s1 σ H1 _ I1 q1) fun us s2 ⟨xs,H2,I2,r2,q2⟩=>⟨x :: xs,H2,I2,.cons r1 r2,q2⟩
def Jq(t:TA):TE:=fun σ H Q=>t σ H fun xs H1=>xs.length≤sizeLine∧∀ p,H1 p=none→Q (.ref p) (upd H1 p (.tup xs))
def Jx(t:TA):TE:=fun σ H Q=>t σ H fun xs H1=>xs.length≤sizeLine∧∀ p,H1 p=none→Q (.ref p) (upd H1 p (.lst xs))
theorem Fu{x1}(h:PA X es t):PE X (.Tuple es x1 pos) (Jq t):=by
 intro pins s σ H Q I hq
 refine wpAny_Tuple_spliced (thn (h pos pins s σ H _ I hq) fun us s1 ⟨xs,H1,I1,r,z,q⟩=>⟨by rw[← r.length];exact z,?_⟩)
 have hf:H1 s1.heap.objs.size=none:=I1.hok.fresh (Ny _)
 refine⟨.ref s1.heap.objs.size,upd H1 s1.heap.objs.size (.tup xs),I1.laid (t':=s1.toks) (fun b u e=>Nc _ e) (Ny _) ?_,rfl,q _ hf⟩
 exact⟨z,us,r,⟨_,Ni _ rfl,rfl,_,rfl⟩⟩
theorem wV(h:PA X es t):PE X (.List es pos) (Jx t):=by
 intro pins s σ H Q I hq
 refine wpAny_List_spliced (thn (h pos pins s σ H _ I hq) fun us s1 ⟨xs,H1,I1,r,z,q⟩=>⟨by rw[← r.length];exact z,?_⟩)
 have hf:H1 s1.heap.objs.size=none:=I1.hok.fresh (Ny _)
 refine⟨.ref s1.heap.objs.size,upd H1 s1.heap.objs.size (.lst xs),I1.laid (t':=s1.toks) (fun b u e=>Nc _ e) (Ny _) ?_,rfl,q _ hf⟩
 exact⟨z,us,0,r,Ni _ rfl⟩
end
noncomputable abbrev Sp:=List V→Hp→VK→XK→Prop
noncomputable abbrev CXT:=List Env→Hp→Shared→XK→Value→Shared→Prop
structure qs(P:Program)(w:World)(K:Nd)(mg:Str→Option Value)(base:Heap)(A:Around)(outer:List Env)(s:Shared)(H:Hp):Prop where
 frames:A.frames=some outer
 mod:Mod K mg base
 bs:∀ b o,base.get? b=some o→s.heap.get? b=some o∧H b=none
 bsz:base.objs.size≤s.heap.objs.size
 funs:s.heap.FunFrames base outer
 frf:∀ b∈frs outer,H b=none
 hok:HOk P w H s.heap
 bare:AllBare s.gens
def CE(outer:List Env)(P:Program)(w:World)(H:Hp)(s:Shared)(Q:VK)(u:Value)(s':Shared):Prop :=
 ∃ v H',s'.os=s.os∧AllBare s'.gens∧Un (frs outer) [] H H' s.heap s'.heap∧HOk P w H' s'.heap∧q9 v u∧Q v H'
def CR(CX:CXT)(outer:List Env)(P:Program)(w:World)(H:Hp)(s:Shared)(Q:VK)(E:XK)(r:Result)(s':Shared):Prop :=
 match r with
 | .ok (.ret u)=>CE outer P w H s Q u s'
 | .ok _=>False
 | .error e=>CX outer H s E e s'
structure T2(P:Program)(w:World)(K:Nd)(mg:Str→Option Value)(base:Heap)(CX:CXT)(k:Nat)(f:Addr)(fd:FuncData)(ps:List Str)(sp:Sp):Prop where
 len:∀ vs H Q E,sp vs H Q E→vs.length=ps.length
 run:∀(A:Around) (outer:List Env) (s:Shared) (H:Hp) (args:Args) (us:List Value) (vs:List V) (Q:VK) (E:XK),J8 k A→qs P w K mg base A outer s H→BindsTo s fd args (ps.zip us)→j6 vs us→sp vs H Q E →
  codeAny (model P w) A (.call (.ref f) args) (CR CX outer P w H s Q E) s
theorem T2.mono{P:Program}{w:World}{K:Nd}{mg:Str→Option Value}{base:Heap}{CX:CXT}{j k:Nat}{f:Addr}{fd:FuncData}{ps:List Str}{sp:Sp}(F:T2 P w K mg base CX j f fd ps sp)(h:j≤k) :
  T2 P w K mg base CX k f fd ps sp:=⟨F.len,fun A outer s H args us vs Q E hr=>F.run A outer s H args us vs Q E (hr.mono h)⟩
theorem T2.imp{P:Program}{w:World}{K:Nd}{mg:Str→Option Value}{base:Heap}{CX:CXT}{k:Nat}{f:Addr}{fd:FuncData}{ps:List Str}{sp sp':Sp}(F:T2 P w K mg base CX k f fd ps sp)
  (h:∀ vs H Q E,sp' vs H Q E→sp vs H Q E):T2 P w K mg base CX k f fd ps sp' :=
 ⟨fun vs H Q E q=>F.len vs H Q E (h _ _ _ _ q),fun A outer s H args us vs Q E hr he hb hv hs=>F.run A outer s H args us vs Q E hr he hb hv (h _ _ _ _ hs)⟩
theorem qs.in1{P:Program}{w:World}{K:Nd}{mg:Str→Option Value}{base:Heap}{A:Around}{outer:List Env}{s:Shared}{H:Hp}(e:qs P w K mg base A outer s H) :
  qs P w K mg base A.in1 outer s H:=⟨e.frames,e.mod,e.bs,e.bsz,e.funs,e.frf,e.hok,e.bare⟩
section
variable {X:Cx} {pins:List (Addr × Obj)} {σ:St} {H:Hp} {s s':Shared}
theorem Inv.env0(I:Inv X pins σ H s):qs X.prog X.w X.K X.mg X.base X.A X.stack s H :=
 ⟨I.ok.frames,I.ok.mod,I.bs,Nr I.ok.bsz I.sz,I.stack,I.stkFree,I.hok,I.bare⟩
theorem Inv.after{Q:VK}{u:Value}(I:Inv X pins σ H s)(h:CE X.stack X.prog X.w H s Q u s'):EP X pins σ Q u s':=by
 obtain⟨v,H',os,bare,un,hok,r,q⟩:=h
 obtain⟨hh,g,d,t,os'⟩:=s'
 obtain rfl:os'=s.os:=os
 exact⟨v,H',I.call (h':=hh) (g':=g) (d':=d) (t':=t) (ch:=[]) un hok bare (fun b z=>absurd z (by simp)),r,q⟩
end
def HD(sp:Sp)(dvs:List V)(E:XK)(t:TA):TE:=fun σ H Q=>t σ H fun vs H1=>sp (vs++dvs) H1 Q E
def fu(K:Nd)(fd:FuncData)(ps:List Str)(ds:List Value):Prop :=
 ∀(s:Shared) (us:List Value),K.In s.heap→(us++ds).length=ps.length→BindsTo s fd ⟨us,[]⟩ (ps.zip (us++ds))
theorem fu.all{K:Nd}{fd:FuncData}{ps:List Str}(h:∀ us:List Value,us.length=ps.length→bindArgs fd ⟨us,[]⟩=pure (ps.zip us)):fu K fd ps []:=fun s us _ hl=>by
 rw[Pk]at hl ⊢
 exact .of_eq (h us hl)
def lB(CX:CXT)(X:Cx)(E:XK):Prop:=∀(pins:List (Addr × Obj)) (σ:St) (H:Hp) (s:Shared) (e:Value) (s':Shared),Inv X pins σ H s→CX X.stack H s E e s'→X.xe e s'
section
variable {X:Cx} {CX:CXT} {k:Nat} {f C:Addr} {fd:FuncData} {ps:List Str} {sp:Sp} {dvs:List V} {ds:List Value} {E:XK} {x m:Str} {p pos apos:Pos} {e o:Expr} {es:List Expr} {ta:TE} {t:TA}
theorem EW{pins:List (Addr × Obj)}{σ:St}{H:Hp}{s:Shared}{Q:VK}{us:List Value}{vs:List V}(F:T2 X.prog X.w X.K X.mg X.base CX k f fd ps sp)(hr:J8 k X.A)(hb:fu X.K fd ps ds)(hd:j6 dvs ds)(hx:lB CX X E)
  (I:Inv X pins σ H s) (r:j6 vs us) (h:sp (vs++dvs) H Q E):wpAny (model X.prog X.w) X.A (call (.ref f) us) (EP X pins σ Q) X.xe s:=by
 have r2:j6 (vs++dvs) (us++ds):=r.append hd
 have hl:(us++ds).length=ps.length:=by rw[← r2.length];exact F.len _ _ _ _ h
 refine wpAny_call (codeAny_mono (F.run X.A X.stack s H ⟨us,[]⟩ (us++ds) (vs++dvs) Q E hr I.env0 (hb s us I.kIn hl) r2 h) fun r s' hq=>?_)
 cases r with
 | error e=>exact hx pins σ H s e s' I hq
 | ok fl =>
  cases fl with
  | ret u=>exact I.after hq
  | next=>exact False.elim hq
  | brk=>exact False.elim hq
  | cont=>exact False.elim hq
theorem Bl(F:T2 X.prog X.w X.K X.mg X.base CX k f fd ps sp)(hr:J8 k X.A)(hg:Gl X x)(hm:X.mg x=some (.ref f))(hk:PySem.W.keepIn X.K (.ref f)=true)(hb:fu X.K fd ps ds)(hd:j6 dvs ds)(hx:lB CX X E)
  (ha:PA X (e :: es) t) (hdb:(x == ("__debug__" : Str))=false:=by decide) (he:starEach (e :: es) X.env=(false,eval e X.env) :: starEach es X.env:=by rfl) (hpl:(backTo pos (starEach es X.env)).any (·.1)=false:=by rfl) :
  PE X (.Call (.Name x p) (e :: es) [] pos) (HD sp dvs E t):=by
 intro pins s σ H Q I h
 refine wpAny_Call_Name_kw (so I hg hm ?_ hdb)
 refine PySem.W.callWith_K (h₀:=X.base) I.ok.mod.kin hk (thn (ha pos pins s σ H _ I h) fun us s1 ⟨vs,H1,I1,r,q⟩=>⟨I1.kIn,?_⟩) he hpl
 exact EW F hr hb hd hx I1 r q
end
section
variable {X:Cx} {CX:CXT} {k:Nat} {f C:Addr} {fd:FuncData} {ps ks:List Str} {sp:Sp} {E:XK} {x m:Str} {p pos apos kpos:Pos} {e o:Expr} {es:List Expr} {kws:List Keyword} {te ta:TE} {t tk:TA} {nm:Option Str}
variable {g:List Value→List Value→List Value} {gV:List V→List V→List V}
end
structure f6(N P:List Str)(sc:Scope):Prop where
 kind:sc.kind = .function
 co:sc.isCoroutine=false
 gen:sc.isGenerator=false
 nd:N.Nodup
 pre:N.take P.length=P
 par:∀ x∈P,sc.names.lookup x=some .local∨sc.names.lookup x=some .cell
 nofree:∀ y∈sc.names,y.2 ≠ .free
theorem iK{kindOf:Str→Option NameKind}{x:Str}:∀{binds:List (Str × Value)} {m:Str→Option Value},(∀ v,(x,v)∉binds)→bindL kindOf binds m x=m x
 | [],_,_=>rfl
 | (n,v) :: r,m,h=>by
  unfold bindL
  rw[iK fun w hw=>h w (Nj _ hw)]
  split
  ·have:x≠n:=by rintro rfl;exact h v Nk
   simp[this]
  ·rfl
theorem iM{kindOf:Str→Option NameKind}{x:Str}:∀{binds:List (Str × Value)} {m:Str→Option Value},(∀ v,(x,v)∉binds)→bindC kindOf binds m x=m x
 | [],_,_=>rfl
 | (n,v) :: r,m,h=>by
  unfold bindC
  rw[iM fun w hw=>h w (Nj _ hw)]
  split
  ·rfl
  ·have:x≠n:=by rintro rfl;exact h v Nk
   simp[this]
theorem iL{kindOf:Str→Option NameKind}{x:Str}{v:Value}:∀{P:List Str} {vs:List Value} {i:Nat} {m:Str→Option Value},P.Nodup→P[i]? = some x→vs[i]? = some v→kindOf x=some .local →
  bindL kindOf (P.zip vs) m x=some v
 | [],_,_,_,_,h,_,_=>by simp at h
 | _ :: _,[],_,_,_,_,h,_=>by simp at h
 | p :: P,w :: vs,0,m,nd,h1,h2,hk=>by
  simp at h1 h2;subst h1;subst h2
  show bindL kindOf ((p,w) :: P.zip vs) m p=_
  unfold bindL
  rw[iK fun v hv=>(PM.mp nd).1 (PN hv).1,if_pos hk]
  simp
 | p :: P,w :: vs,i+1,m,nd,h1,h2,hk=>by
  show bindL kindOf ((p,w) :: P.zip vs) m x=_
  unfold bindL
  exact iL (i:=i) (PM.mp nd).2 (by simpa using h1) (by simpa using h2) hk
theorem iN{kindOf:Str→Option NameKind}{x:Str}{v:Value}:∀{P:List Str} {vs:List Value} {i:Nat} {m:Str→Option Value},P.Nodup→P[i]? = some x→vs[i]? = some v→kindOf x≠some .local →
  bindC kindOf (P.zip vs) m x=some v
 | [],_,_,_,_,h,_,_=>by simp at h
 | _ :: _,[],_,_,_,_,h,_=>by simp at h
 | p :: P,w :: vs,0,m,nd,h1,h2,hk=>by
  simp at h1 h2;subst h1;subst h2
  show bindC kindOf ((p,w) :: P.zip vs) m p=_
  unfold bindC
  rw[iM fun v hv=>(PM.mp nd).1 (PN hv).1,if_neg hk]
  simp
 | p :: P,w :: vs,i+1,m,nd,h1,h2,hk=>by
  show bindC kindOf ((p,w) :: P.zip vs) m x=_
  unfold bindC
  exact iN (i:=i) (PM.mp nd).2 (by simpa using h1) (by simpa using h2) hk
noncomputable def start(N:List Str)(vs:List V):St:=vs.map some++OS (N.length - vs.length) none
noncomputable def qg(CX:CXT)(P:Program)(w:World)(K:Nd)(mg:Str→Option Value)(base:Heap)(N:List Str)(qual:Str)(scope:Scope)(f:Addr)(cd:Value)(A:Around)(outer:List Env)(s:Shared)(H:Hp)(E:XK):Cx where
 prog:=P
 w:=w
 K:=K
 mg:=mg
 base:=base
 A:=A.deeper (envOfC qual scope s.heap.objs.size f cd)
 N:=N
 s₀:=s
 H₀:=H
 env:=envOfC qual scope s.heap.objs.size f cd
 outer:=outer
 stack:=envOfC qual scope s.heap.objs.size f cd :: outer
 ex:=[]
 calm:=true
 fn:=fun _=>true
 pn:=[]
 xe:=fun e s'=>wpAny (model P w) (A.deeper (envOfC qual scope s.heap.objs.size f cd)) (leaving (envOfC qual scope s.heap.objs.size f cd) e) (fun _ s''=>CX outer H s E e s'') (fun e' s''=>CX outer H s E e' s'') s'
theorem oy{sc:Scope}{n:Nat}{x:Str}(h:sc.names.lookup x=some .cell):∃ c,(cellsFrom n sc.names []).lookup x=some c:=by
 have q:=PySem.W.cellsFrom_some sc.names n [] (.inl h)
 exact Option.isSome_iff_exists.mp q
theorem tZ{CX:CXT}{P:Program}{w:World}{K:Nd}{mg:Str→Option Value}{base:Heap}{N ps:List Str}{qual:Str}{scope:Scope}{f:Addr}{cd:Value}{A:Around}{outer:List Env}{s s1:Shared}{H:Hp}{E:XK}{us:List Value}{vs:List V}
  (S:f6 N ps scope) (hd:A.handled=none) (e0:qs P w K mg base A outer s H) (hl:vs.length=ps.length) (r:j6 vs us)
  (x:InCallC s s.heap.objs.size (bindL (envOfC qual scope s.heap.objs.size f cd).kindOf (ps.zip us) fun _=>none) (cellsFrom (s.heap.objs.size+1) scope.names []) (bindC (envOfC qual scope s.heap.objs.size f cd).kindOf (ps.zip us) fun _=>none) s1) :
  Inv (qg CX P w K mg base N qual scope f cd A outer s H E) [] (start N vs) H s1:=by
 have hpl:ps.length≤N.length:=by have:=congrArg RB S.pre;rw[NU]at this;omega
 obtain⟨h1,tk,rfl,hk⟩:=x.done
 have noA:∀ b:Addr,b∉(qg CX P w K mg base N qual scope f cd A outer s H E).ex:=fun b z=>absurd (show b∈([]:List Addr)from z) (by simp)
 refine⟨⟨e0.mod,S.kind,rfl,rfl,Ny _,fun y z c h1 h2=>?_,fun y hy=>?_,fun y c _ h=>?_,fun _=>hd,Around.frames_deeper e0.frames,.inr ⟨rfl,rfl⟩,fun b z=>absurd z (noA b),e0.bs,e0.bsz,fun b _ _=>noA b,fun b z=>absurd z (noA b),e0.funs,e0.frf⟩,
  rfl,e0.bare,Un.kept hk,⟨_,x.toInCall.ns,fun i y v h1 h2 h3=>?_⟩,fun y c h=>⟨_,x.cell y c h⟩,e0.hok.fresh (Ny _),fun y c h=>?_,fun p hp=>absurd (show p∈([]:List (Addr × Obj))from hp) (by simp),e0.hok.kept hk,?_⟩
 ·exact name_of_addr x.apart (PySem.mem_of_lookup h1) (PySem.mem_of_lookup h2)
 ·have hy:scope.names.lookup y=some .cell∨scope.names.lookup y=some .free:=hy
  rcases hy with hy|hy
  ·exact oy hy
  ·exact absurd rfl (S.nofree _ (PySem.mem_of_lookup hy))
 ·exact Ou (x.above y c (PySem.mem_of_lookup h))
 ·have hi:i<vs.length:=by
   unfold start at h2
   by_cases hi:i<vs.length
   ·exact hi
   ·rw[Qa (by simpa using hi)]at h2
    rw[Oy]at h2
    split at h2<;>cases h2
  have ha:vs[i]? = some v:=by
   unfold start at h2
   rw[Qe (by simpa using hi),ND]at h2
   cases e:vs[i]? with
   | none=>rw[e]at h2;cases h2
   | some a=>rw[e]at h2;cases h2;rfl
  obtain⟨u,hu,rv⟩:=r.get ha
  have hp:ps[i]? = some y:=by
   rw[← S.pre,List.getElem?_take_of_lt (by omega)];exact h1
  have ndP:ps.Nodup:=by rw[← S.pre];exact S.nd.sublist (List.take_sublist _ _)
  refine⟨u,rv,?_⟩
  rcases S.par y (Nq hp)with k|k
  ·exact .inl ⟨k,iL ndP hp hu k⟩
  ·obtain⟨c,e⟩:=oy (n:=s.heap.objs.size+1) k
   refine .inr ⟨.inl k,c,e,?_⟩
   have q:=x.cell y c e
   rw[iN ndP hp hu (by show scope.names.lookup y≠_;rw[k];decide)]at q
   exact q
 ·exact e0.hok.fresh (Ou (x.above y c (PySem.mem_of_lookup h)))
 ·unfold start
  show _=N.length
  rw[NX,Nm,Px]
  omega
theorem IC{CX:CXT}{P:Program}{w:World}{K:Nd}{mg:Str→Option Value}{base:Heap}{k:Nat}{f:Addr}{name qual:Str}{params:Arguments}{body:List Stmt}{scope:Scope}{dV kV doc pm cdv ct oc:Value}{an od:Option Addr}
  {osl:Array (Option Value)} {N ps:List Str} {sp:Sp} (lk:K.lookup f=some ⟨oc,od,.func (PySem.W.fnOf name qual params body scope dV kV doc pm an cdv ct),osl⟩) (hcd:PySem.W.codeIn K cdv qual=true) (S:f6 N ps scope)
  (len:∀ vs H Q E,sp vs H Q E→vs.length=ps.length)
  (hbody:∀(A:Around) (outer:List Env) (s:Shared) (H:Hp) (vs:List V) (Q:VK) (E:XK),J8 k (A.deeper (envOfC qual scope s.heap.objs.size f cdv))→sp vs H Q E →
   ∃ t,PSs (qg CX P w K mg base N qual scope f cdv A outer s H E) body t∧t { nx:=fun _ H'=>Q .non H',rt:=Q } (start N vs) H) :
  T2 P w K mg base CX (k+1) f (PySem.W.fnOf name qual params body scope dV kV doc pm an cdv ct) ps sp:=by
 refine⟨len,fun A outer s H args us vs Q E hr e0 hb r hsp=>?_⟩
 have hl:=len _ _ _ _ hsp
 have KX:K.In s.heap:=e0.mod.kin.keeps fun b o e=>(e0.bs b o e).1
 have lim:s.heap.NoLimit:=e0.mod.nolimit.keeps fun b o e=>(e0.bs b o e).1
 have hkind:∀ y∈ps.zip us,scope.names.lookup y.1=some .local∨(scope.names.lookup y.1=some .cell∧((cellsFrom (s.heap.objs.size+1) scope.names []).lookup y.1).isSome=true):=fun⟨n,v⟩ hy=>by
  rcases S.par n (PN hy).1 with q|q
  ·exact .inl q
  ·exact .inr ⟨q,PySem.W.cellsFrom_some _ _ _ (.inl q)⟩
 refine codeAny_call_function hr.depth (KX _ _ lk) rfl S.co S.gen rfl (PySem.W.codeRec_of KX hcd) (hb _ _ _ _ ?_)
 refine wpAny_newFunctionEnv_cells S.kind hkind fun env he s1 x=>?_
 subst he
 refine⟨lim.keeps x.toInCall.keep,codeAny_func ?_⟩
 obtain⟨t,ht,hq⟩:=hbody A outer s H vs Q E (hr.deeper _) hsp
 have I:Inv (qg CX P w K mg base N qual scope f cdv A outer s H E) [] (start N vs) H s1:=tZ S hr.hd e0 hl r x
 refine wpAny_mono (ht [] s1 (start N vs) H _ I hq) (fun fl s' hs=>?_) fun e s' hs=>hs
 have fin:∀{σ':St} {H':Hp} {v:V} {u:Value},Inv (qg CX P w K mg base N qual scope f cdv A outer s H E) [] σ' H' s'→q9 v u→Q v H'→CE outer P w H s Q u s' :=
  fun{σ' H' v u} J rv q=>⟨v,H',J.os,J.bare,J.base,J.hok,rv,q⟩
 cases fl with
 | ret u =>
  obtain⟨v,σ',H',J,rv,q⟩:=hs
  exact fin J rv q
 | next =>
  obtain⟨σ',H',J,q⟩:=hs
  exact fin (v:=V.non) (u:=Value.none) J rfl q
 | brk =>
  obtain⟨_,_,_,q⟩:=hs
  exact False.elim q
 | cont =>
  obtain⟨_,_,_,q⟩:=hs
  exact False.elim q
section
variable {X:Cx} {x:Str} {p pos:Pos} {e:Expr} {es:List Expr} {t:TA} {id T:String} {r:List V→Hp→VK→Prop}
def tCB(r:List V→Hp→VK→Prop)(t:TA):TE:=fun σ H Q=>t σ H fun vs H1=>r vs H1 Q
theorem wY(hc:v9 X (.builtin id) r)(hg:Gl X x)(hm:X.mg x=none)(hv:bootBuiltins x=some (.builtin id))(ha:PA X (e :: es) t)(hn:x ≠ "__name__" := by decide)(hdb:(x == ("__debug__" : Str))=false:=by decide)
  (he:starEach (e :: es) X.env=(false,eval e X.env) :: starEach es X.env:=by rfl) (hpl:(backTo pos (starEach es X.env)).any (·.1)=false:=by rfl):PE X (.Call (.Name x p) (e :: es) [] pos) (tCB r t):=by
 intro pins s σ H Q I h
 refine wpAny_Call_Name_kw (O3 I hg hm hv ?_ hn hdb)
 exact PyProof.Rows.callWith_builtin1 (thn (ha pos pins s σ H _ I h) fun us s1 ⟨vs,H1,I1,r1,q1⟩=>hc pins s1 σ H1 vs us Q I1 r1 q1) he hpl
theorem ip(hc:v9 X (.type T) r)(hg:Gl X x)(hm:X.mg x=none)(hv:bootBuiltins x=some (.type T))(ha:PA X (e :: es) t)(hn:x ≠ "__name__" := by decide)(hdb:(x == ("__debug__" : Str))=false:=by decide)
  (he:starEach (e :: es) X.env=(false,eval e X.env) :: starEach es X.env:=by rfl) (hpl:(backTo pos (starEach es X.env)).any (·.1)=false:=by rfl):PE X (.Call (.Name x p) (e :: es) [] pos) (tCB r t):=by
 intro pins s σ H Q I h
 refine wpAny_Call_Name_kw (O3 I hg hm hv ?_ hn hdb)
 exact PyProof.Rows.callWith_type1 (thn (ha pos pins s σ H _ I h) fun us s1 ⟨vs,H1,I1,r1,q1⟩=>hc pins s1 σ H1 vs us Q I1 r1 q1) he hpl
end
end L2
namespace HT
open PySem PyProof.Rows
section
open PySem.SeqAt
open PySem.AutoSeq1 (wpAny_loadPart')
open PySem.MeetsSeq PySem.MeetsSeq2 PySem.MeetsSeq3
end
section
variable {prog:Program} {w:World} {A:Around} {E:Value→Shared→Prop} {s:Shared}
noncomputable def sIx(n d:Nat):Option Int→Nat
 | none=>d
 | some v=>if v<0 then(v+(n:Int)).toNat else min v.toNat n
theorem wt(n d:Nat):sIx n d none=d:=rfl
theorem AJ(n d k:Nat):sIx n d (some (k:Int))=min k n:=by
 show(if (k:Int)<0 then((k:Int)+(n:Int)).toNat else min (k:Int).toNat n)=min k n
 rw[if_neg (by omega),NI]
theorem ES(n d:Nat)(hd:d≤n)(o:Option Int):sIx n d o≤n:=by
 cases o with
 | none=>exact hd
 | some v =>
  show(if v<0 then(v+(n:Int)).toNat else min v.toNat n)≤n
  by_cases hv:v<0
  ·rw[if_pos hv];omega
  ·rw[if_neg hv];exact PC _ _
theorem sR(v:Int)(n d:Nat):(if v<0 then max (v+(n:Int)) 0 else min v (n:Int))=((sIx n d (some v):Nat):Int):=by
 show(if v<0 then max (v+(n:Int)) 0 else min v (n:Int))=(((if v<0 then(v+(n:Int)).toNat else min v.toNat n):Nat):Int)
 by_cases hv:v<0
 ·simp only[if_pos hv];omega
 ·simp only[if_neg hv];omega
theorem qo(lo hi:Option Int)(n:Nat):Builtin.Slice.sliceAdjust lo hi 1 (n:Int)=(((sIx n 0 lo:Nat):Int),((sIx n n hi:Nat):Int)):=by
 have h1:¬ ((1:Int)<0):=by omega
 unfold Builtin.Slice.sliceAdjust
 simp only[h1,if_false]
 refine Prod.ext ?_ ?_
 ·cases lo with
  | none=>rfl
  | some v=>exact sR v n 0
 ·cases hi with
  | none=>rfl
  | some v=>exact sR v n n
theorem pN(i j:Nat):Builtin.Slice.slicePlaces (i:Int) (j:Int) 1=j - i:=by
 unfold Builtin.Slice.slicePlaces
 have h1:(1:Int) > 0:=by omega
 simp only[h1,if_true,Int.ediv_one]
 split<;>omega
theorem eC{v:Value}{o:Option Int}{Q:Option Int→Shared→Prop}(p:IsPart v o)(h:Q o s):wpAny (model prog w) A (Builtin.Slice.slicePartIndex v) Q E s:=by
 cases p with
 | none=>exact slicePart_none h
 | int i t=>exact slicePart_int h
theorem bC{sl:Addr}{vl vu:Value}{lo hi:Option Int}{n:Nat}{Q:Int × Int × Nat→Shared→Prop}(hs:s.heap.IsSliceOf sl vl vu .none)(pl:IsPart vl lo)(pu:IsPart vu hi)
  (h:Q (((sIx n 0 lo:Nat):Int),1,sIx n n hi - sIx n 0 lo) s):wpAny (model prog w) A (Builtin.Slice.sliceApplied (.ref sl) (pure (n:Int))) Q E s:=by
 obtain⟨os,hos,hcs,hds⟩:=id hs
 unfold Builtin.Slice.sliceApplied Builtin.Slice.sliceFields
 refine Nb (Nb (wpAny_field hos hds (x:=vl) rfl (Nb (wpAny_field hos hds (x:=vu) rfl (Nb (wpAny_field hos hds (x:=.none) rfl (Ng ?_)))))))
 refine Nb (slicePart_none ?_)
 show wpAny _ _ (if ((1:Int) == 0)=true then _ else _) _ _ s
 rw[if_neg (by decide)]
 refine Nb (eC pl (Nb (eC pu (Nb (Ng ?_)))))
 show wpAny _ _ (match Builtin.Slice.sliceAdjust lo hi 1 (n:Int)with|(lo,hi)=>pure (lo,(1:Int),Builtin.Slice.slicePlaces lo hi 1)) _ _ s
 rw[qo lo hi n]
 show wpAny _ _ (pure (((sIx n 0 lo:Nat):Int),(1:Int),Builtin.Slice.slicePlaces ((sIx n 0 lo:Nat):Int) ((sIx n n hi:Nat):Int) 1)) _ _ s
 rw[pN]
 exact Ng h
theorem wQ(xs:Array Value)(i k:Nat):((OC k).filterMap fun(m:Nat)=>xs[((i:Int)+(m:Int)*1).toNat]?).toArray=((xs.toList.drop i).take k).toArray:=by
 have e:(fun(m:Nat)=>xs[((i:Int)+(m:Int)*1).toNat]?)=fun m=>xs[i+m]?:=by
  funext m
  have:((i:Int)+(m:Int)*1).toNat=i+m:=by omega
  rw[this]
 rw[e]
 have:=pick_run xs i k
 rw[List.filterMap_map]at this
 have e2:((fun x=>xs[x]?) ∘ fun x=>i+x)=fun m=>xs[i+m]?:=rfl
 rw[e2]at this
 rw[this]
theorem bg{t sl:Addr}{items:Array Value}{vl vu:Value}{lo hi:Option Int}{Q:Value→Shared→Prop}(ht:IsTup s.heap t items)(hs:s.heap.IsSliceOf sl vl vu .none)(pl:IsPart vl lo)(pu:IsPart vu hi)
  (hw:¬ (sIx items.size 0 lo=0∧sIx items.size items.size hi=items.size))
  (h:Q (.ref s.heap.objs.size) { s with heap:=s.heap.push { cls:=.type "tuple",data:=.seq ((items.toList.drop (sIx items.size 0 lo)).take (sIx items.size items.size hi - sIx items.size 0 lo)).toArray } })
  (hsz:items.size≤sizeLine):wpAny (model prog w) A (getItem (.ref t) (.ref sl)) Q E s:=by
 have htake:sizeOk (.seq ((items.toList.drop (sIx items.size 0 lo)).take (sIx items.size items.size hi - sIx items.size 0 lo)).toArray):=by
  show((items.toList.drop (sIx items.size 0 lo)).take (sIx items.size items.size hi - sIx items.size 0 lo)).toArray.size≤sizeLine
  rw[NA,NU,OD,Array.length_toList]
  omega
 have hj:sIx items.size items.size hi≤items.size:=ES _ _ (Ny _) hi
 obtain⟨os,hos,hcs,hds⟩:=id hs
 have hTs:s.TypeIs (.ref sl) "slice" := ⟨os,hos,hcs⟩
 unfold getItem
 try with_reducible refine wpAny_holding ?_
 first|refine Nb (Ng ?_)|skip
 refine Nb (wpAny_sequenceKey ht.typeIs (by decide) ?_)
 refine Nb (wpAny_callSpecial?_slot (name:=Str.ofString "__getitem__") ht.typeIs PyProof.Rows.slot_tuple_getitem
  (wpAny_call_entry PyProof.Rows.slot_tuple_getitem ht.typeIs entry_tuple_getitem ?_ (args_tuple_getitem _ _)))
 show wpAny _ _ (Builtin.Tuple.tupleItemsOf (.ref t) >>= _) _ _ s
 refine Nb (tupleItemsOf_ ht ?_)
 refine Nb (wpAny_typeOf hTs ?_)
 rw[if_pos (by decide)]
 refine Nb (bC hs pl pu ?_)
 have hno:¬ ((((sIx items.size 0 lo:Nat):Int) == 0 && (1:Int) == 1 && (sIx items.size items.size hi - sIx items.size 0 lo) == items.size)=true):=by
  intro q
  rw[NP,NP]at q
  have q1:((sIx items.size 0 lo:Nat):Int)=0:=eq_of_beq q.1.1
  have q2:sIx items.size items.size hi - sIx items.size 0 lo=items.size:=eq_of_beq q.2
  exact hw ⟨by omega,by omega⟩
 show wpAny _ _ (if (((sIx items.size 0 lo:Nat):Int) == 0 && (1:Int) == 1 && (sIx items.size items.size hi - sIx items.size 0 lo) == items.size)=true then _ else _) _ _ s
 rw[if_neg hno,wQ]
 first
  | exact Nb (m:=Builtin.Tuple.tupleExact _) (wpAny_newObj_type (Ng ⟨_,rfl,Ng h⟩) htake)
  | exact Nb (m:=Builtin.Tuple.tupleExact _) (wpAny_newObj_type (Nb (Ng (Ng ⟨_,rfl,Ng h⟩))) htake)
  | exact Nb (Nb (m:=Builtin.Tuple.tupleExact _) (wpAny_newObj_type (Ng (Ng ⟨_,rfl,Ng h⟩)) htake))
  | exact Nb (Nb (m:=Builtin.Tuple.tupleExact _) (wpAny_newObj_type (Ng ⟨_,rfl,Ng h⟩) htake))
end
end HT
namespace L2
open PySem PySem.Spec PyProof.Rows
noncomputable abbrev TO:=St→Hp→(Option Int→Hp→Prop)→Prop
def PO(X:Cx)(e:Option Expr)(t:TO):Prop :=
 ∀(pins:List (Addr × Obj)) (s:Shared) (σ:St) (H:Hp) (Q:Option Int→Hp→Prop),Inv X pins σ H s→t σ H Q →
  wpAny (model X.prog X.w) X.A (evalPart e X.env) (fun u s'=>∃ o H',Inv X pins σ H' s'∧IsPart u o∧Q o H') X.xe s
def Ax:TO:=fun _ H Q=>Q none H
def Hw(t:TE):TO:=fun σ H Q=>t σ H fun x H1=>∃ i,x = .int i∧Q (some i) H1
section
variable {X:Cx} {e:Expr} {te:TE} {lo hi:Option Expr} {tl th:TO} {pos p2:Pos}
theorem Bb:PO X none Ax:=by
 intro pins s σ H Q I h
 rw[evalPart_none]
 exact Ng ⟨none,H,I,.none,h⟩
theorem Ba(h:PE X e te):PO X (some e) (Hw te):=by
 intro pins s σ H Q I hw
 rw[evalPart_some]
 refine thn (h pins s σ H _ I hw) fun u s1 zz=>?_
 obtain⟨x,H1,I1,r1,q1⟩:=zz
 obtain⟨i,rfl,q⟩:=q1
 obtain⟨t,rfl⟩:=r1
 exact⟨some i,H1,I1,.int i t,q⟩
def SlR(X:Cx)(r:V→Option Int→Option Int→Hp→VK→Prop):Prop :=
 ∀(pins:List (Addr × Obj)) (s:Shared) (σ:St) (H:Hp) (x:V) (v vl vu:Value) (lo hi:Option Int) (sl:Addr) (Q:VK),Inv X pins σ H s→q9 x v→s.heap.IsSliceOf sl vl vu .none→IsPart vl lo→IsPart vu hi→r x lo hi H Q →
  ∃ T id,typeLookup (.type T) "__getitem__" = pure (some (.builtin id))∧s.TypeIs v T∧wpAny (model X.prog X.w) X.A (getItem v (.ref sl)) (EP X pins σ Q) X.xe s
theorem SlR.or{r r':V→Option Int→Option Int→Hp→VK→Prop}(h:SlR X r)(h':SlR X r'):SlR X (fun x lo hi H Q=>r x lo hi H Q∨r' x lo hi H Q):=by
 intro pins s σ H x v vl vu lo hi sl Q I rx hs pl pu q
 rcases q with q|q
 ·exact h pins s σ H x v vl vu lo hi sl Q I rx hs pl pu q
 ·exact h' pins s σ H x v vl vu lo hi sl Q I rx hs pl pu q
def tSl(r:V→Option Int→Option Int→Hp→VK→Prop)(te:TE)(tl th:TO):TE:=fun σ H Q=>te σ H fun x H1=>tl σ H1 fun l H2=>th σ H2 fun u H3=>r x l u H3 Q
theorem nA{r:V→Option Int→Option Int→Hp→VK→Prop}(hr:SlR X r)(he:PE X e te)(hl:PO X lo tl)(hu:PO X hi th):PE X (.Subscript e (.Slice lo hi none p2) pos) (tSl r te tl th):=by
 intro pins s σ H Q I h
 refine Subscript_ (thn (he pins s σ H _ I h) fun v s1 zz=>?_)
 obtain⟨x,H1,I1,r1,q1⟩:=zz
 refine wpAny_Slice (thn (hl pins s1 σ H1 _ I1 q1) fun vl s2 ⟨l,H2,I2,pl,q2⟩=>thn (hu pins s2 σ H2 _ I2 q2) fun vu s3 zz=>?_)
 obtain⟨u,H3,I3,pu,q3⟩:=zz
 rw[evalPart_none]
 refine Ng ?_
 have I4:Inv X pins σ H3 { s3 with heap:=s3.heap.push { cls:=.type "slice",data:=.fields #[vl,vu,.none] } }:=I3.kept (t':=s3.toks) fun b ob q=>Nc _ q
 obtain⟨T,id,hT,ht,hg⟩:=hr pins { s3 with heap:=s3.heap.push { cls:=.type "slice",data:=.fields #[vl,vu,.none] } } σ H3 x v vl vu l u s3.heap.objs.size Q I4 r1 (Heap.IsSliceOf.new ..) pl pu q3
 show wpAny (model X.prog X.w) X.A (subscriptTail e (.Slice lo hi none p2) v (.ref s3.heap.objs.size)) (EP X pins σ Q) X.xe { s3 with heap:=s3.heap.push { cls:=.type "slice",data:=.fields #[vl,vu,.none] } }
 exact tail_any (ops:=[.ref s3.heap.objs.size,v]) ht hT hg (by with_unfolding_all rfl)
noncomputable def om(xs:List V)(lo hi:Option Int):List V:=(xs.drop (HT.sIx xs.length 0 lo)).take (HT.sIx xs.length xs.length hi - HT.sIx xs.length 0 lo)
theorem cq(xs:List V)(lo hi:Option Int):(om xs lo hi).length≤xs.length:=by
 unfold om
 rw[NU,OD]
 omega
noncomputable def JD(K:Nd):V→Option Int→Option Int→Hp→VK→Prop:=fun x lo hi H Q=>∃ a xs,x = .ref a∧SqT K H a xs ∧
 ¬ (HT.sIx xs.length 0 lo=0∧HT.sIx xs.length xs.length hi=xs.length)∧∀ p,H p=none→Q (.ref p) (upd H p (.tup (om xs lo hi)))
theorem EJ:SlR X (JD X.K):=by
 intro pins s σ H x v vl vu lo hi sl Q I rx hs pl pu h
 obtain⟨a,xs,rfl,hx,hw,q⟩:=h
 cases rx
 obtain⟨its,r,ht,hz⟩:=I.tuple hx
 have hlen:its.toArray.size=xs.length:=by rw[NA];exact r.length.symm
 refine⟨"tuple",_,PyProof.Rows.slot_tuple_getitem.lookup,ht.typeIs,?_⟩
 refine HT.bg ht hs pl pu (by rw[hlen];exact hw) ?_ (by rw[hlen];exact hz)
 rw[hlen]
 refine⟨.ref s.heap.objs.size,_,I.laid (t':=s.toks) (o:=.tup (om xs lo hi)) (fun b ob q=>Nc _ q) (Ny _) ?_,rfl,q _ (I.hok.fresh (Ny _))⟩
 exact⟨Nr (cq xs lo hi) hz,_,(r.drop (HT.sIx xs.length 0 lo)).take (HT.sIx xs.length xs.length hi - HT.sIx xs.length 0 lo),IsTup.new _ _⟩
end
noncomputable def ixN(n:Nat)(i:Int):Option Nat:=if 0≤i then(if i<n then some i.toNat else none)else if -(n:Int)≤i then some (i+n).toNat else none
noncomputable def atI{α:Type}(xs:List α)(i:Int):Option α:=(ixN xs.length i).bind fun j=>xs[j]?
theorem sr{n:Nat}{i:Int}{j:Nat}(h:ixN n i=some j):seqIndex? i n=some j∧j<n∧-(n:Int)≤i∧i<n:=by
 unfold ixN at h
 by_cases h0:0≤i
 ·rw[if_pos h0]at h
  by_cases h1:i<n
  ·rw[if_pos h1]at h
   have e:i.toNat=j:=Option.some.inj h
   exact⟨by rw[seqIndex_of h0 h1,e],by omega,by omega,h1⟩
  ·rw[if_neg h1]at h;cases h
 ·rw[if_neg h0]at h
  by_cases h1:-(n:Int)≤i
  ·rw[if_pos h1]at h
   have e:(i+n).toNat=j:=Option.some.inj h
   exact⟨by rw[seqIndex_neg (by omega) h1,e],by omega,h1,by omega⟩
  ·rw[if_neg h1]at h;cases h
theorem sU{α:Type}{xs:List α}{i:Int}{v:α}(h:atI xs i=some v):∃ j,seqIndex? i xs.length=some j∧xs[j]? = some v∧j<xs.length∧-(xs.length:Int)≤i∧i<xs.length:=by
 unfold atI at h
 cases e:ixN xs.length i with
 | none=>rw[e]at h;cases h
 | some j =>
  rw[e]at h
  obtain⟨h1,h2,h3,h4⟩:=sr e
  exact⟨j,h1,h,h2,h3,h4⟩
theorem N5{α:Type}{xs:List α}{j:Nat}{v:α}(h:xs[j]? = some v):atI xs (j:Int)=some v:=by
 have hj:j<xs.length:=(Nw.mp h).1
 have e:ixN xs.length (j:Int)=some j:=by
  unfold ixN
  rw[if_pos (by omega),if_pos (by omega)];simp
 unfold atI;rw[e];exact h
def lA(b:Expr):Prop:=∀ o i,subscripted b false o i=operate [o,i] (getItem o i)
def IxR(X:Cx)(r:R2):Prop :=
 ∀(value slice:Expr) (pins:List (Addr × Obj)) (s:Shared) (σ:St) (H:Hp) (x y:V) (v u:Value) (Q:VK),Inv X pins σ H s→q9 x v→q9 y u→r x y H Q →
  subscripted slice false v u=operate [v,u] (getItem v u)→wpAny (model X.prog X.w) X.A (subscriptTail value slice v u) (EP X pins σ Q) X.xe s
def MtR(X:Cx)(id:String)(r:V→List V→Hp→VK→Prop):Prop :=
 ∀(pins:List (Addr × Obj)) (s:Shared) (σ:St) (H:Hp) (x:V) (xs:List V) (v:Value) (us:List Value) (Q:VK),Inv X pins σ H s→q9 x v→j6 xs us→r x xs H Q →
  wpAny (model X.prog X.w) X.A (call (.builtin id) (v :: us)) (EP X pins σ Q) X.xe s
section
variable {X:Cx} {a b:Expr} {ta tb:TE} {pos:Pos}
theorem IxR.or{r r':R2}(h:IxR X r)(h':IxR X r'):IxR X (fun x y H Q=>r x y H Q∨r' x y H Q):=by
 intro value slice pins s σ H x y v u Q I rx ry q hs
 rcases q with q|q
 ·exact h value slice pins s σ H x y v u Q I rx ry q hs
 ·exact h' value slice pins s σ H x y v u Q I rx ry q hs
theorem MtR.or{id:String}{r r':V→List V→Hp→VK→Prop}(h:MtR X id r)(h':MtR X id r'):MtR X id (fun x xs H Q=>r x xs H Q∨r' x xs H Q):=by
 intro pins s σ H x xs v us Q I rx rs q
 rcases q with q|q
 ·exact h pins s σ H x xs v us Q I rx rs q
 ·exact h' pins s σ H x xs v us Q I rx rs q
theorem HQ{r:R2}(hr:IxR X r)(ha:PE X a ta)(hb:PE X b tb)(hs:lA b):PE X (.Subscript a b pos) (tOp r ta tb):=by
 intro pins s σ H Q I h
 exact Subscript_ (Gx ha hb I h fun v u s2 x y H2 I2 rx ry q=>hr a b pins s2 σ H2 x y v u Q I2 rx ry q (hs _ _))
def JJ(K:Nd):R2:=fun x y H Q=>∃ p xs i v,x = .ref p∧y = .int i∧SqL K H p xs∧atI xs i=some v∧Q v H
def JH(K:Nd):R2:=fun x y H Q=>∃ p xs i v,x = .ref p∧y = .int i∧SqT K H p xs∧atI xs i=some v∧Q v H
theorem BV:IxR X (JJ X.K):=by
 intro value slice pins s σ H x y v u Q I rx ry h hs
 obtain⟨p,xs,i,z,rfl,rfl,hq,he,q⟩:=h
 cases rx
 obtain⟨t,rfl⟩:=ry
 obtain⟨its,r,pl,hz⟩:=I.list hq
 obtain⟨j,h1,h2,h3,h4,h5⟩:=sU he
 obtain⟨w,ew,rw'⟩:=r.get h2
 have hl:=r.length
 have hn:=kH
 have fin:EP X pins σ Q w s:=⟨z,H,I,rw',q⟩
 by_cases h0:0≤i
 ·have hj:i.toNat=j:=by
   rw[seqIndex_of h0 h5]at h1
   exact Option.some.inj h1
  exact item_listR pl.isList h0 (by omega) (by rw[hj];simpa using ew) fin hs
 ·have hj:(i+(its.toArray.size:Int)).toNat=j:=by
   rw[seqIndex_neg (by omega) h4]at h1
   rw[NA,← hl]
   exact Option.some.inj h1
  exact subscriptTail_builtinR (x:=w) pl.isList.typeIs slot_list_getitem.lookup
   (wpAny_getItem_list_neg (Q:=fun r s'=>r=w∧EP X pins σ Q r s') pl.isList (by omega) (by rw[NA]<;>omega) (by omega) (by rw[hj];simpa using ew) ⟨rfl,fin⟩) hs
theorem FZ:IxR X (JH X.K):=by
 intro value slice pins s σ H x y v u Q I rx ry h hs
 obtain⟨p,xs,i,z,rfl,rfl,hq,he,q⟩:=h
 cases rx
 obtain⟨t,rfl⟩:=ry
 obtain⟨its,r,pl,hz⟩:=I.tuple hq
 obtain⟨j,h1,h2,h3,h4,h5⟩:=sU he
 obtain⟨w,ew,rw'⟩:=r.get h2
 have hl:=r.length
 have hn:=kH
 have fin:EP X pins σ Q w s:=⟨z,H,I,rw',q⟩
 exact subscriptTail_builtinR (x:=w) pl.typeIs slot_tuple_getitem.lookup
  (getItem_tuple (j:=j) (Q:=fun r s'=>r=w∧EP X pins σ Q r s') pl (by omega) (by omega) (by rw[NA,← hl];exact h1) (by simpa using ew) ⟨rfl,fin⟩) hs
theorem pV(its:List Value)(n j:Nat)(u:Value):Obj.mapSeq (·.setIfInBounds j u) { cls:=.type "list",data:=.seq its.toArray n } = { cls:=.type "list",data:=.seq (its.set j u).toArray n }:=by
 simp[Obj.mapSeq]
theorem Inv.lst{pins:List (Addr × Obj)}{σ:St}{H:Hp}{s:Shared}{p:Addr}{xs:List V}(I:Inv X pins σ H s)(h:H p=some (.lst xs)) :
  ∃(its:List Value) (n:Nat),j6 xs its∧s.heap.get? p=some { cls:=.type "list",data:=.seq its.toArray n }∧xs.length≤sizeLine:=by
 obtain⟨z,its,n,r,e⟩:=I.hok p _ h
 exact⟨its,n,r,e,z⟩
theorem Inv.lstUpd{pins:List (Addr × Obj)}{σ:St}{H:Hp}{s:Shared}{p:Addr}{xs ys:List V}{its its':List Value}{n n':Nat}{f:Obj→Obj}(I:Inv X pins σ H s)(h:H p=some (.lst xs))
  (ho:s.heap.get? p=some { cls:=.type "list",data:=.seq its.toArray n }) (hf:f { cls:=.type "list",data:=.seq its.toArray n } = { cls:=.type "list",data:=.seq its'.toArray n' }) (r:j6 ys its') (hz:ys.length≤sizeLine) (t:Nat) :
  Inv X pins σ (upd H p (.lst ys)) { s with heap:=s.heap.update p f,toks:=t }:=by
 have e:(s.heap.update p f).get? p=some { cls:=.type "list",data:=.seq its'.toArray n' }:=by
  rw[Oi f ho (by rw[hf]<;>rfl),hf]
 refine I.write (x:=p) (e:=p) (by rw[h];trivial) (.inl rfl) (fun b u hb q=>(OA _ _ (Ne.symm hb)).trans q) ⟨_,e⟩ ?_
 exact⟨hz,its',n',r,e⟩
noncomputable def HL:V→V→V→Hp→(Hp→Prop)→Prop:=fun o i v H Q=>∃ p xs k j,o = .ref p∧i = .int k∧H p=some (.lst xs)∧ixN xs.length k=some j∧Q (upd H p (.lst (xs.set j v)))
theorem vT:Jj X HL:=by
 intro pins s σ H o i v ov iv u Q I ro ri rv h
 obtain⟨p,xs,k,j,rfl,rfl,hp,hj,q⟩:=h
 cases ro
 obtain⟨t,rfl⟩:=ri
 obtain⟨its,n,r,ho,hz⟩:=I.lst hp
 obtain⟨h1,h2,h3,h4⟩:=sr hj
 have hl:=r.length
 have hn:=kH
 have I':Inv X pins σ (upd H p (.lst (xs.set j v))) { s with heap:=s.heap.update p (Obj.mapSeq (·.setIfInBounds j u)) } :=
  I.lstUpd hp ho (pV its n j u) (r.set rv j) (by rw[RC];exact hz) s.toks
 by_cases h0:0≤k
 ·have hk:k.toNat=j:=by
   rw[seqIndex_of h0 h4]at h1
   exact Option.some.inj h1
  exact PySem.W.ki_setAt ho h0 (by omega) (by rw[NA,← hl];exact h4) (by rw[hk];exact⟨_,I',q⟩)
 ·have hk:(k+(its.toArray.size:Int)).toNat=j:=by
   rw[seqIndex_neg (by omega) h3]at h1
   rw[NA,← hl]
   exact Option.some.inj h1
  exact PySem.W.ki_setBack ho (by omega) (by rw[NA,← hl];exact h3) (by omega) (by rw[hk];exact⟨_,I',q⟩)
theorem jb(lo hi:Option Int)(n:Nat):(sliceBounds lo hi none n).1=((HT.sIx n 0 lo:Nat):Int)∧(sliceBounds lo hi none n).2.1=((HT.sIx n n hi:Nat):Int)∧(sliceBounds lo hi none n).2.2=1:=by
 refine⟨?_,?_,rfl⟩
 ·cases lo with
  | none=>simp[sliceBounds,HT.sIx]
  | some i =>
   simp only[sliceBounds,HT.sIx,Rv,show(1:Int) > 0 by decide,if_true]
   by_cases h:i<0
   ·simp only[h,if_true]<;>omega
   ·simp only[h,if_false]<;>omega
 ·cases hi with
  | none=>simp[sliceBounds,HT.sIx]
  | some i =>
   simp only[sliceBounds,HT.sIx,Rv,show(1:Int) > 0 by decide,if_true]
   by_cases h:i<0
   ·simp only[h,if_true]<;>omega
   ·simp only[h,if_false]<;>omega
theorem fF(its:List Value)(lo hi:Option Int):slicePick its.toArray lo hi none=((its.drop (HT.sIx its.length 0 lo)).take (HT.sIx its.length its.length hi - HT.sIx its.length 0 lo)).toArray:=by
 obtain⟨h1,h2,h3⟩:=jb lo hi its.toArray.size
 unfold slicePick
 rw[h1,h2,h3]
 simp only[sliceRange_one,pick_run,NA]<;>rfl
noncomputable def JF(K:Nd):V→Option Int→Option Int→Hp→VK→Prop:=fun x lo hi H Q=>∃ a xs,x = .ref a∧SqL K H a xs∧∀ p,H p=none→Q (.ref p) (upd H p (.lst (om xs lo hi)))
theorem rJ:SlR X (JF X.K):=by
 intro pins s σ H x v vl vu lo hi sl Q I rx hs pl pu h
 obtain⟨a,xs,rfl,hx,q⟩:=h
 cases rx
 obtain⟨its,r,ht,hz⟩:=I.list hx
 have hlen:=r.length
 refine⟨"list",_,slot_list_getitem.lookup,ht.isList.typeIs,?_⟩
 refine wpAny_getItem_list_slice ht.isList hs pl pu .none (by simp) ?_ (by rw[NA]<;>omega)
 rw[fF,← hlen]
 refine⟨.ref s.heap.objs.size,_,I.laid (t':=s.toks) (o:=.lst (om xs lo hi)) (fun b ob q=>Nc _ q) (Ny _) ?_,rfl,q _ (I.hok.fresh (Ny _))⟩
 exact⟨Nr (cq xs lo hi) hz,_,0,(r.drop (HT.sIx xs.length 0 lo)).take (HT.sIx xs.length xs.length hi - HT.sIx xs.length 0 lo),Ni _ rfl⟩
noncomputable def Y5:V→Bool
 | .non=>true
 | .bl _=>true
 | .int _=>true
 | .str _=>true
 | _=>false
noncomputable def eqV:V→V→Bool
 | .non,.non=>true
 | .bl a,.bl b=>a == b
 | .bl a,.int b=>(if a then 1 else 0) == b
 | .int a,.bl b=>a == (if b then 1 else 0)
 | .int a,.int b=>a == b
 | .str a,.str b=>a == b
 | _,_=>false
theorem Gf{A:Around}{s:Shared}{y x:V}{u v:Value}(ry:q9 y u)(rx:q9 x v)(fy:Y5 y=true)(fx:Y5 x=true):SeqAt.EqAt A s u v (eqV y x):=by
 cases y with
 | non =>
  cases ry
  cases x with
  | non=>cases rx;exact SeqAt.EqAt.same _
  | bl b=>cases rx;exact SeqAt.EqAt.none_bool b
  | int b=>obtain⟨t,rfl⟩:=rx;exact SeqAt.EqAt.none_int b t
  | str b=>obtain⟨t,rfl⟩:=rx;exact SeqAt.EqAt.none_str b t
  | _=>exact absurd (show false=true from fx) Nt
 | bl a =>
  cases ry
  cases x with
  | non=>cases rx;exact SeqAt.EqAt.bool_none a
  | bl b=>cases rx;exact SeqAt.EqAt.bool_bool a b
  | int b=>obtain⟨t,rfl⟩:=rx;exact SeqAt.EqAt.bool_int a b t
  | str b=>obtain⟨t,rfl⟩:=rx;exact SeqAt.EqAt.bool_str a b t
  | _=>exact absurd (show false=true from fx) Nt
 | int a =>
  obtain⟨t',rfl⟩:=ry
  cases x with
  | non=>cases rx;exact SeqAt.EqAt.int_none a t'
  | bl b=>cases rx;exact SeqAt.EqAt.int_bool a t' b
  | int b=>obtain⟨t,rfl⟩:=rx;exact SeqAt.EqAt.int_int a t' b t
  | str b=>obtain⟨t,rfl⟩:=rx;exact SeqAt.EqAt.int_str a t' b t
  | _=>exact absurd (show false=true from fx) Nt
 | str a =>
  obtain⟨t',rfl⟩:=ry
  cases x with
  | non=>cases rx;exact SeqAt.EqAt.str_none a t'
  | bl b=>cases rx;exact SeqAt.EqAt.str_bool a t' b
  | int b=>obtain⟨t,rfl⟩:=rx;exact SeqAt.EqAt.str_int a t' b t
  | str b=>obtain⟨t,rfl⟩:=rx;exact SeqAt.EqAt.str_str a t' b t
  | _=>exact absurd (show false=true from fx) Nt
 | _=>exact absurd (show false=true from fy) Nt
noncomputable def eqU(x:V)(u:Value):Bool:=match u with
 | .none=>eqV .non x
 | .bool b=>eqV (.bl b) x
 | .int i _=>eqV (.int i) x
 | .str z _=>eqV (.str z) x
 | _=>false
theorem xY{x y:V}{u:Value}(r:q9 y u)(f:Y5 y=true):eqU x u=eqV y x:=by
 cases y with
 | non=>cases r;rfl
 | bl b=>cases r;rfl
 | int i=>obtain⟨t,rfl⟩:=r;rfl
 | str z=>obtain⟨t,rfl⟩:=r;rfl
 | _=>exact absurd (show false=true from f) Nt
theorem lr{x:V}:∀{xs:List V} {us:List Value},j6 xs us→xs.all Y5=true→us.any (eqU x)=xs.any fun y=>eqV y x
 | _,_,.nil,_=>rfl
 | y :: xs,u :: us,.cons r t,f=>by
  rw[Qp,NP]at f
  rw[QZ,QZ,xY r f.1,lr t f.2]
theorem eX{A:Around}{s:Shared}{x:V}{v:Value}(rx:q9 x v)(fx:Y5 x=true):∀{xs:List V} {us:List Value},j6 xs us→xs.all Y5=true→∀ u∈us,SeqAt.EqAt A s u v (eqU x u)
 | _,_,.nil,_=>fun u hu=>by cases hu
 | y :: xs,u :: us,.cons r t,f=>fun u' hu=>by
  rw[Qp,NP]at f
  rcases Nh.mp hu with rfl|hu
  ·rw[xY r f.1];exact Gf r rx f.1 fx
  ·exact eX rx fx t f.2 u' hu
noncomputable def inV(x:V)(xs:List V):Bool:=xs.any fun y=>eqV y x
def rIn(K:Nd)(neg:Bool):R2:=fun x y H Q=>∃ p xs,y = .ref p∧(SqL K H p xs∨SqT K H p xs)∧Y5 x=true∧xs.all Y5=true∧Q (.bl (if neg then !inV x xs else inV x xs)) H
theorem tQ:OpR X (compareOp .In) (rIn X.K false):=by
 intro pins s σ H x y v u Q I rx ry h
 obtain⟨p,xs,rfl,hq,fx,fs,q⟩:=h
 cases ry
 rcases hq with hq|hq
 ·obtain⟨its,r,pl,hz⟩:=I.list hq
  refine SeqAt.in_listAt (eqU x) pl.isList (fun w hw=>eX rx fx r fs w (by simpa using hw)) ⟨.bl _,H,I,rfl,?_⟩
  rw[show its.toArray.any (eqU x)=its.any (eqU x)by simp,lr r fs]
  exact q
 ·obtain⟨its,r,pl,hz⟩:=I.tuple hq
  refine SeqAt.in_tupleAt (eqU x) pl (fun w hw=>eX rx fx r fs w (by simpa using hw)) ⟨.bl _,H,I,rfl,?_⟩
  rw[show its.toArray.any (eqU x)=its.any (eqU x)by simp,lr r fs]
  exact q
theorem kZ:v9 X (.builtin "len") (fun xs H Q=>∃ p ys,xs=[.ref p]∧(SqL X.K H p ys∨SqT X.K H p ys)∧Q (.int ys.length) H):=by
 intro pins s σ H xs us Q I r h
 obtain⟨p,ys,rfl,hq,q⟩:=h
 obtain⟨u,rfl,rx⟩:=hG r
 cases rx
 have hn:=kH
 rcases hq with hq|hq
 ·obtain⟨its,r',pl,hz⟩:=I.list hq
  have hlen:=r'.length
  exact Calls.call_len_list pl.isList (by simp only[NA]<;>omega) ⟨.int ys.length,H,I.tok _,⟨s.toks+1,by rw[NA,hlen]⟩,q⟩
 ·obtain⟨its,r',pl,hz⟩:=I.tuple hq
  have hlen:=r'.length
  exact len_tuple pl (by simp only[NA]<;>omega) ⟨.int ys.length,H,I.tok _,⟨s.toks+1,by rw[NA,hlen]⟩,q⟩
theorem v9.or{f:Value}{r r':List V→Hp→VK→Prop}(h:v9 X f r)(h':v9 X f r'):v9 X f (fun xs H Q=>r xs H Q∨r' xs H Q):=by
 intro pins s σ H xs us Q I rs q
 rcases q with q|q
 ·exact h pins s σ H xs us Q I rs q
 ·exact h' pins s σ H xs us Q I rs q
theorem kY:v9 X (.type "list") (fun xs H Q=>∃ p ys,xs=[.ref p]∧(SqL X.K H p ys∨SqT X.K H p ys)∧∀ l,H l=none→Q (.ref l) (upd H l (.lst ys))):=by
 intro pins s σ H xs us Q I r h
 obtain⟨p,ys,rfl,hq,q⟩:=h
 obtain⟨u,rfl,rx⟩:=hG r
 cases rx
 have fin:∀(its:List Value),j6 ys its→ys.length≤sizeLine→∀(h':Heap) (c':Nat),(∀ b o',s.heap.get? b=some o'→h'.get? b=some o') →
   h'.get? s.heap.objs.size=some { cls:=.type "list",dict:=none,data:=.seq its.toArray c',slots:=#[] }→EP X pins σ Q (.ref s.heap.objs.size) { s with heap:=h' }:=fun its r' hz h' c' kp e =>
  ⟨.ref s.heap.objs.size,_,I.laid (t':=s.toks) kp (Ny _) (show B4 X.prog X.w _ h' _ (.lst ys)from⟨hz,its,c',r',e⟩),rfl,q _ (I.hok.fresh (Ny _))⟩
 rcases hq with hq|hq
 ·obtain⟨its,r',pl,hz⟩:=I.list hq
  have hlen:=r'.length
  obtain⟨o,ho,hc,n,hd⟩:=pl.isList
  exact call_list_seq p (.inl rfl) ho hc hd (fun h' c' kp e=>fin its r' hz h' c' kp e) (by simp only[NA]<;>omega)
 ·obtain⟨its,r',pl,hz⟩:=I.tuple hq
  have hlen:=r'.length
  obtain⟨o,ho,hc,n,hd⟩:=pl
  exact call_list_seq p (.inr rfl) ho hc hd (fun h' c' kp e=>fin its r' hz h' c' kp e) (by simp only[NA]<;>omega)
theorem Y7:v9 X (.type "tuple") (fun xs H Q=>∃ p ys,xs=[.ref p]∧((SqL X.K H p ys∧∀ l,H l=none→Q (.ref l) (upd H l (.tup ys)))∨(SqT X.K H p ys∧Q (.ref p) H))):=by
 intro pins s σ H xs us Q I r h
 obtain⟨p,ys,rfl,h⟩:=h
 obtain⟨u,rfl,rx⟩:=hG r
 cases rx
 rcases h with⟨hq,q⟩|⟨hq,q⟩
 ·obtain⟨its,r',pl,hz⟩:=I.list hq
  have hlen:=r'.length
  refine call_tuple_list pl.isList (fun h' kp=>?_) (by simp only[NA]<;>omega)
  have I1:Inv X pins σ H { s with heap:=h' }:=I.kept (t':=s.toks) kp
  have I2:Inv X pins σ (upd H h'.objs.size (.tup ys)) { s with heap:=h'.push { cls:=.type "tuple",data:=.seq its.toArray } } :=
   I1.laid (t':=s.toks) (fun b o e=>Nc _ e) (Ny _) (show B4 X.prog X.w _ _ _ (.tup ys)from⟨hz,its,r',IsTup.new _ _⟩)
  exact⟨.ref h'.objs.size,_,I2,rfl,q _ (I1.hok.fresh (Ny _))⟩
 ·obtain⟨its,r',pl,hz⟩:=I.tuple hq
  exact call_tuple_same pl ⟨.ref p,H,I,rfl,q⟩
def tyV(K:Nd)(T:String)(x:V)(H:Hp):Prop:=match x with
 | .str _=>T = "str"
 | .int _=>T = "int"
 | .ref p=>(T = "list" ∧ ∃ xs,SqL K H p xs)∨(T = "tuple" ∧ ∃ o,K.lookup p=some o∧o.cls = .type "tuple" ∧ o.dict=none) ∨
   (T = "dict" ∧ ((∃ kvs,H p=some (.dK kvs)) ∨ ∃ kvs,H p=some (.dT kvs)))∨(T = "set" ∧ ∃ S n,H p=some (.set S n))
 | _=>False
theorem vG{pins:List (Addr × Obj)}{σ:St}{H:Hp}{s:Shared}{T:String}{x:V}{v:Value}(I:Inv X pins σ H s)(r:q9 x v)(ty:tyV X.K T x H) :
  s.TypeIs v T∧∀ a,v = .ref a→∃ ob,s.heap.get? a=some ob∧ob.dict=none:=by
 cases x with
 | str z =>
  obtain⟨t,rfl⟩:=r
  cases(show T = "str" from ty)
  exact⟨typeIs_str s z t,fun _ e=>nomatch e⟩
 | int i =>
  obtain⟨t,rfl⟩:=r
  cases(show T = "int" from ty)
  exact⟨typeIs_int s i t,fun _ e=>nomatch e⟩
 | ref p =>
  cases r
  rcases ty with⟨rfl,xs,hq⟩|⟨rfl,o,hk,hc,hd⟩|⟨rfl,hk⟩|⟨rfl,S,n,hk⟩
  ·obtain⟨its,_,pl,_⟩:=I.list hq
   refine⟨pl.isList.typeIs,fun a e=>?_⟩
   cases e
   obtain⟨o,n,e,c,hd,_⟩:=pl
   exact⟨o,e,hd⟩
  ·refine⟨⟨o,I.kIn p o hk,hc⟩,fun a e=>?_⟩
   cases e
   exact⟨o,I.kIn _ o hk,hd⟩
  ·have z:∃ o,s.heap.get? p=some o∧o.ExactDict:=by
    rcases hk with⟨kvs,hk⟩|⟨kvs,hk⟩
    ·obtain⟨_,_,_,_,o,_,_,e,ex,_⟩:=I.hok p _ hk
     exact⟨o,e,ex⟩
    ·obtain⟨_,_,_,_,o,_,_,e,ex,_⟩:=I.hok p _ hk
     exact⟨o,e,ex⟩
   obtain⟨o,e,ex⟩:=z
   refine⟨⟨o,e,ex.1⟩,fun a e2=>?_⟩
   cases e2
   exact⟨o,e,ex.2.1⟩
  ·obtain⟨o,_,_,_,e,ex,_⟩:=I.hok p _ hk
   refine⟨⟨o,e,ex.1⟩,fun a e2=>?_⟩
   cases e2
   exact⟨o,e,ex.2.1⟩
 | _=>exact False.elim ty
def JB(K:Nd)(T:String)(r:V→List V→Hp→VK→Prop)(to:TE):TE:=fun σ H Q=>to σ H fun x H1=>tyV K T x H1∧r x [] H1 Q
def tBM(K:Nd)(T:String)(r:V→List V→Hp→VK→Prop)(to:TE)(t:TA):TE:=fun σ H Q=>to σ H fun x H1=>tyV K T x H1∧t σ H1 fun xs H2=>r x xs H2 Q
variable {o e:Expr} {es:List Expr} {to:TE} {t:TA} {name:Str} {apos cpos:Pos} {T id:String} {r:V→List V→Hp→VK→Prop}
theorem FC(pa:PlainAttrs T)(slot:Slot T name id)(hty:typeOf (.builtin id)=pure (.type "method_descriptor"))(hm:MtR X id r)(ho:PE X o to)
  (hbase:attributeBase o name X.env (eval o X.env)=eval o X.env:=by rfl) (hline:(apos.endLine == cpos.line)=true:=by rfl):PE X (.Call (.Attribute o name apos) [] [] cpos) (JB X.K T r to):=by
 intro pins s σ H Q I h
 refine wpAny_Call_method0_late hbase hline (thn (ho pins s σ H _ I h) fun v s1 zz=>?_)
 obtain⟨x,H1,I1,r1,ty,q1⟩:=zz
 obtain⟨h1,h2⟩:=vG I1 r1 ty
 exact⟨T,id,pa,slot,hty,h1,h2,Calls.callWith_builtin rfl (PySem.evalArgs_none (hm pins s1 σ H1 x [] v [] Q I1 r1 .nil q1))⟩
theorem HR(pa:PlainAttrs T)(slot:Slot T name id)(hty:typeOf (.builtin id)=pure (.type "method_descriptor"))(hm:MtR X id r)(ho:PE X o to)(ha:PA X (e :: es) t)
  (hbase:attributeBase o name X.env (eval o X.env)=eval o X.env:=by rfl)
  (hfew:((backTo cpos (starEach (e :: es) X.env)).all (fun x=>!x.1) && (backToKw cpos (keywordEach [] X.env)).all (fun x=>x.1.isSome)
   && decide ((e :: es).length+([]:List Keyword).length+(if ([]:List Keyword).isEmpty then 0 else 1)<30))=true:=by rfl)
  (hline:(apos.endLine == cpos.line)=true:=by rfl) (hs:starEach (e :: es) X.env=(false,eval e X.env) :: starEach es X.env:=by rfl) (hplain:(backTo cpos (starEach es X.env)).any (·.1)=false:=by rfl) :
  PE X (.Call (.Attribute o name apos) (e :: es) [] cpos) (tBM X.K T r to t):=by
 intro pins s σ H Q I h
 refine wpAny_Call_method_late hbase hfew hline rfl (thn (ho pins s σ H _ I h) fun v s1 zz=>?_)
 obtain⟨x,H1,I1,r1,ty,q1⟩:=zz
 obtain⟨h1,h2⟩:=vG I1 r1 ty
 refine⟨T,id,pa,slot,hty,h1,h2,?_⟩
 have hA:=ha cpos pins s1 σ H1 _ I1 q1
 rw[hs]at hA ⊢
 refine Calls.callWith_builtin (by show(false || (backTo cpos (starEach es X.env)).any (·.1))=false;rw[hplain]<;>rfl) (Calls.evalArgs_plain ?_)
 exact thn hA fun us s2 ⟨vs,H2,I2,r2,q2⟩=>hm pins s2 σ H2 x vs v us Q I2 r1 r2 q2
end
def MtM(X:Cx)(id:String)(r:V→List V→Hp→VK→Prop):Prop :=
 ∀(pins:List (Addr × Obj)) (s:Shared) (σ:St) (H:Hp) (x:V) (xs:List V) (v:Value) (us:List Value) (Q:VK),Inv X pins σ H s→q9 x v→j6 xs us→r x xs H Q →
  wpAny (model X.prog X.w) X.A (call (.builtin id) (v :: us)) (EP X pins σ Q) X.xe s
theorem j6.one{x:V}{us:List Value}(h:j6 [x] us):∃ u,us=[u]∧q9 x u:=by
 cases h with|cons r t=>cases t;exact⟨_,rfl,r⟩
theorem j6.two{x y:V}{us:List Value}(h:j6 [x,y] us):∃ u v,us=[u,v]∧q9 x u∧q9 y v:=by
 cases h with|cons r t=>cases t with|cons q t2=>cases t2;exact⟨_,_,rfl,r,q⟩
theorem j6.zero:∀{us:List Value},j6 [] us→us=[]
 | _,.nil=>rfl
theorem j6.reverse{xs:List V}{us:List Value}(h:j6 xs us):j6 xs.reverse us.reverse:=by
 induction h with
 | nil=>exact .nil
 | cons r t ih=>rw[Rj,Rj];exact j6.append ih (.cons r .nil)
section
variable {X:Cx} {pins:List (Addr × Obj)} {σ:St} {H:Hp} {s:Shared} {l b:Addr} {xs ys zs:List V}
theorem Inv.lset{its its':List Value}{n:Nat}{f:Array Value→Array Value}{t':Nat}(I:Inv X pins σ H s)(hH:H l=some (.lst xs))
  (e:s.heap.get? l=some { cls:=.type "list",data:=.seq its.toArray n }) (hf:f its.toArray=its'.toArray) (hv:j6 ys its') (hz:ys.length≤sizeLine) :
  Inv X pins σ (upd H l (.lst ys)) { s with heap:=s.heap.update l (Obj.mapSeq f),toks:=t' }:=by
 have q:=PySem.IsL.update e f
 rw[hf]at q
 refine I.write (x:=l) (e:=l) (by rw[hH];exact trivial) (.inl rfl) (fun b' u hb hu=>(OA s.heap (Obj.mapSeq f) (Ne.symm hb)).trans hu) ⟨_,q⟩ ?_
 exact⟨hz,its',_,hv,q⟩
theorem Inv.lnew{its:List Value}{t':Nat}(I:Inv X pins σ H s)(hv:j6 ys its)(hz:ys.length≤sizeLine) :
  Inv X pins σ (upd H s.heap.objs.size (.lst ys)) { s with heap:=s.heap.push { cls:=.type "list",data:=.seq its.toArray },toks:=t' } :=
 I.laid (fun _ _ q=>Nc _ q) (Ny _) ⟨hz,its,0,hv,Ni _ rfl⟩
theorem Inv.fresh(I:Inv X pins σ H s):H s.heap.objs.size=none:=I.hok.fresh (Ny _)
theorem Inv.lstM(I:Inv X pins σ H s)(hH:H l=some (.lst xs)):xs.length≤sizeLine∧∃(its:List Value) (n:Nat),j6 xs its∧xs.length=its.length∧s.heap.get? l=some { cls:=.type "list",data:=.seq its.toArray n }:=by
 obtain⟨z,its,n,r,e⟩:=I.hok l _ hH
 exact⟨z,its,n,r,r.length,e⟩
end
section
variable {X:Cx}
noncomputable def rQ:V→List V→Hp→VK→Prop:=fun x vs H Q=>∃ l xs y,x = .ref l∧vs=[y]∧H l=some (.lst xs)∧xs.length<sizeLine∧Q .non (upd H l (.lst (xs++[y])))
theorem iu:MtM X "list.append" rQ:=by
 intro pins s σ H x vs v us Q I rx rv h
 obtain⟨l,xs,y,rfl,rfl,hH,hz,q⟩:=h
 cases rx
 obtain⟨u,rfl,ru⟩:=rv.one
 obtain⟨z,its,n,r,hl,e⟩:=I.lstM hH
 refine call_meets F.slot_list_append ⟨_,e,rfl⟩ F.entry_list_append (F.args_list_append_2 _ _) (PySem.list_append l its.toArray n u (by rw[NA];omega)) ⟨e,?_⟩
 refine⟨.non,_,I.lset (its':=its++[u]) hH e (by simp) (r.append (.cons ru .nil)) ?_,rfl,q⟩
 rw[NX,List.length_singleton]
 omega
end
section
variable {prog:Program} {w:World} {A:Around} {E:Value→Shared→Prop} {s:Shared}
end
section
variable {X:Cx}
end
end L2
namespace Att
open PySem PySem.W PySem.Calls PyProof.Rows
theorem cG{P:Params}{h:Heap}:∀(ns:List Int) (vs:List Value),WellAll P h vs (ns.map WData.int)→IntsAre vs ns:=by
 intro ns
 induction ns with
 | nil =>
  intro vs w
  rw[OU]at w
  cases w
  exact .nil
 | cons n ns ih =>
  intro vs w
  rw[NO]at w
  cases w with
  | cons a b =>
   cases a
   exact .cons _ _ (ih _ b)
theorem tH{l:OpenLaw}{n:Nat}(hn:l.most=some n){P:Params}{h:Heap}{args:List WData}{vals:List Value}
  (hpre:l.row.toRowW.claim.pre args=true) (hwl:WellAll P h vals args) :
  ∃ a vs ns,vals=[Value.ref a]∧args=[WData.list (ns.map WData.int)]∧h.get? a=some { cls:=.type "list",data:=.seq vs.toArray }∧IntsAre vs ns∧ns.length≤n:=by
 have hsh:WShape.hasAll [] args [.list .int]=true:=(pre_splitW hpre).1
 have hc:l.pre.holds [] { args:=args } = true:=(pre_splitW hpre).2
 obtain⟨d,r,rfl,h1,h2⟩:=hasAllW_cons hsh
 obtain rfl:=hasAllW_nil h2
 obtain⟨xs,rfl,h3⟩:=hasW_list h1
 obtain⟨ns,rfl⟩:=items_int h3
 have hlen:ns.length≤n:=by
  unfold OpenLaw.pre at hc
  have h4:(WTm.not (.lt (.lit (.int (n:Int))) (.len (.arg 0)))).holds [] { args:=[.list (ns.map .int)] } = true:=by
   have h4:=(holds_andW hc).1
   rw[hn]at h4
   exact h4
  have h5:=condW_of h4 (w_not (w_lt w_lit (w_len_list (w_arg rfl))))
  rw[Nm]at h5
  refine Nat.le_of_not_lt fun q=>?_
  have q':(n:Int)<((ns.length:Nat):Int):=by omega
  first
   | (rw[decide_eq_true q']at h5;exact absurd h5 (by decide))
   | (simp at h5;omega)
 cases hwl with
 | cons w1 w2 =>
  cases w2
  cases w1 with
  | list ho hall=>exact⟨_,_,ns,rfl,rfl,ho,cG ns _ hall,hlen⟩
theorem tN(l:OpenLaw)(args:List WData):l.row.toRowW.claim.post args (.bool true) args=true :=
 postW_of (r:=l.row.toRowW) (X:=(true == true))
  (show WShape.has [] (.bool true) .bool=true by first|rfl|decide|simp[WShape.has,WShape.arms,WShape.armsAll])
  (show(WTm.eq .res (.lit (.bool true))).value [] { args:=args,res:=some (.bool true),after:=args } = some (.bool (true == true))from w_eq_bool (w_res rfl) w_lit) rfl
theorem oA{l:OpenLaw}{n:Nat}{q:Program}{loose:List Str}{XP:(Str→Option Value)→Heap→Prop}{YP:World→Heap→Prop}{d:DefRec}
  (hn:l.most=some n) (hdf:d.params.defaults=[])
  (call:∀(w:World) (s₀ s₁:Shared) (mg mb:Str→Option Value) (fa:Addr) (o:Obj) (pm cd doc:Value) (a:Addr) (vs:List Value) (ns:List Int),
   Ground q loose [] XP w s₀ mg mb s₁.heap→YP w s₁.heap →
   s₁.heap.get? fa=some o→o.data = .func (docDef d.name d.params d.body d.scope pm cd doc)→s₁.heap.CodeRec cd d.name→mg d.name=some (.ref fa) →
   s₁.heap.get? a=some { cls:=.type "list",data:=.seq vs.toArray }→IntsAre vs ns→ns.length≤n→s₁.gens = #[] →
   codeAny (model l.prog w) callerA (.call (.ref fa) ⟨[.ref a],[]⟩) (fun r s'=>r = .ok (.ret (.bool true))∧OldK s₁.heap s'.heap∧s'.os=s₁.os∧AllBare s'.gens) s₁) :
  WalkO q loose XP YP l.row.toRowW d [] (fun f vs=>PySem.call f vs):=by
 intro w s₀ s₁ mg mb G Y fa o pm cd doc dV kV ho hd hcd hD hmg hg args vals as hpre hlay hrd hwl hlo
 obtain rfl:dV = .none:=Dflts.none hD hdf
 obtain rfl:kV = .none:=Dflts.noKw hD
 obtain⟨a,vs,ns,rfl,rfl,hobj,hints,hlen⟩:=tH hn hpre hwl
 refine enter_call (codeAny_mono (call w s₀ s₁ mg mb fa o pm cd doc a vs ns G Y ho (fd_plain hd) hcd hmg hobj hints hlen hg) fun r s' hq=>?_)
 obtain⟨rfl,h2,h3,h4⟩:=hq
 exact⟨.inl ⟨.bool true,.bool true,[],rfl,fun _=>rfl,.bool true,tN l _,fun _=>⟨List.Pairwise.nil,fun _ hm=>(nomatch hm)⟩⟩,h2,h3,h4⟩
section
variable {prog:Program} {w:World} {A:Around} {E:Value→Shared→Prop} {s:Shared} {K:Frag}
end
end Att
namespace L2
open PySem PySem.Spec PyProof.Rows
theorem bB:∀{vs:List Value} {ns:List Int},IntsAre vs ns→j6 (ns.map V.int) vs
 | _,_,.nil=>.nil
 | _,_,.cons n t h=>.cons ⟨t,rfl⟩ (bB h)
def uj(H:Hp):Prop:=∀ b,H b=none ∨ ∃ o xs,H b=some (.frz o (.lst xs))
theorem xt{P:Program}{w:World}{K:Nd}{mg mb:Str→Option Value}{CX:CXT}{k:Nat}{fa a:Addr}{fd:FuncData}{x:Str}{sp:Sp}{s₁:Shared}{vs:List Value}{ns:List Int}
  (KX:K.In s₁.heap) (hns:s₁.heap.Ns mainGlobals mg) (hb:s₁.heap.Ns builtinsNs mb) (hbb:∀ x:Str,x ≠ "__name__" → mb x=bootBuiltins x) (hlim:s₁.heap.NoLimit) (hg:s₁.gens = #[])
  (ha:s₁.heap.get? a=some { cls:=.type "list",data:=.seq vs.toArray }) (hi:IntsAre vs ns) (hl:ns.length≤sizeLine) (hr:J8 k callerA)
  (F:∀ base:Heap,K.In base→base.Ns mainGlobals mg→T2 P w K mg base CX k fa fd [x] sp) (hbind:∀(s:Shared) (u:Value),BindsTo s fd ⟨[u],[]⟩ [(x,u)])
  (hsp:∀ H:Hp,uj H→SqL K H a (ns.map V.int)→sp [.ref a] H (fun v _=>v = .bl true) fun _ _ _=>False)
  (hCX:∀ H e s',CX [] H s₁ (fun _ _ _=>False) e s'→False) :
  codeAny (model P w) callerA (.call (.ref fa) ⟨[.ref a],[]⟩) (fun r s'=>r = .ok (.ret (.bool true))∧OldK s₁.heap s'.heap∧s'.os=s₁.os∧AllBare s'.gens) s₁:=by
 have rv:=bB hi
 have lenV:=hi.length
 have core:∀ H:Hp,uj H→SqL K H a (ns.map V.int)→HOk P w H s₁.heap→(∀ b,H b≠none→b=a)→(H a≠none→K.lookup a=none) →
   codeAny (model P w) callerA (.call (.ref fa) ⟨[.ref a],[]⟩) (fun r s'=>r = .ok (.ret (.bool true))∧OldK s₁.heap s'.heap∧s'.os=s₁.os∧AllBare s'.gens) s₁:=by
  intro H hO hS hok hA hK
  have base_of:∀{b:Addr} {o:Obj},s₁.heap.get? b=some o→H b=none→(kL s₁.heap H).get? b=some o:=fun e n=>xI e n
  have noA:∀{b:Addr} {o:Obj} {es:Array DictEntry} {ep:Nat},s₁.heap.get? b=some o→o.data = .dict es ep→H b=none:=fun{b o es ep} e d=>by
   cases q:H b with
   | none=>rfl
   | some u =>
    have e':b=a:=hA b (by rw[q];simp)
    subst e'
    rw[ha]at e;cases e
    have d':Data.seq vs.toArray _=Data.dict es ep:=d
    cases d'
  have nsK:∀{b:Addr} {m:Str→Option Value},s₁.heap.Ns b m→(kL s₁.heap H).Ns b m:=fun{b m} ⟨o,es,ep,e,d,r⟩=>⟨o,es,ep,base_of e (noA e d),d,r⟩
  have hKb:K.In (kL s₁.heap H):=fun b o e=>base_of (KX b o e) (by
   cases q:H b with
   | none=>rfl
   | some u =>
    have e':b=a:=hA b (by rw[q];simp)
    subst e'
    rw[hK (by rw[q];simp)]at e;cases e)
  have hM:Mod K mg (kL s₁.heap H):=⟨hKb,nsK hns,⟨mb,nsK hb,hbb⟩,let ⟨mc,h1,h2⟩:=hlim;⟨mc,nsK h1,h2⟩⟩
  have e0:qs P w K mg (kL s₁.heap H) callerA [] s₁ H:=⟨rfl,hM,fun b o e=>BB e,QE (ua _ _),trivial,fun b hb=>absurd (show b∈([]:List Addr)from hb) (by simp),hok,.of_eq hg⟩
  refine codeAny_mono ((F _ hKb (nsK hns)).run callerA [] s₁ H ⟨[.ref a],[]⟩ [.ref a] [.ref a] _ _ hr e0 (hbind s₁ (.ref a)) (.cons rfl .nil) (hsp H hO hS)) fun r s' h=>?_
  cases r with
  | error e=>exact(hCX H e s' h).elim
  | ok fl =>
   cases fl with
   | next=>exact False.elim h
   | brk=>exact False.elim h
   | cont=>exact False.elim h
   | ret u =>
    obtain⟨v,H',os,bare,un,hok',r',q⟩:=h
    have q':v = .bl true:=q
    subst q'
    obtain rfl:u=Value.bool true:=r'
    refine⟨rfl,OldK.of_keep fun b o e=>?_,os,bare⟩
    cases q:H b with
    | none=>exact un.keep b o e q (by intro z;exact absurd (show b∈([]:List Addr)from z) (by simp)) (by simp)
    | some u =>
     rcases hO b with z|⟨ob,xs,z⟩
     ·rw[q]at z;cases z
     ·have z2:=un.frzs b ob _ z
      obtain⟨e1,_⟩:=hok b _ z
      obtain⟨e2,_⟩:=hok' b _ z2
      rw[e]at e1;cases e1
      exact e2
 cases hk:K.lookup a with
 | some o =>
  have e:=KX a o hk
  rw[ha]at e
  cases e
  refine core (fun _=>none) (fun _=>.inl rfl) (.inr ⟨_,vs.toArray,_,hk,rfl,rfl,rfl,by rw[NA,lenV];exact hl,by simpa using rv⟩) (fun b u z=>by have z':(none:Option HO)=some u:=z;cases z') (fun b z=>absurd rfl z) fun z=>absurd rfl z
 | none =>
  refine core (fun b=>if b=a then some (.frz { cls:=.type "list",data:=.seq vs.toArray } (.lst (ns.map V.int)))else none) (fun b=>?_) (.inl (.inr ⟨{ cls:=.type "list",data:=.seq vs.toArray },if_pos rfl⟩)) (fun b u z=>?_) (fun b z=>?_) fun _=>hk
  ·by_cases hb:b=a
   ·exact .inr ⟨_,_,if_pos hb⟩
   ·exact .inl (if_neg hb)
  ·by_cases hb:b=a
   ·have z':=(if_pos hb).symm.trans z
    cases z'
    subst hb
    exact⟨ha,by rw[Nm];exact hl,vs,_,rv,ha⟩
   ·have z':=(if_neg hb).symm.trans z
    cases z'
  ·by_cases hb:b=a
   ·exact hb
   ·exact absurd (if_neg hb) z
theorem As{l:PySem.W.OpenLaw}{n k:Nat}{q:Program}{loose:List Str}{XP:(Str→Option Value)→Heap→Prop}{YP:World→Heap→Prop}{d:DefRec}{K:Params→Nd}{CX:World→CXT}{sp:World→Sp}{x:Str}
  (hn:l.most=some n) (hn2:n≤sizeLine) (hdf:d.params.defaults=[]) (hr:J8 k callerA)
  (hY:∀(w:World) (h:Heap),YP w h→(K w.params).In h)
  (F:∀(w:World) (mg:Str→Option Value) (fa:Addr) (h:Heap),(K w.params).In h→h.Ns mainGlobals mg→mg d.name=some (.ref fa) →
   ∃ fd:FuncData,(∀(s:Shared) (u:Value),BindsTo s fd ⟨[u],[]⟩ [(x,u)]) ∧
    ∀ base:Heap,(K w.params).In base→base.Ns mainGlobals mg→T2 l.prog w (K w.params) mg base (CX w) k fa fd [x] (sp w))
  (hsp:∀(w:World) (H:Hp) (a:Addr) (ns:List Int),ns.length≤n→uj H→SqL (K w.params) H a (ns.map V.int)→sp w [.ref a] H (fun v _=>v = .bl true) fun _ _ _=>False)
  (hCX:∀(w:World) (H:Hp) (s:Shared) (e:Value) (s':Shared),CX w [] H s (fun _ _ _=>False) e s'→False) :
  PySem.W.WalkO q loose XP YP l.row.toRowW d [] (fun f vs=>PySem.call f vs):=by
 refine Att.oA hn hdf fun w s₀ s₁ mg mb fa o pm cd doc a vs ns G Y ho hd hcd hmg hobj hints hlen hg=>?_
 have KX:=hY w _ Y
 obtain⟨fd,hb,hF⟩:=F w mg fa _ KX G.T.g hmg
 exact xt KX G.T.g G.T.b G.T.builtins G.T.nolimit hg hobj hints (Nr hlen hn2) hr hF hb (fun H hO hS=>hsp w H a ns hlen hO hS) fun H e s'=>hCX w H s₁ e s'
theorem vC{l:PySem.W.OpenLaw}{n k:Nat}{q:Program}{loose:List Str}{XP:(Str→Option Value)→Heap→Prop}{YP:World→Heap→Prop}{d:DefRec}{K:Params→Nd}{CX:CXT}{sp:Nd→Sp}{x:Str}
  (hn:l.most=some n) (hn2:n≤sizeLine) (hdf:d.params.defaults=[]) (hr:J8 k callerA)
  (hY:∀(w:World) (h:Heap),YP w h→(K w.params).In h)
  (F:∀(w:World) (mg:Str→Option Value) (fa:Addr) (h:Heap),(K w.params).In h→h.Ns mainGlobals mg→mg d.name=some (.ref fa) →
   ∃ fd:FuncData,(∀(s:Shared) (u:Value),BindsTo s fd ⟨[u],[]⟩ [(x,u)]) ∧
    ∀ base:Heap,(K w.params).In base→base.Ns mainGlobals mg→T2 l.prog w (K w.params) mg base CX k fa fd [x] (sp (K w.params)))
  (hsp:∀(K:Nd) (H:Hp) (a:Addr) (ns:List Int),ns.length≤n→uj H→SqL K H a (ns.map V.int)→sp K [.ref a] H (fun v _=>v = .bl true) fun _ _ _=>False)
  (hCX:∀(H:Hp) (s:Shared) (e:Value) (s':Shared),CX [] H s (fun _ _ _=>False) e s'→False) :
  PySem.W.WalkO q loose XP YP l.row.toRowW d [] (fun f vs=>PySem.call f vs) :=
 As (K:=K) (CX:=fun _=>CX) (sp:=fun w=>sp (K w.params)) hn hn2 hdf hr hY F (fun w H a ns h1 h2 h3=>hsp (K w.params) H a ns h1 h2 h3) fun _ H s e s'=>hCX H s e s'
noncomputable def S4(s:Stmt):Arguments:=match s with
 | .FunctionDef _ a _ _ _ _ _ _ _ _=>a
 | _=>{ posonlyargs:=[],args:=[],vararg:=none,kwonlyargs:=[],kw_defaults:=[],kwarg:=none,defaults:=[] }
noncomputable def K5(s:Stmt):List Stmt:=match s with
 | .FunctionDef _ _ b _ _ _ _ _ _ _=>b
 | _=>[]
noncomputable def e6(s:Stmt):Scope:=match s with
 | .FunctionDef _ _ _ _ _ _ sc _ _ _=>sc
 | _=>{ kind:=.function,names:=[],isGenerator:=false,isCoroutine:=false }
abbrev CX0:CXT:=fun _ _ _ _ _ _=>False
abbrev E0:XK:=fun _ _ _=>False
theorem HU{X:Cx}:lB CX0 X E0:=fun _ _ _ _ _ _ _ h=>h.elim
section
variable {P:Program} {w:World} {K:Nd} {mg:Str→Option Value} {base:Heap}
end
section
variable {X:Cx}
theorem pv(i:Nat){x:Str}{pos:Pos}(hN:X.N[i]? = some x:=by rfl)(hv:Vis X.env.scope x:=by first|exact Or.inl rfl|exact Or.inr (Or.inl rfl)|exact Or.inr (Or.inr rfl))(hd:(x == ("__debug__" : Str))=false:=by decide)
  (hcd:(x == ("__classdict__" : Str))=false:=by decide):PE X (.Name x pos) (Hu i):=wU hN hv hd hcd
end
theorem Il{A B:Prop}(h:B):if false=true then A else B:=by
 rw[if_neg Nt]
 exact h
theorem Ij{A B:Prop}(h:A):if true=true then A else B:=by
 rw[if_pos rfl]
 exact h
end L2
end
namespace RM
open Rat
noncomputable def bl(n:Nat):Nat:=n.log2+1
theorem aX(n:Nat):n<2 ^ bl n:=Nat.lt_log2_self
theorem fk{n k:Nat}(h:n<2 ^ k)(hk:0<k):bl n≤k:=by
 unfold bl
 rcases Ra n with h0|h0
 ·subst h0;rw[Nat.log2_zero];omega
 ·have:=(QS (QT.mp h0)).mpr h
  omega
theorem ql(n:Nat):0<bl n:=Nat.succ_pos _
theorem lp{m n:Nat}(h:m≤n):bl m≤bl n:=fk (NK h (aX n)) (ql n)
theorem S6(m n:Nat):bl (m*n)≤bl m+bl n:=by
 refine fk ?_ (Nat.add_pos_left (ql m) _)
 rw[Og]
 exact Ov (aX m) (aX n)
theorem Gw(m n:Nat):bl (m+n)≤max (bl m) (bl n)+1:=by
 refine fk ?_ (Nat.succ_pos _)
 have h1:=aX m
 have h2:=aX n
 have e1:2 ^ bl m≤2 ^ max (bl m) (bl n):=Nl (by decide) (QF _ _)
 have e2:2 ^ bl n≤2 ^ max (bl m) (bl n):=Nl (by decide) (Qv _ _)
 rw[Om]
 omega
noncomputable def sz(q:Rat):Nat:=max (bl q.num.natAbs) (bl q.den)
theorem N6(q:Rat):bl q.num.natAbs≤sz q:=QF _ _
theorem G5(q:Rat):bl q.den≤sz q:=Qv _ _
theorem EH(q:Rat):0<sz q:=Nf (ql _) (N6 q)
theorem Dx{q:Rat}{n:Nat}(h1:bl q.num.natAbs≤n)(h2:bl q.den≤n):sz q≤n:=QL.mpr ⟨h1,h2⟩
theorem FQ(a b:Int):(divInt a b).num.natAbs≤a.natAbs:=by
 rw[num_divInt]
 rcases Int.lt_trichotomy b 0 with h|h|h
 ·rw[Qb h]
  refine Nr (Qg _ _) ?_
  simp
 ·subst h;simp
 ·rw[Qz h,Int.one_mul]
  exact Qg _ _
theorem Gi(a b:Int)(hb:b≠0):(divInt a b).den≤b.natAbs:=by
 rw[den_divInt,if_neg hb]
 exact OV _ _
theorem W4(a b:Int)(hb:b≠0):sz (divInt a b)≤max (bl a.natAbs) (bl b.natAbs) :=
 Dx (Nr (lp (FQ a b)) (QF _ _)) (Nr (lp (Gi a b hb)) (Qv _ _))
theorem u6(q:Rat):(q.den:Int)≠0:=by have:=q.den_nz;omega
theorem qp(q r:Rat):q+r=divInt (q.num*r.den+r.num*q.den) (q.den*r.den):=by
 conv=>lhs;rw[← num_divInt_den q,← num_divInt_den r]
 rw[divInt_add_divInt _ _ (u6 q) (u6 r)]
theorem pU(q r:Rat):q*r=divInt (q.num*r.num) (q.den*r.den):=by
 conv=>lhs;rw[← num_divInt_den q,← num_divInt_den r]
 rw[divInt_mul_divInt]
theorem yd(q r:Rat):q / r=divInt (q.num*r.den) (q.den*r.num):=by
 rw[div_def]
 conv=>lhs;rw[← num_divInt_den q,← num_divInt_den r]
 rw[inv_divInt,divInt_mul_divInt]
theorem eW(a b:Int):(a+b).natAbs≤a.natAbs+b.natAbs:=Pt a b
theorem C9(q r:Rat):sz (q+r)≤sz q+sz r+1:=by
 rw[qp]
 have hb:((q.den:Int)*(r.den:Int))≠0:=NY (u6 q) (u6 r)
 refine Nr (W4 _ _ hb) (QL.mpr ⟨?_,?_⟩)
 ·refine Nr (lp (eW _ _)) (Nr (Gw _ _) ?_)
  rw[NQ,NQ]
  have h1:=S6 q.num.natAbs (r.den:Int).natAbs
  have h2:=S6 r.num.natAbs (q.den:Int).natAbs
  have a1:=N6 q
  have a2:=N6 r
  have a3:=G5 q
  have a4:=G5 r
  simp only[Np]at h1 h2 ⊢
  omega
 ·rw[NQ]
  have h1:=S6 (q.den:Int).natAbs (r.den:Int).natAbs
  have a3:=G5 q
  have a4:=G5 r
  simp only[Np]at h1 ⊢
  omega
theorem j9(q r:Rat):sz (q*r)≤sz q+sz r:=by
 rw[pU]
 have hb:((q.den:Int)*(r.den:Int))≠0:=NY (u6 q) (u6 r)
 refine Nr (W4 _ _ hb) (QL.mpr ⟨?_,?_⟩)
 ·rw[NQ]
  have h1:=S6 q.num.natAbs r.num.natAbs
  have a1:=N6 q
  have a2:=N6 r
  omega
 ·rw[NQ]
  have h1:=S6 (q.den:Int).natAbs (r.den:Int).natAbs
  have a3:=G5 q
  have a4:=G5 r
  simp only[Np]at h1 ⊢
  omega
theorem T4(q:Rat):sz (-q)=sz q:=by
 unfold sz
 rw[Qq,QU,Oo]
theorem EG(q r:Rat):sz (q - r)≤sz q+sz r+1:=by
 rw[Rb]
 have:=C9 q (-r)
 rw[T4]at this
 exact this
theorem J5(q r:Rat)(hr:r≠0):sz (q / r)≤sz q+sz r:=by
 rw[yd]
 have hn:r.num≠0:=fun h=>hr (Pl.mp h)
 have hb:((q.den:Int)*r.num)≠0:=NY (u6 q) hn
 refine Nr (W4 _ _ hb) (QL.mpr ⟨?_,?_⟩)
 ·rw[NQ]
  have h1:=S6 q.num.natAbs (r.den:Int).natAbs
  have a1:=N6 q
  have a4:=G5 r
  simp only[Np]at h1 ⊢
  omega
 ·rw[NQ]
  have h1:=S6 (q.den:Int).natAbs r.num.natAbs
  have a3:=G5 q
  have a2:=N6 r
  simp only[Np]at h1 ⊢
  omega
theorem vO(q:Rat){n:Nat}(hn:0<n)(h1:q.num.natAbs<2 ^ n)(h2:q.den<2 ^ n):sz q≤n:=Dx (fk h1 hn) (fk h2 hn)
theorem au:sz 0=1:=by decide
theorem oX:sz 1=1:=by decide
theorem og(a b:Nat)(h:b≠0):Ow a b=Ow b (a % b):=by
 rw[Rn,Nat.gcd_rec,Rn]
theorem S2{a g:Int}(h:g ∣ a):a.fdiv g=a / g:=by
 obtain⟨c,rfl⟩:=h
 by_cases hg:g=0
 ·subst hg;simp
 ·rw[Int.mul_fdiv_cancel_left _ hg,Int.mul_ediv_cancel_left _ hg]
theorem FR(a b:Int)(hb:b≠0)(share:Int)(hs:share=if b<0 then -((Ow a.natAbs b.natAbs:Nat):Int)else((Ow a.natAbs b.natAbs:Nat):Int)) :
  a.fdiv share=(divInt a b).num∧b.fdiv share=((divInt a b).den:Int):=by
 have hg:Ow a.natAbs b.natAbs=RV b a:=by unfold RV;exact Rn _ _
 have da:((RV b a:Nat):Int) ∣ a:=Int.gcd_dvd_right b a
 have db:((RV b a:Nat):Int) ∣ b:=Int.gcd_dvd_left b a
 rw[hg]at hs
 rw[num_divInt,den_divInt,if_neg hb]
 by_cases h:b<0
 ·rw[if_pos h]at hs
  subst hs
  rw[S2 (Int.neg_dvd.mpr da),S2 (Int.neg_dvd.mpr db),Qb h]
  refine⟨?_,?_⟩
  ·rw[Int.ediv_neg,Int.neg_one_mul,QV da]
  ·rw[Int.ediv_neg,← QV db]
   have e:-b=((b.natAbs:Nat):Int):=by omega
   rw[e]
   norm_cast
 ·rw[if_neg h]at hs
  subst hs
  have hp:0<b:=by omega
  rw[S2 da,S2 db,Qz hp,Int.one_mul]
  refine⟨rfl,?_⟩
  have e:b=((b.natAbs:Nat):Int):=by omega
  conv=>lhs;rw[e]
  norm_cast
theorem DE(q r:Rat):decide (q.num*(r.den:Int)<r.num*(q.den:Int))=decide (q<r):=by
 by_cases h:q<r
 ·rw[decide_eq_true h,decide_eq_true ((Rat.lt_iff q r).mp h)]
 ·rw[decide_eq_false h,decide_eq_false (fun z=>h ((Rat.lt_iff q r).mpr z))]
end RM
namespace L2
open PySem PySem.Spec PyProof.Rows
section
variable {prog:Program} {w:World} {A:Around} {R:Result→Shared→Prop} {s:Shared}
noncomputable def rE(ifs:List Expr)(env:Env):Sem Bool:=forIn ifs true fun c r=>if r=true then do let ok ← isTrue c env (eval c env);pure (ForInStep.yield ok)else pure (ForInStep.yield r)
theorem kQ{elt target iter:Expr}{ifs:List Expr}{scope:Scope}{pos:Pos}{it acc:Value}{env:Env}(I:Nat→Shared→Prop)
  (turn:∀ n s,I n s→wpAny (model prog w) A (pyNext it) (fun r s₁=>match r with
   | none=>R (.ok .next) s₁
   | some v=>wpAny (model prog w) A (letOwnedTupleGo target it v) (fun _ s₁'=>wpAny (model prog w) A (assign target env v) (fun _ s₂=>wpAny (model prog w) A (rE ifs env) (fun ok s₂'=>if ok=true then wpAny (model prog w) A (eval elt env) (fun x s₃ =>
     wpAny (model prog w) A (call (.builtin "list.append") [acc,x]) (fun _ s₄=>∃ m,m<n∧I m s₄) (notedBy (model prog w) A env fun e s'=>R (.error e) s') s₃)
     (notedBy (model prog w) A env fun e s'=>R (.error e) s') s₂' else ∃ m,m<n∧I m s₂') (notedBy (model prog w) A env fun e s'=>R (.error e) s') s₂) (notedBy (model prog w) A env fun e s'=>R (.error e) s') s₁') (notedBy (model prog w) A env fun e s'=>R (.error e) s') s₁) (notedBy (model prog w) A env fun e s'=>R (.error e) s') s)
  (n:Nat) (h:I n s) :
  codeAny (model prog w) A (.compLoop (.ListComp elt [⟨target,iter,ifs,0⟩] scope pos) 0 it acc env) R s:=by
 refine codeAny_loop rfl I (fun n s hI=>?_) n h
 show wpAny _ _ ((compTurn (.ListComp elt [⟨target,iter,ifs,0⟩] scope pos) 0 it acc env).onRaise (fun x=>do noteFrame x env;theTreesLotGoes x)) _ _ s
 refine wpAny_noted ?_
 rw[compTurn_list]
 refine Nb (wpAny_standAt (Nb (wpAny_mono (turn n s hI) (fun r s₁ h₁=>?_) fun _ _ h'=>h')))
 cases r with
 | none=>exact Ng h₁
 | some v =>
  refine Nb (wpAny_mono h₁ (fun _ s₁' h₁'=>?_) fun _ _ h'=>h')
  refine Nb (wpAny_mono h₁' (fun _ s₂ h₂=>Nb (wpAny_mono h₂ (fun ok s₂' h₃=>?_) fun _ _ h'=>h')) fun _ _ h'=>h')
  cases ok with
  | true =>
   refine Nb (Nb (wpAny_mono h₃ (fun x s₃ h₄=>Nb (wpAny_mono h₄ (fun _ s₄ h₅=>Ng (Ng ⟨rfl,h₅⟩)) fun _ _ h'=>h')) fun _ _ h'=>h'))
  | false=>exact Nb (Ng (Ng ⟨rfl,h₃⟩))
end
def bQ(X:Cx)(ifs:List Expr)(t:TT):Prop :=
 ∀(pins:List (Addr × Obj)) (s:Shared) (σ:St) (H:Hp) (Q:Bool→Hp→Prop),Inv X pins σ H s→t σ H Q→wpAny (model X.prog X.w) X.A (rE ifs X.env) (TP X pins σ Q) X.xe s
def Jp:TT:=fun _ H Q=>Q true H
theorem wL{X:Cx}:bQ X [] Jp:=fun pins s σ H Q I q=>Ng ⟨H,I,q⟩
theorem wK{X:Cx}{c:Expr}{t:TT}(h:PT X c t):bQ X [c] t:=fun pins s σ H Q I q=>wpAny_tests_one (h pins s σ H Q I q)
noncomputable def V7(cells:List (Str × Addr)):List (Str × NameKind)→List (Str × Addr)→List (Str × Addr)
 | [],acc=>acc
 | (n,k) :: r,acc=>if k == .free then V7 cells r ((n,(cells.lookup n).getD 0) :: acc)else V7 cells r acc
theorem aj{env:Env}:∀(names:List (Str × NameKind)) (acc:List (Str × Addr)),(∀ n,(n,NameKind.free)∈names→∃ c,env.cells.lookup n=some c) →
  (forIn names acc (fun(x:Str × NameKind) (cs:List (Str × Addr))=>if (x.2 == NameKind.free)=true then(do let a ← cellOf env x.1;pure (ForInStep.yield ((x.1,a) :: cs)))else pure (ForInStep.yield cs)):Sem (List (Str × Addr)))=pure (V7 env.cells names acc)
 | [],acc,_=>rfl
 | (n,k) :: r,acc,h=>by
  rw[Pm]
  unfold V7
  by_cases hk:(k == NameKind.free)=true
  ·have e:k = .free:=by cases k<;>first|rfl|(exact absurd hk (by decide))
   subst e
   obtain⟨c,hc⟩:=h n Nk
   rw[if_pos hk,if_pos hk]
   have e1:cellOf env n=pure c:=by unfold cellOf;rw[hc]
   rw[e1,pure_bind,pure_bind,hc]
   exact aj r _ fun m hm=>h m (Nj _ hm)
  ·rw[if_neg hk,if_neg hk,pure_bind]
   exact aj r _ fun m hm=>h m (Nj _ hm)
theorem ox{scope:Scope}{env:Env}(h:∀ n,(n,NameKind.free)∈scope.names→∃ c,env.cells.lookup n=some c):closureFor scope env=pure (V7 env.cells scope.names []):=by
 have:=aj (env:=env) scope.names [] h
 unfold closureFor
 first
  | (simp only[]at this ⊢;rw[← this];simp only[bind_pure];rfl)
  | (rw[← this];rfl)
  | (simp only[bind_pure,pure_bind];exact this)
theorem S5{cells:List (Str × Addr)}{x:Str}{c:Addr}:∀(names:List (Str × NameKind)) (acc:List (Str × Addr)),(∀ n,(n,NameKind.free)∈names→∃ c,cells.lookup n=some c)→(∀ y d,acc.lookup y=some d→cells.lookup y=some d)→(V7 cells names acc).lookup x=some c→cells.lookup x=some c
 | [],acc,_,ha,h=>ha x c h
 | (n,k) :: r,acc,hn,ha,h=>by
  unfold V7 at h
  by_cases hk:(k == NameKind.free)=true
  ·rw[if_pos hk]at h
   have e:k = .free:=by cases k<;>first|rfl|(exact absurd hk (by decide))
   subst e
   obtain⟨d,hd⟩:=hn n Nk
   refine S5 r _ (fun m hm=>hn m (Nj _ hm)) (fun y e hy=>?_) h
   rw[Pc]at hy
   split at hy
   ·rename_i hz
    have hz':y=n:=by simpa using hz
    subst hz'
    rw[hd]at hy ⊢
    cases hy;rfl
   ·exact ha y e hy
  ·rw[if_neg hk]at h
   exact S5 r _ (fun m hm=>hn m (Nj _ hm)) ha h
theorem X6{cells:List (Str × Addr)}{x:Str}:∀(names:List (Str × NameKind)) (acc:List (Str × Addr)),((x,NameKind.free)∈names ∨ ∃ c,acc.lookup x=some c)→∃ c,(V7 cells names acc).lookup x=some c
 | [],acc,h=>by
  rcases h with h|h
  ·cases h
  ·exact h
 | (n,k) :: r,acc,h=>by
  unfold V7
  by_cases hk:(k == NameKind.free)=true
  ·rw[if_pos hk]
   refine X6 r _ ?_
   by_cases hx:x=n
   ·right;rw[Pc];simp[hx]
   ·rcases h with h|⟨c,h⟩
    ·rcases Nh.mp h with z|z
     ·injection z with z1 _;exact absurd z1 hx
     ·exact .inl z
    ·right
     refine⟨c,?_⟩
     rw[Pc]
     have:(x == n)=false:=by simpa using hx
     rw[this];exact h
  ·rw[if_neg hk]
   refine X6 r _ ?_
   rcases h with h|h
   ·rcases Nh.mp h with z|z
    ·injection z with _ z2
     subst z2
     exact absurd rfl hk
    ·exact .inl z
   ·exact .inr h
theorem ck{scope:Scope}{env:Env}{x:Str}{k:NameKind}(h:(relabel scope env).names.lookup x=some k)(hk:k = .cell∨k = .free)(hcell:∀ y∈scope.names,y.2 ≠ .cell):(x,NameKind.free)∈scope.names:=by
 have go:∀(l:List (Str × NameKind)),(∀ y∈l,y.2 ≠ .cell)→(l.map fun(n,k)=>if (k == NameKind.free && env.scope.kind == .function && env.kindOf n == some .cell)=true then(n,NameKind.cell)else(n,k)).lookup x=some k→(x,NameKind.free)∈l:=by
  intro l
  induction l with
  | nil=>intro _ h;cases h
  | cons p r ih =>
   intro hl h
   obtain⟨n,j⟩:=p
   rw[NO,Pc]at h
   by_cases hj:j = .free
   ·subst hj
    by_cases hx:x=n
    ·subst hx;exact Nk
    ·refine Nj _ (ih (fun y hy=>hl y (Nj _ hy)) ?_)
     have e:∀ b:Bool,(x == (if b=true then(n,NameKind.cell)else(n,NameKind.free)).1)=false:=fun b=>by cases b<;>simpa using hx
     dsimp only at h
     rw[e]at h
     exact h
   ·have e:(j == NameKind.free)=false:=by simpa using hj
    have hc:=hl (n,j) Nk
    dsimp only at h
    rw[e]at h
    simp only[OR,OT,if_false]at h
    by_cases hx:x=n
    ·have:(x == n)=true:=by simpa using hx
     rw[this]at h
     have h':j=k:=by simpa using h
     subst h'
     rcases hk with z|z
     ·exact absurd z hc
     ·exact absurd z hj
    ·have:(x == n)=false:=by simpa using hx
     rw[this]at h
     exact Nj _ (ih (fun y hy=>hl y (Nj _ hy)) h)
 exact go scope.names hcell h
noncomputable def cxF(X:Cx)(scope:Scope)(cl:List (Str × Addr))(N':List Str)(s3:Shared)(H3:Hp)(C:Addr)(fp:List Addr)(pins:List (Addr × Obj)):Cx :=
 { X with N:=N',s₀:=s3,H₀:=H3,env:=compEnvC scope cl C X.env,outer:=X.stack,ex:=fp,fn:=fun _=>false,pn:=X.pn++pins,xe:=fun _ _=>False }
noncomputable def kW(n:Nat)(caps:List Nat)(σ:St):St:=OS n none++caps.map fun i=>(σ[i]?).getD none
def oW(n:Nat)(caps:List Nat)(wi:TI)(g:TG)(tc:TT)(te:TE):TE:=fun σ H Q=>wi σ H fun J H1=>∀ D,H1 D=none→∃ W:Nat→Nat→Hp→Prop,(∃ m,W 0 m (upd H1 D (.lst [])))∧∀ i m H,W i m H →
 (J.stop i H∧Q (.ref D) H)∨(J.go i H∧∀ x H',J.yld i H x H'→g x (kW n caps σ) H' fun σ2 H2=>tc σ2 H2 fun b H2'=>if b=true then te σ2 H2' fun v H3=>∃ ys,H3 D=some (.lst ys)∧ys.length<sizeLine∧∃ m',m'<m∧W (i+1) m' (upd H3 D (.lst (ys++[v])))else ∃ m',m'<m∧W (i+1) m' H2')
section
variable {X:Cx} {elt tg iter:Expr} {scope:Scope} {cl:List (Str × Addr)} {tgs cps:List Str} {caps:List Nat} {wi:TI} {g:TG} {tc:TT} {te:TE} {pos:Pos} {ifs:List Expr}
def zm(s3:Shared)(H3:Hp)(fp:List Addr)(cl:List (Str × Addr))(x:Str)(v:V):Prop :=
 ∃(u:Value) (c:Addr) (o:Obj),q9 v u∧cl.lookup x=some c∧s3.heap.get? c=some o∧o.data = .cell (some u)∧H3 c=none∧c∉fp
theorem Inv.reset{pins pins':List (Addr × Obj)}{σ0 σ':St}{H3 H':Hp}{s3 s':Shared}{fp:List Addr}{C:Addr}(I:Inv (cxF X scope cl (tgs++cps) s3 H3 C fp pins) pins' σ' H' s')
  (hsc:∀ x∈cps,(relabel scope X.env).names.lookup x=some .cell∨(relabel scope X.env).names.lookup x=some .free) (hl:caps.length=cps.length)
  (hc:∀(j:Nat) (x:Str) (v:V),cps[j]? = some x→(caps.map fun i=>(σ0[i]?).getD none)[j]? = some (some v)→zm s3 H3 fp cl x v) :
  Inv (cxF X scope cl (tgs++cps) s3 H3 C fp pins) pins' (kW tgs.length caps σ0) H' s':=by
 obtain⟨m,hn,_⟩:=I.loc
 refine⟨I.ok,I.os,I.bare,I.base,⟨m,hn,fun i x v e1 e2 e3=>?_⟩,I.cell,I.free,I.freeC,I.pin,I.hok,by simp[kW,cxF,hl]⟩
 have e1:(tgs++cps)[i]? = some x:=e1
 unfold kW at e2
 rw[PH]at e1 e2
 rw[Px]at e2
 by_cases hi:i<tgs.length
 ·rw[if_pos hi]at e2
  rw[Oy]at e2
  split at e2<;>cases e2
 ·rw[if_neg hi]at e1 e2
  obtain⟨u,c,o,r,h1,h2,h3,h4,h5⟩:=hc (i - tgs.length) x v e1 e2
  obtain⟨sl,k⟩:=I.base.any h2 h4 h5
  refine⟨u,r,.inr ⟨?_,c,h1,_,k,h3⟩⟩
  rcases hsc x (Nq e1)with z|z
  ·exact .inl z
  ·exact .inr z
theorem ou{pins:List (Addr × Obj)}{σ0:St}{σ:St}{H3:Hp}{s3:Shared}{fp:List Addr}{it D C:Addr}{tn:Nat→Heap→Prop}{J:It}{h₁:Heap}{tk:Nat}{m:Str→Option Value}{R:Result→Shared→Prop}{Qd:Hp→Prop}
  (hc:X.calm=true) (hcell:∀ x∈scope.names,x.2 ≠ .cell) (hkind:scope.kind = .function)
  (hcl:∀ x c,cl.lookup x=some c→X.env.cells.lookup x=some c) (hhas:∀ x,(x,NameKind.free)∈scope.names→∃ c,cl.lookup x=some c)
  (hsc:∀ x∈cps,(relabel scope X.env).names.lookup x=some .cell∨(relabel scope X.env).names.lookup x=some .free) (hl:caps.length=cps.length)
  (hcap:∀(j:Nat) (x:Str) (v:V),cps[j]? = some x→(caps.map fun i=>(σ0[i]?).getD none)[j]? = some (some v)→zm s3 H3 fp cl x v)
  (hg:∀ cl s3 H3 C fp pins,PG (cxF X scope cl (tgs++cps) s3 H3 C fp pins) tg g) (hq:∀ cl s3 H3 C fp pins,bQ (cxF X scope cl (tgs++cps) s3 H3 C fp pins) ifs tc) (he:∀ cl s3 H3 C fp pins,PE (cxF X scope cl (tgs++cps) s3 H3 C fp pins) elt te)
  (I3:Inv X pins σ H3 s3) (T:oK X.prog X.w X.K tg J fp it tn) (st3:tn 0 s3.heap) (f3:∀ b∈fp,Y3 X pins H3 b) (hC:C=s3.heap.objs.size) (hn:h₁.Ns C m) (hk:∀ b o,s3.heap.get? b=some o→h₁.get? b=some o)
  (W:Nat→Nat→Hp→Prop) (m0:Nat) (w0:W 0 m0 H3)
  (turn:∀ i m H,W i m H→(J.stop i H∧Qd H)∨(J.go i H∧∀ x H',J.yld i H x H'→g x (kW tgs.length caps σ0) H' fun σ2 H2=>tc σ2 H2 fun b H2'=>if b=true then te σ2 H2' fun v H3=>∃ ys,H3 D=some (.lst ys)∧ys.length<sizeLine∧∃ m',m'<m∧W (i+1) m' (upd H3 D (.lst (ys++[v])))else ∃ m',m'<m∧W (i+1) m' H2'))
  (hR:∀ s' H' σ',Inv (cxF X scope cl (tgs++cps) s3 H3 C fp pins) [] σ' H' s'→Qd H'→R (.ok .next) s') :
  codeAny (model X.prog X.w) X.A (.compStart (.ListComp elt [⟨tg,iter,ifs,0⟩] scope pos) 0 (.ref it) (.ref D) (compEnvC scope cl C X.env)) R { s3 with heap:=h₁,toks:=tk }:=by
 have lt3:∀ b∈fp,b<s3.heap.objs.size:=fun b hb=>by
  obtain⟨o,e,_⟩:=T.obj 0 _ st3 b hb
  exact Nn e
 have ok':(cxF X scope cl (tgs++cps) s3 H3 C fp pins).Ok:={
  mod:=I3.ok.mod
  kind:=hkind
  glob:=I3.ok.glob
  blt:=I3.ok.blt
  above:=QE hC.symm
  inj:=fun x y c e e'=>I3.ok.inj x y c (hcl x c e) (hcl y c e')
  has:=fun x h=>by
   rcases h with h|h
   ·exact hhas x (ck h (.inl rfl) hcell)
   ·exact hhas x (ck h (.inr rfl) hcell)
  cab:=fun x c h=>by cases h
  hd:=fun _=>I3.ok.hd hc
  frames:=I3.ok.frames
  stk:=.inl rfl
  exf:=fun b hb=>⟨fun z=>by
   have z':b=C:=z
   have h1:=lt3 b hb
   rw[z',hC]at h1
   exact OG _ h1,fun x c e=>(f3 b hb).2.2.2.2.1 x c (hcl x c e)⟩
  bs:=fun b o e=>I3.bs b o e
  bsz:=Nr I3.ok.bsz I3.sz
  noex:=fun b o e hb=>by
   obtain⟨_,_,_,q,_⟩:=f3 b hb
   rcases q with q|q
   ·exact I3.ok.noex b o e q
   ·have h1:=Nn e
    exact absurd (Nf (Nf h1 I3.ok.bsz) q) (OG _)
  exfs:=fun b hb z=>by
   obtain⟨_,q1,q2,_⟩:=f3 b hb
   rcases Nh.mp (I3.stkSub b z)with y|y
   ·exact q1 y
   ·exact q2 y
  funs:=I3.stack
  frf:=I3.stkFree }
 have J0:Inv (cxF X scope cl (tgs++cps) s3 H3 C fp pins) [] (OS (tgs++cps).length none) H3 { s3 with heap:=h₁,toks:=tk }:={
  ok:=ok'
  os:=rfl
  bare:=I3.bare
  base:=Un.kept hk
  loc:=⟨m,hn,fun i x v _ e _=>by
   rw[Oy]at e
   split at e<;>cases e⟩
  cell:=fun x c e=>by
   obtain⟨v,o,ho,hd⟩:=I3.cell x c (hcl x c e)
   exact⟨v,o,hk c o ho,hd⟩
  free:=I3.hok.fresh (QE hC.symm)
  freeC:=fun x c e=>I3.freeC x c (hcl x c e)
  pin:=fun p hp=>by
   have hp':p∈X.pn++pins:=by simpa[cxF]using hp
   obtain⟨a1,a2,a3,a4,a5⟩:=I3.pin p hp'
   refine⟨hk _ _ a1,a2,fun z=>?_,fun z=>?_,a5⟩
   ·have z':p.1=C:=z
    have h1:=Nn a1
    rw[z',hC]at h1
    exact OG _ h1
   ·rcases Nh.mp (I3.stkSub _ z)with y|y
    ·exact a3 y
    ·exact a4 y
  hok:=I3.hok.kept hk
  len:=by simp[cxF] }
 have stat:∀{H':Hp},(∀ b∈fp,H' b=none)→∀ b∈fp,Y3 (cxF X scope cl (tgs++cps) s3 H3 C fp pins) [] H' b:=fun hn b hb=>by
  obtain⟨_,_,_,_,_,q⟩:=f3 b hb
  exact⟨hn b hb,(ok'.exf b hb).1,ok'.exfs b hb,.inl hb,(ok'.exf b hb).2,fun p hp=>q p (by simpa[cxF]using hp)⟩
 have loop:codeAny (model X.prog X.w) X.A (.compLoop (.ListComp elt [⟨tg,iter,ifs,0⟩] scope pos) 0 (.ref it) (.ref D) (compEnvC scope cl C X.env)) R { s3 with heap:=h₁,toks:=tk }:=by
  refine kQ (fun n s'=>∃ i σ' H',Inv (cxF X scope cl (tgs++cps) s3 H3 C fp pins) [] σ' H' s'∧tn i s'.heap∧(∀ b∈fp,H' b=none)∧W i n H') ?_ m0
   ⟨0,_,H3,J0,T.keep _ _ _ st3 fun b hb o e=>hk b o e,fun b hb=>(f3 b hb).1,w0⟩
  rintro n s4 ⟨i,σ4,H4,I4,st4,fr4,w4⟩
  rcases turn i n H4 w4 with⟨stop,qn⟩|⟨go,step⟩
  ·refine thn (T.done (cxF X scope cl (tgs++cps) s3 H3 C fp pins) rfl rfl rfl hc i [] s4 σ4 H4 _ I4 (stat fr4) st4 stop) fun r s5 zz=>?_
   obtain⟨hr,I5⟩:=zz
   subst hr
   exact hR s5 H4 σ4 I5 qn
  ·refine thn (T.item (cxF X scope cl (tgs++cps) s3 H3 C fp pins) rfl rfl rfl hc i [] s4 σ4 H4 _ I4 (stat fr4) st4 go) fun r s5 zz=>?_
   obtain⟨u,hr,h5⟩:=zz
   subst hr
   refine thn h5 fun _ s6 zz=>?_
   obtain⟨x,H6,I6,r6,y6,st6,fr6⟩:=zz
   have I6w:=I6.reset hsc hl hcap
   have I6':=I6w.pinned (stat fr6) (T.obj _ _ st6)
   refine wpAny_mono (hg cl s3 H3 C fp pins _ s6 _ H6 x u _ I6' r6 (step x H6 y6)) (fun _ s7 ⟨σ7,H7,I7,q7⟩=>?_) fun _ _ z=>z.elim
   refine wpAny_mono (hq cl s3 H3 C fp pins _ s7 σ7 H7 _ I7 q7) (fun b s7' ⟨H7',I7',q7'⟩=>?_) fun _ _ z=>z.elim
   cases b with
   | false =>
    obtain⟨m',hm,w8⟩:=q7'
    refine⟨m',hm,i+1,σ7,H7',I7'.unpinned,T.keep _ _ _ st6 fun b hb o e=>(I7'.pin (b,o) (NJ _ (NJ _ (G9 hb e)))).1,fun b hb=>?_,w8⟩
    obtain⟨o,e,d⟩:=T.obj _ _ st6 b hb
    exact(I7'.pin (b,o) (NJ _ (NJ _ (G9 hb e)))).2.1
   | true =>
    refine wpAny_mono (he cl s3 H3 C fp pins _ s7' σ7 H7' _ I7' q7') (fun v s8 ⟨y,H8,I8,r8,q8⟩=>?_) fun _ _ z=>z.elim
    obtain⟨ys,hy,hz,m',hm,w8⟩:=q8
    refine wpAny_mono (iu (X:=cxF X scope cl (tgs++cps) s3 H3 C fp pins) _ s8 σ7 H8 (.ref D) [y] (.ref D) [v] (fun _ H9=>W (i+1) m' H9) I8 rfl (.cons r8 .nil) ⟨D,ys,y,rfl,rfl,hy,hz,w8⟩) (fun _ s9 ⟨_,H9,I9,_,w9⟩=>?_) fun _ _ z=>z.elim
    refine⟨m',hm,i+1,σ7,H9,I9.unpinned,T.keep _ _ _ st6 fun b hb o e=>(I9.pin (b,o) (NJ _ (NJ _ (G9 hb e)))).1,fun b hb=>?_,w9⟩
    obtain⟨o,e,d⟩:=T.obj _ _ st6 b hb
    exact(I9.pin (b,o) (NJ _ (NJ _ (G9 hb e)))).2.1
 exact codeAny_compStart_list loop (T.self _ 0 _ _ _ (T.keep _ _ _ st3 fun b hb o e=>hk b o e) loop)
theorem iH(hc:X.calm=true)(hcell:∀ x∈scope.names,x.2 ≠ .cell)(hkind:scope.kind = .function)(hnames:∀ x∈scope.names,x.2 = .local→scope.names.lookup x.1=some .local)
  (hfr:∀ x∈scope.names,x.2 = .free→x.1∈cps) (hN:caps.map (fun i=>X.N[i]?)=cps.map some) (hX:∀ x∈cps,X.env.scope.names.lookup x=some .cell∧scope.names.lookup x=some .free)
  (hsc:∀ x∈cps,(relabel scope X.env).names.lookup x=some .cell∨(relabel scope X.env).names.lookup x=some .free)
  (hi:PI X tg iter wi) (hg:∀ cl s3 H3 C fp pins,PG (cxF X scope cl (tgs++cps) s3 H3 C fp pins) tg g) (hq:∀ cl s3 H3 C fp pins,bQ (cxF X scope cl (tgs++cps) s3 H3 C fp pins) ifs tc) (he:∀ cl s3 H3 C fp pins,PE (cxF X scope cl (tgs++cps) s3 H3 C fp pins) elt te)
  (hs:∀ x,foldedSetIterable iter X.env x=pure x) {use:Option (Value→Sem Unit)} {Qf:Value→Shared→Prop} {pins:List (Addr × Obj)} {s:Shared} {σ:St} {H:Hp} {Q:VK} (I:Inv X pins σ H s) (h:oW tgs.length caps wi g tc te σ H Q)
  (hU:∀(D C:Addr) (s':Shared) (H4:Hp) (m4:Str→Option Value),s'.heap.Ns C m4→Y3 X pins H4 C→(∀ h',Heap.SameBut C s'.heap h'→Inv X pins σ H4 { s' with heap:=h' })→Q (.ref D) H4→compPost (model X.prog X.w) X.A X.xe use Qf (.ref D) C (.ok .next) s') :
  wpAny (model X.prog X.w) X.A (comprehension (.ListComp elt [⟨tg,iter,ifs,0⟩] scope pos) scope X.env (firstIterPos [⟨tg,iter,ifs,0⟩] pos) (newList []) false (eval iter X.env) use) Qf X.xe s:=by
 have hl:caps.length=cps.length:=by
  have:=congrArg RB hN
  simpa using this
 have hcells:∀ n,(n,NameKind.free)∈scope.names→∃ c,X.env.cells.lookup n=some c:=fun n hn=>I.ok.has n (.inl (hX n (hfr _ hn rfl)).1)
 refine wpAny_comprehension_free (use:=use) rfl hs (ox hcells) hkind hnames (thn (hi pins s σ H _ I h) fun v s1 h1=>thn h1 fun itv s2 h2=>?_)
 obtain⟨it,fp,tn,J,H',e,I2,T,st2,f2,hW⟩:=h2
 subst e
 refine wpAny_newObj_type (hd:=by size_fits) (wpAny_newFunctionEnv hcell (by intro y hy;simp at hy) (fun h₁ hns₁ hsb₁=>?_) hkind)
 dsimp only at hns₁ hsb₁ ⊢
 have I3:=I2.lnew (ys:=[]) (its:=[]) (t':=s2.toks) .nil (Oa _)
 obtain⟨W,⟨m0,w0⟩,turn⟩:=hW _ I2.fresh
 have st3:tn 0 (s2.heap.push { cls:=.type "list",data:=.seq ([]:List Value).toArray }):=T.keep _ _ _ st2 fun b hb o e=>Nc _ e
 have f3:∀ b∈fp,Y3 X pins (upd H' s2.heap.objs.size (.lst [])) b:=fun b hb=>by
  obtain⟨q0,q⟩:=f2 b hb
  obtain⟨o,e,_⟩:=T.obj 0 _ st2 b hb
  exact⟨by rw[g6 (NC (Nn e))];exact q0,q⟩
 have old:∀ b o,(s2.heap.push { cls:=.type "list",data:=.seq ([]:List Value).toArray }).get? b=some o→h₁.get? b=some o:=fun b o e =>
  hsb₁.extBut b o (NC (Nn e)) (Nc _ e)
 have hcap:∀(j:Nat) (x:Str) (v:V),cps[j]? = some x→(caps.map fun i=>(σ[i]?).getD none)[j]? = some (some v) →
   zm { s2 with heap:=s2.heap.push { cls:=.type "list",data:=.seq ([]:List Value).toArray },toks:=s2.toks } (upd H' s2.heap.objs.size (.lst [])) fp (V7 X.env.cells scope.names []) x v:=fun j x v ex ev=>by
  have hx:=hX x (Nq ex)
  have hj:(caps.map (fun i=>X.N[i]?))[j]? = some (some x):=by rw[hN,ND,ex];rfl
  rw[ND]at ev hj
  cases hcj:caps[j]? with
  | none=>rw[hcj]at ev;cases ev
  | some i =>
   rw[hcj]at ev hj
   have ev':(σ[i]?).getD none=some v:=by simpa using ev
   have hj':X.N[i]? = some x:=by simpa using hj
   have es:σ[i]? = some (some v):=by
    cases q:σ[i]? with
    | none=>rw[q]at ev';cases ev'
    | some w=>rw[q]at ev';rw[show w=some v by simpa using ev']
   obtain⟨m,hn,hlook⟩:=I3.loc
   obtain⟨u,ru,lk⟩:=hlook i x v hj' es (.inr (.inl hx.1))
   rcases lk with⟨k1,_⟩|⟨_,c,hc1,o,ho,hd⟩
   ·have k1':X.env.scope.names.lookup x=some .local:=k1
    rw[hx.1]at k1';cases k1'
   ·have hmem:(x,NameKind.free)∈scope.names:=by
     have hlk:=hx.2
     have go:∀ l:List (Str × NameKind),l.lookup x=some .free→(x,NameKind.free)∈l:=by
      intro l
      induction l with
      | nil=>intro z;cases z
      | cons p r ih =>
       intro z
       obtain⟨n,k⟩:=p
       rw[Pc]at z
       split at z
       ·rename_i q;have q':x=n:=by simpa using q
        have z':k = .free:=by simpa using z
        rw[q',z'];exact Nk
       ·exact Nj _ (ih z)
     exact go _ hlk
    obtain⟨c',hc'⟩:=X6 (cells:=X.env.cells) scope.names [] (.inl hmem)
    have:=S5 scope.names [] hcells (fun y d z=>by cases z) hc'
    rw[hc1]at this
    cases this
    refine⟨u,c,o,ru,hc',ho,hd,I3.freeC x c hc1,fun hb=>?_⟩
    exact(f3 c hb).2.2.2.2.1 x c hc1 rfl
 refine ou (s3:={ s2 with heap:=s2.heap.push { cls:=.type "list",data:=.seq ([]:List Value).toArray },toks:=s2.toks }) (Qd:=fun H=>Q (.ref s2.heap.objs.size) H) (tk:=s2.toks+([]:List (Str × Value)).length) (cl:=V7 X.env.cells scope.names [])
  hc hcell hkind (fun x c z=>S5 scope.names [] hcells (fun y d z=>by cases z) z) (fun x z=>X6 scope.names [] (.inl z)) hsc hl hcap hg hq he I3 T st3 f3 rfl hns₁ old W m0 w0 turn fun s' H4 σ4 I4 q4=>?_
 obtain⟨m4,hn4,_⟩:=I4.loc
 have hCfree:H4 _=none:=I4.free
 have nC:∀ b u,H4 b=some u→b≠(s2.heap.push { cls:=.type "list",data:=.seq ([]:List Value).toArray }).objs.size:=fun b u e z=>by
  rw[z]at e
  have:=e.symm.trans hCfree
  cases this
 have lt:∀ b o,(s2.heap.push { cls:=.type "list",data:=.seq ([]:List Value).toArray }).get? b=some o→b≠(s2.heap.push { cls:=.type "list",data:=.seq ([]:List Value).toArray }).objs.size:=fun b o e=>NC (Nn e)
 have ub:=I4.base
 have fC:Y3 X pins H4 (s2.heap.push { cls:=.type "list",data:=.seq ([]:List Value).toArray }).objs.size:=I3.fpOk (Ny _) hCfree
 refine hU _ _ s' H4 m4 hn4 fC (fun h' hsb=>?_) q4
 have un:Un (frs X.stack) fp (upd H' s2.heap.objs.size (.lst [])) H4 (s2.heap.push { cls:=.type "list",data:=.seq ([]:List Value).toArray }) h':={
  keep:=fun b o e n x y=>(hsb.2 b (lt b o e)).trans (ub.keep b o e n x y)
  slot:=fun b o e n x y=>let ⟨q,z⟩:=ub.slot b o e n x y;⟨q,(hsb.2 b (lt b o e)).trans z⟩
  free:=ub.free
  there:=fun b o e y=>let ⟨q,z⟩:=ub.there b o e y;⟨q,(hsb.2 b (lt b o e)).trans z⟩
  tups:=ub.tups
  frzs:=ub.frzs
  tbls:=ub.tbls }
 refine I3.call' (s':={ s' with heap:=h' }) I4.os un (fun b u e=>?_) I4.bare fun b hb=>?_
 ·refine(I4.hok b u e).stay (fun c v hcv q=>(hsb.2 c ?_).trans q) (fun _ q=>q) fun _ _ q=>q
  rcases hcv with z|z
  ·rw[z];exact nC b u e
  ·exact nC c _ z
 ·obtain⟨q0,q1,q2,q3,q4,q5⟩:=f3 b hb
  exact⟨q3,q1,q4,q5⟩
theorem nB(hc:X.calm=true)(hcell:∀ x∈scope.names,x.2 ≠ .cell)(hkind:scope.kind = .function)(hnames:∀ x∈scope.names,x.2 = .local→scope.names.lookup x.1=some .local)
  (hfr:∀ x∈scope.names,x.2 = .free→x.1∈cps) (hN:caps.map (fun i=>X.N[i]?)=cps.map some) (hX:∀ x∈cps,X.env.scope.names.lookup x=some .cell∧scope.names.lookup x=some .free)
  (hsc:∀ x∈cps,(relabel scope X.env).names.lookup x=some .cell∨(relabel scope X.env).names.lookup x=some .free)
  (hi:PI X tg iter wi) (hg:∀ cl s3 H3 C fp pins,PG (cxF X scope cl (tgs++cps) s3 H3 C fp pins) tg g) (hq:∀ cl s3 H3 C fp pins,bQ (cxF X scope cl (tgs++cps) s3 H3 C fp pins) ifs tc) (he:∀ cl s3 H3 C fp pins,PE (cxF X scope cl (tgs++cps) s3 H3 C fp pins) elt te)
  (hs:∀ x,foldedSetIterable iter X.env x=pure x:=by intro _;rfl):PE X (.ListComp elt [⟨tg,iter,ifs,0⟩] scope pos) (oW tgs.length caps wi g tc te):=by
 intro pins s σ H Q I h
 rw[eval_ListComp]
 exact iH hc hcell hkind hnames hfr hN hX hsc hi hg hq he hs I h fun D C s' H4 m4 hn4 fC hI q4=>⟨m4,hn4,fun h' hsb=>⟨.ref D,H4,hI h' hsb,rfl,q4⟩⟩
def PU(X:Cx)(i:Nat)(x:Str)(pos':Pos)(e:Expr)(te:TE):Prop:=∀(pins:List (Addr × Obj)) (s:Shared) (σ:St) (H:Hp) (Q:VK),Inv X pins σ H s→te σ H Q →
 wpAny (model X.prog X.w) X.A (evalThenUse e X.env (assign (.Name x pos') X.env)) (fun _ s'=>∃ v H',Inv X pins (σ.set i (some v)) H' s'∧Q v H') X.xe s
theorem PU.imp{X:Cx}{i:Nat}{x:Str}{pos':Pos}{e:Expr}{t t':TE}(h:PU X i x pos' e t)(f:∀ σ H Q,t' σ H Q→t σ H Q):PU X i x pos' e t':=fun pins s σ H Q I q=>h pins s σ H Q I (f σ H Q q)
theorem AY{i:Nat}{x:Str}{pos' pos:Pos}{e:Expr}{te:TE}(h:PU X i x pos' e te)(hs:swapsWith e (some (.Name x pos')) pos.line X.env=pure true):PS X (.Assign [.Name x pos'] e pos) (EF te (xP i)):=by
 intro pins s σ H D I q
 rw[exec_Assign_Name_used _ _ _ _ hs]
 refine Nb (wpAny_standAt (Nb (thn (h pins s σ H _ I q) fun _ s1 ⟨v,H1,I1,q1⟩=>Ng ?_)))
 exact⟨_,H1,I1,q1⟩
theorem wH(hc:X.calm=true)(hcell:∀ x∈scope.names,x.2 ≠ .cell)(hkind:scope.kind = .function)(hnames:∀ x∈scope.names,x.2 = .local→scope.names.lookup x.1=some .local)
  (hfr:∀ x∈scope.names,x.2 = .free→x.1∈cps) (hN:caps.map (fun i=>X.N[i]?)=cps.map some) (hX:∀ x∈cps,X.env.scope.names.lookup x=some .cell∧scope.names.lookup x=some .free)
  (hsc:∀ x∈cps,(relabel scope X.env).names.lookup x=some .cell∨(relabel scope X.env).names.lookup x=some .free)
  (hi:PI X tg iter wi) (hg:∀ cl s3 H3 C fp pins,PG (cxF X scope cl (tgs++cps) s3 H3 C fp pins) tg g) (hq:∀ cl s3 H3 C fp pins,bQ (cxF X scope cl (tgs++cps) s3 H3 C fp pins) ifs tc) (he:∀ cl s3 H3 C fp pins,PE (cxF X scope cl (tgs++cps) s3 H3 C fp pins) elt te)
  {i:Nat} {x:Str} {pos':Pos} (hNd:X.N.Nodup) (hxi:X.N[i]? = some x) (hx:Loc X.env.scope x) (hf:X.fn x=true∨X.env.scope.names.lookup x=some .local)
  (hs:∀ x,foldedSetIterable iter X.env x=pure x:=by intro _;rfl):PU X i x pos' (.ListComp elt [⟨tg,iter,ifs,0⟩] scope pos) (oW tgs.length caps wi g tc te):=by
 intro pins s σ H Q I h
 refine Nb (thn (iH (use:=some (assign (.Name x pos') X.env)) (Qf:=fun _ s'=>∃ v H',Inv X pins (σ.set i (some v)) H' s'∧Q v H') hc hcell hkind hnames hfr hN hX hsc hi hg hq he hs I h fun D C s' H4 m4 hn4 fC hI q4=>?_) fun _ s1 z=>Ng z)
 have I4:Inv X pins σ H4 s':=hI s'.heap (Heap.SameBut.refl _ _)
 show wpAny _ _ (assign (.Name x pos') X.env (.ref D)) _ _ s'
 refine wpAny_assign_Name (hJ (v:=.ref D) I4 hNd hxi hx rfl (fun s2 I2 ⟨a,hsb,ha⟩=>?_) hf)
 have hac:C≠a:=by
  rcases ha with ha|ha
  ·rw[ha];exact fC.2.1
  ·exact Ne.symm (fC.2.2.2.2.1 x a ha)
 refine⟨m4,hn4.sameBut hsb hac,fun h' hs'=>⟨.ref D,H4,?_,q4⟩⟩
 exact I2.turned (t':=s2.toks) (fun b o hb e=>hs'.extBut b o hb e) fC.1 fC.2.1 fC.2.2.2.1 fC.2.2.2.2.1 fC.2.2.2.2.2
end
end L2
namespace L2
open PySem
noncomputable def SI:Bool→Heap→Addr→Addr→Nat→Prop
 | true,h,it,a,i=>h.IsListIter it a i
 | false,h,it,a,i=>h.IsTupleIter it a i
noncomputable def SS:Bool→Heap→Addr→Array Value→Prop
 | true,h,a,xs=>h.IsList a xs
 | false,h,a,xs=>h.IsTuple a xs
theorem SI.at{k:Bool}{h h':Heap}{it a:Addr}{i:Nat}(x:SI k h it a i)(f:∀ o,h.get? it=some o→h'.get? it=some o):SI k h' it a i:=by
 cases k<;>(obtain⟨o,e,r⟩:=x;exact⟨o,f o e,r⟩)
theorem SS.at{k:Bool}{h h':Heap}{a:Addr}{xs:Array Value}(x:SS k h a xs)(f:∀ o,h.get? a=some o→h'.get? a=some o):SS k h' a xs:=by
 cases k<;>(obtain⟨o,e,r⟩:=x;exact⟨o,f o e,r⟩)
theorem SI.obj{k:Bool}{h:Heap}{it a:Addr}{i:Nat}(x:SI k h it a i):∃ o,h.get? it=some o∧∀ v,o.data ≠ .cell v:=by
 cases k<;>(obtain⟨o,e,c,d⟩:=x;exact⟨o,e,fun v z=>by rw[d]at z;cases z⟩)
theorem SS.obj{k:Bool}{h:Heap}{a:Addr}{xs:Array Value}(x:SS k h a xs):∃ o,h.get? a=some o:=by
 cases k<;>(obtain⟨o,e,_⟩:=x;exact⟨o,e⟩)
section
variable {prog:Program} {w:World} {A:Around} {E:Value→Shared→Prop} {s:Shared}
theorem tD{p t:Addr}{n:Nat}{xs:Array Value}{v:Value}{Q:Value→Shared→Prop}(hp:s.heap.IsTupleIter p t n)(ht:s.heap.IsTuple t xs)(hv:xs[n]? = some v)
  (q:∀ h',h'.IsTupleIter p t (n+1)→Heap.SameBut p s.heap h'→Q v { s with heap:=h' }):wpAny (model prog w) A (Builtin.SmallTypes.nextOf (.ref p)) Q E s:=by
 obtain⟨ob,e1,e2,e3⟩:=id hp
 obtain⟨ot,f1,_,cap,f2⟩:=ht
 unfold Builtin.SmallTypes.nextOf
 refine Nb (wpAny_callSpecial?_slot (name:=Str.ofString "__next__") hp.typeIs F.slot_tuple_iterator_next (wpAny_call_entry F.slot_tuple_iterator_next hp.typeIs F.entry_tuple_iterator_next ?_ (F.args_tuple_iterator_next_1 _)))
 show wpAny _ _ (field (.ref p) 0 >>= _) _ _ s
 refine Nb (wpAny_field e1 e3 (x:=.ref t) rfl ?_)
 show wpAny _ _ (if (Value.ref t == Value.none)=true then _ else _) _ _ s
 rw[if_neg (fun z:(Value.ref t == Value.none)=true=>nomatch z)]
 show wpAny _ _ (field (.ref p) 1 >>= _) _ _ s
 refine Nb (wpAny_field e1 e3 (x:=.int n 0) rfl ?_)
 show wpAny _ _ (seqItems? (.ref t) >>= _) _ _ s
 refine Nb (wpAny_seqItems f1 f2 ?_)
 simp only[NI,hv]
 refine Nb (wpAny_setField e1 e3 (by simp) (Ng ⟨v,rfl,Ng (q _ ⟨_,Oi _ e1 (Obj.isFreed_of_fields (Obj.data_mapFields e3 _)),(Obj.cls_mapFields ..).trans e2,?_⟩ (Heap.SameBut.update ..))⟩))
 rw[Obj.data_mapFields e3];simp[rawInt]
theorem vI{p t:Addr}{n:Nat}{xs:Array Value}{Q:Value→Shared→Prop}(hA:A.handled=none)(hp:s.heap.IsTupleIter p t n)(ht:s.heap.IsTuple t xs)(hv:xs[n]? = none)
  (q:∀ h' e,Heap.ExtBut p s.heap h'→(∃ o,h'.get? e=some o∧o.cls = .type "StopIteration")→E (.ref e) { s with heap:=h' }):wpAny (model prog w) A (Builtin.SmallTypes.nextOf (.ref p)) Q E s:=by
 obtain⟨ob,e1,e2,e3⟩:=id hp
 obtain⟨ot,f1,_,cap,f2⟩:=ht
 unfold Builtin.SmallTypes.nextOf
 refine Nb (wpAny_callSpecial?_slot (name:=Str.ofString "__next__") hp.typeIs F.slot_tuple_iterator_next (wpAny_call_entry F.slot_tuple_iterator_next hp.typeIs F.entry_tuple_iterator_next ?_ (F.args_tuple_iterator_next_1 _)))
 show wpAny _ _ (field (.ref p) 0 >>= _) _ _ s
 refine Nb (wpAny_field e1 e3 (x:=.ref t) rfl ?_)
 show wpAny _ _ (if (Value.ref t == Value.none)=true then _ else _) _ _ s
 rw[if_neg (fun z:(Value.ref t == Value.none)=true=>nomatch z)]
 show wpAny _ _ (field (.ref p) 1 >>= _) _ _ s
 refine Nb (wpAny_field e1 e3 (x:=.int n 0) rfl ?_)
 show wpAny _ _ (seqItems? (.ref t) >>= _) _ _ s
 refine Nb (wpAny_seqItems f1 f2 ?_)
 simp only[NI,hv]
 refine Nb (wpAny_rule (Nb (wpAny_setField e1 e3 (by simp) ?_)))
 show wpAny _ _ (newExc (.type "StopIteration") [] >>= _) _ _ _
 refine Nb ?_;simp only[newExc,newTuple]
 refine Nb (wpAny_newObj_type ?_ (by size_fits));refine Nb (m:=firstArgMember _ _) (wpAny_of_eq (a:=Value.none) (by first|rfl|(simp only[firstArgMember];rfl)) ?_)
 refine wpAny_newObj_type ?_ (by size_fits);simp only[raiseNew];refine Nb (wpAny_handled ?_)
 first|rw[show A.in1.handled=none from hA]|rw[hA]
 refine Nb (Ng (wpAny_throw (q _ _ (((Heap.SameBut.update ..).extBut.push _).push _) ⟨_,Ni _ rfl,rfl⟩)))
theorem Q2{k:Bool}{p a:Addr}{n:Nat}{xs:Array Value}{v:Value}{Q:Value→Shared→Prop}(hp:SI k s.heap p a n)(ha:SS k s.heap a xs)(hv:xs[n]? = some v)
  (q:∀ h',SI k h' p a (n+1)→Heap.SameBut p s.heap h'→Q v { s with heap:=h' }):wpAny (model prog w) A (Builtin.SmallTypes.nextOf (.ref p)) Q E s:=by
 cases k with
 | true=>exact wpAny_nextOf_list_item hp ha hv q
 | false=>exact tD hp ha hv q
theorem je{k:Bool}{p a:Addr}{n:Nat}{xs:Array Value}{Q:Value→Shared→Prop}(hA:A.handled=none)(hp:SI k s.heap p a n)(ha:SS k s.heap a xs)(hv:xs[n]? = none)
  (q:∀ h' e,Heap.ExtBut p s.heap h'→(∃ o,h'.get? e=some o∧o.cls = .type "StopIteration")→E (.ref e) { s with heap:=h' }):wpAny (model prog w) A (Builtin.SmallTypes.nextOf (.ref p)) Q E s:=by
 cases k with
 | true=>exact wpAny_nextOf_list_end hA hp ha hv q
 | false=>exact vI hA hp ha hv q
theorem SI.but{k:Bool}{h h':Heap}{it a b:Addr}{i:Nat}(x:SI k h it a i)(e:Heap.ExtBut b h h')(n:it≠b):SI k h' it a i:=x.at fun o z=>e it o n z
theorem SS.but{k:Bool}{h h':Heap}{a b:Addr}{xs:Array Value}(x:SS k h a xs)(e:Heap.ExtBut b h h')(n:a≠b):SS k h' a xs:=x.at fun o z=>e a o n z
theorem zr{z TI TO p1 p2 l1 l2:Addr}{c1 c2:Bool}{n1 n2:Nat}{xs ys:Array Value}{v1 v2 u1 u2:Value}{Q:Option Value→Shared→Prop}(D:ZipApart z TI TO p1 p2 l1 l2)
  (iz:IsZip s.heap z TI TO .none) (iI:IsPair s.heap TI (.ref p1) (.ref p2)) (iO:IsPair s.heap TO u1 u2) (g1:SI c1 s.heap p1 l1 n1) (g2:SI c2 s.heap p2 l2 n2) (m1:SS c1 s.heap l1 xs) (m2:SS c2 s.heap l2 ys) (w1:xs[n1]? = some v1) (w2:ys[n2]? = some v2)
  (q:∀ h',IsZip h' z TI TO (rawInt s.heap.objs.size)→IsPair h' TO v1 v2→SI c1 h' p1 l1 (n1+1)→SI c2 h' p2 l2 (n2+1)→IsPair h' s.heap.objs.size v1 v2→h'.objs.size=s.heap.objs.size+1 →
   (∀ b o,b≠z→b≠TO→b≠p1→b≠p2→s.heap.get? b=some o→h'.get? b=some o)→Q (some (.ref s.heap.objs.size)) { s with heap:=h' }):wpAny (model prog w) A (pyNext (.ref z)) Q E s:=by
 have ty:s.TypeIs (.ref z) "zip" := ⟨_,iz,rfl⟩
 unfold pyNext
 refine Nb (wpAny_attempt (wpAny_callSpecial?_slot (name:=Str.ofString "__next__") ty F.slot_zip_next (wpAny_call_entry F.slot_zip_next ty F.entry_zip_next ?_ (F.args_zip_next_1 _))))
 show wpAny _ _ (field (.ref z) 2 >>= _) _ _ _
 refine Nb (wpAny_field iz rfl (x:=.bool false) rfl ?_)
 show wpAny _ _ (field (.ref z) 3 >>= _) _ _ _
 refine Nb (wpAny_field iz rfl (x:=.ref TI) rfl (Nb (wpAny_seqItems iI rfl ?_)))
 show wpAny _ _ (Builtin.SmallTypes.ownedTupleIsFree (.ref z) >>= _) _ _ _
 refine Nb ?_;unfold Builtin.SmallTypes.ownedTupleIsFree
 refine Nb (wpAny_field iz rfl (x:=.none) rfl (Ng ?_));simp only[if_true]
 refine Nb (wpAny_rule (Nb (wpAny_field iz rfl (x:=.ref TO) rfl (Nb (wpAny_setField_rec iz (by simp) fun ha za sa=>?_)))))
 replace za:IsZip ha z TI TO .ellipsis:=za
 refine Nb ?_;simp only[OE,PQ,Pm,Qh]
 refine Nb (Nb (wpAny_onRaise ?_))
 show wpAny _ _ (Builtin.SmallTypes.nextOf (.ref p1) >>= _) _ _ _
 refine Nb (Q2 (g1.but sa.extBut D.i1z) (m1.but sa.extBut D.l1z) w1 fun hb gb sb=>Ng ?_)
 have oB:IsPair hb TO u1 u2:=sb.extBut _ _ D.TOi1 (sa.extBut _ _ D.TOz iO)
 refine Nb (wpAny_seqItems oB rfl (Nb (wpAny_updateSeq_pair oB fun hc oC sc=>?_)))
 replace oC:IsPair hc TO v1 u2:=oC
 refine Nb (wpAny_letGo (Ng (Nb (Nb (wpAny_onRaise ?_)))))
 show wpAny _ _ (Builtin.SmallTypes.nextOf (.ref p2) >>= _) _ _ _
 refine Nb (Q2 (((g2.but sa.extBut D.i2z).but sb.extBut D.i12.symm).but sc.extBut D.TOi2.symm) (((m2.but sa.extBut D.l2z).but sb.extBut D.l2i1).but sc.extBut D.l2TO) w2 fun hd gd sd=>Ng ?_)
 have oD:IsPair hd TO v1 u2:=sd.extBut _ _ D.TOi2 oC
 refine Nb (wpAny_seqItems oD rfl (Nb (wpAny_updateSeq_pair oD fun he oE se=>?_)))
 replace oE:IsPair he TO v1 v2:=oE
 refine Nb (wpAny_letGo (Ng (Ng (Nb (wpAny_seqItems oE rfl (Nb (wpAny_newTuple ?_)))))))
 have zs:he.objs.size=s.heap.objs.size:=by rw[se.1,sd.1,sc.1,sb.1,sa.1]
 have zE:IsZip he z TI TO .ellipsis:=se.extBut _ _ D.TOz.symm (sd.extBut _ _ D.i2z.symm (sc.extBut _ _ D.TOz.symm (sb.extBut _ _ D.i1z.symm za)))
 have kE:∀ b o,b≠z→b≠TO→b≠p1→b≠p2→s.heap.get? b=some o→he.get? b=some o:=fun b o b1 b2 b3 b4 e=>se.extBut _ _ b2 (sd.extBut _ _ b4 (sc.extBut _ _ b2 (sb.extBut _ _ b3 (sa.extBut _ _ b1 e))))
 have gE1:SI c1 he p1 l1 (n1+1):=((gb.but sc.extBut D.TOi1.symm).but sd.extBut D.i12).but se.extBut D.TOi1.symm
 have gE2:SI c2 he p2 l2 (n2+1):=gd.but se.extBut D.TOi2.symm
 have ltz:z<he.objs.size:=Nn zE
 show wpAny _ _ (Builtin.SmallTypes.ownedTupleHandOut (.ref z) (.ref he.objs.size) >>= _) _ _ _
 refine Nb ?_;unfold Builtin.SmallTypes.ownedTupleHandOut
 refine Nb (wpAny_setField_rec (Nc _ zE) (by simp) fun hf zf sf=>?_)
 replace zf:IsZip hf z TI TO (rawInt he.objs.size):=zf
 refine wpAny_setField_rec zf (by simp) fun hg zg sg=>?_
 replace zg:IsZip hg z TI TO (rawInt he.objs.size):=zg
 have lift:∀ b o,b≠z→he.get? b=some o→hg.get? b=some o:=fun b o b1 e=>sg.extBut _ _ b1 (sf.extBut _ _ b1 (Nc _ e))
 have tG:IsPair hg he.objs.size v1 v2:=sg.extBut _ _ (NW ltz) (sf.extBut _ _ (NW ltz) (Ni _ rfl))
 have zz:hg.objs.size=he.objs.size+1:=by rw[sg.1,sf.1,NT]
 rw[zs]at zg tG zz
 refine Ng ⟨_,rfl,Ng ?_⟩
 show Q (some (.ref he.objs.size)) _
 rw[zs]
 exact q hg zg (lift _ _ D.TOz oE) (gE1.at fun o e=>lift _ o D.i1z e) (gE2.at fun o e=>lift _ o D.i2z e) tG zz fun b o b1 b2 b3 b4 e=>lift b o b1 (kE b o b1 b2 b3 b4 e)
theorem El{z TI TO p1 p2 l1 l2:Addr}{c1 c2:Bool}{n1 n2:Nat}{xs ys:Array Value}{u1 u2:Value}{Q:Option Value→Shared→Prop}(hA:A.handled=none)(D:ZipApart z TI TO p1 p2 l1 l2)
  (iz:IsZip s.heap z TI TO .none) (iI:IsPair s.heap TI (.ref p1) (.ref p2)) (iO:IsPair s.heap TO u1 u2) (g1:SI c1 s.heap p1 l1 n1) (g2:SI c2 s.heap p2 l2 n2) (m1:SS c1 s.heap l1 xs) (m2:SS c2 s.heap l2 ys) (fin:xs[n1]? = none∨ys[n2]? = none)
  (q:∀ h',(∀ b o,b≠z→b≠TO→b≠p1→b≠p2→s.heap.get? b=some o→h'.get? b=some o)→Q none { s with heap:=h' }):wpAny (model prog w) A (pyNext (.ref z)) Q E s:=by
 have ty:s.TypeIs (.ref z) "zip" := ⟨_,iz,rfl⟩
 unfold pyNext
 have out:∀(h':Heap) (e:Addr),(∀ b o,b≠z→b≠TO→b≠p1→b≠p2→s.heap.get? b=some o→h'.get? b=some o)→(∃ o,h'.get? e=some o∧o.cls = .type "StopIteration") →
   wpAny (model prog w) A (do if ← isInstance (.ref e) (.type "StopIteration")then pure none else throw (.ref e):Sem (Option Value)) Q E { s with heap:=h' }:=fun h' e k ⟨o,e1,e2⟩ =>
  Nb (wpAny_isInstance (T := "StopIteration") (b:=true) ⟨o,e1,e2⟩ isSubtype_stop (Ng (q h' k)))
 refine Nb (wpAny_attempt (wpAny_callSpecial?_slot (name:=Str.ofString "__next__") ty F.slot_zip_next (wpAny_call_entry F.slot_zip_next ty F.entry_zip_next ?_ (F.args_zip_next_1 _))))
 show wpAny _ _ (field (.ref z) 2 >>= _) _ _ _
 refine Nb (wpAny_field iz rfl (x:=.bool false) rfl ?_)
 show wpAny _ _ (field (.ref z) 3 >>= _) _ _ _
 refine Nb (wpAny_field iz rfl (x:=.ref TI) rfl (Nb (wpAny_seqItems iI rfl ?_)))
 show wpAny _ _ (Builtin.SmallTypes.ownedTupleIsFree (.ref z) >>= _) _ _ _
 refine Nb ?_;unfold Builtin.SmallTypes.ownedTupleIsFree
 refine Nb (wpAny_field iz rfl (x:=.none) rfl (Ng ?_));simp only[if_true]
 refine Nb (wpAny_rule (Nb (wpAny_field iz rfl (x:=.ref TO) rfl (Nb (wpAny_setField_rec iz (by simp) fun ha za sa=>?_)))))
 replace za:IsZip ha z TI TO .ellipsis:=za
 refine Nb ?_;simp only[OE,PQ,Pm,Qh]
 refine Nb (Nb (wpAny_onRaise ?_))
 show wpAny _ _ (Builtin.SmallTypes.nextOf (.ref p1) >>= _) _ _ _
 cases w1:xs[n1]? with
 | none =>
  refine Nb (je hA (g1.but sa.extBut D.i1z) (m1.but sa.extBut D.l1z) w1 fun hb e sb zz=>?_)
  obtain⟨oe,oe1,oe2⟩:=zz
  have zb:IsZip hb z TI TO .ellipsis:=sb _ _ D.i1z.symm za
  have nz:e≠z:=fun y=>by subst y;rw[zb]at oe1;cases oe1;simp at oe2
  refine wpAny_setField_rec zb (by simp) fun hc _ sc=>out hc e (fun b o b1 _ b3 _ y=>sc.extBut _ _ b1 (sb _ _ b3 (sa.extBut _ _ b1 y))) ⟨oe,sc.extBut _ _ nz oe1,oe2⟩
 | some v1 =>
  have w2:ys[n2]? = none:=fin.resolve_left (by rw[w1];exact fun y=>nomatch y)
  refine Nb (Q2 (g1.but sa.extBut D.i1z) (m1.but sa.extBut D.l1z) w1 fun hb gb sb=>Ng ?_)
  have oB:IsPair hb TO u1 u2:=sb.extBut _ _ D.TOi1 (sa.extBut _ _ D.TOz iO)
  refine Nb (wpAny_seqItems oB rfl (Nb (wpAny_updateSeq_pair oB fun hc oC sc=>?_)))
  refine Nb (wpAny_letGo (Ng (Nb (Nb (wpAny_onRaise ?_)))))
  show wpAny _ _ (Builtin.SmallTypes.nextOf (.ref p2) >>= _) _ _ _
  refine Nb (je hA (((g2.but sa.extBut D.i2z).but sb.extBut D.i12.symm).but sc.extBut D.TOi2.symm) (((m2.but sa.extBut D.l2z).but sb.extBut D.l2i1).but sc.extBut D.l2TO) w2 fun hd e sd zz=>?_)
  obtain⟨oe,oe1,oe2⟩:=zz
  have zd:IsZip hd z TI TO .ellipsis:=sd _ _ D.i2z.symm (sc.extBut _ _ D.TOz.symm (sb.extBut _ _ D.i1z.symm za))
  have nz:e≠z:=fun y=>by subst y;rw[zd]at oe1;cases oe1;simp at oe2
  refine wpAny_setField_rec zd (by simp) fun he _ se=>out he e (fun b o b1 b2 b3 b4 y=>se.extBut _ _ b1 (sd _ _ b4 (sc.extBut _ _ b2 (sb.extBut _ _ b3 (sa.extBut _ _ b1 y))))) ⟨oe,se.extBut _ _ nz oe1,oe2⟩
end
noncomputable abbrev itO(k:Bool)(a:Addr):Obj:={ cls:=.type (if k then "list_iterator" else "tuple_iterator"),data:=.fields #[.ref a,.int 0 0] }
noncomputable abbrev zA(k1:Bool)(h:Heap)(l1:Addr):Heap:=h.push (itO k1 l1)
noncomputable abbrev zB(k1 k2:Bool)(h:Heap)(l1 l2:Addr):Heap:=(zA k1 h l1).push (itO k2 l2)
noncomputable abbrev zC(k1 k2:Bool)(h:Heap)(l1 l2:Addr):Heap:=(zB k1 k2 h l1 l2).push { cls:=.type "tuple",data:=.seq #[.ref h.objs.size,.ref (zA k1 h l1).objs.size] }
noncomputable abbrev zD(k1 k2:Bool)(h:Heap)(l1 l2:Addr):Heap:=(zC k1 k2 h l1 l2).push { cls:=.type "tuple",data:=.seq #[.none,.none] }
noncomputable abbrev zE(k1 k2:Bool)(h:Heap)(l1 l2:Addr):Heap:=(zD k1 k2 h l1 l2).push { cls:=.type "zip",data:=.fields #[.none,.bool false,.bool false,.ref (zB k1 k2 h l1 l2).objs.size,.ref (zC k1 k2 h l1 l2).objs.size] }
set_option maxHeartbeats 2000000 in
theorem Ek(k1 k2:Bool)(l1 l2:Addr)(xs ys:Array Value) :
  Meets (Builtin.«zip.__new__» ⟨[.type "zip",.ref l1,.ref l2],[]⟩) (fun _ R s=>SS k1 s.heap l1 xs∧SS k2 s.heap l2 ys∧R (.ok (.ret (.ref (zD k1 k2 s.heap l1 l2).objs.size))) { s with heap:=zE k1 k2 s.heap l1 l2 }) :=
 .of_wp fun prog w A R s h=>by
  obtain⟨hp,g,d,tk,os⟩:=s
  obtain⟨ha,hb,h⟩:=h
  have hsub:=sub_zip
  cases k1 with
  | true =>
   have a1:Heap.IsList (Shared.heap ⟨hp,g,d,tk,os⟩) l1 xs:=ha
   cases k2 with
   | true =>
    have a2:Heap.IsList (Shared.heap ⟨hp.push { cls:=.type "list_iterator",data:=.fields #[.ref l1,.int 0 0] },g,d,tk,os⟩) l2 ys:=Heap.IsList.push hb _
    wp_walk using wpAny_pyIter_list a1,wpAny_pyIter_list a2
    exact⟨_,rfl,h⟩
   | false =>
    have a2:Heap.IsTuple (Shared.heap ⟨hp.push { cls:=.type "list_iterator",data:=.fields #[.ref l1,.int 0 0] },g,d,tk,os⟩) l2 ys:=Heap.IsTuple.push hb _
    wp_walk using wpAny_pyIter_list a1,wpAny_pyIter_tuple a2
    exact⟨_,rfl,h⟩
  | false =>
   have a1:Heap.IsTuple (Shared.heap ⟨hp,g,d,tk,os⟩) l1 xs:=ha
   cases k2 with
   | true =>
    have a2:Heap.IsList (Shared.heap ⟨hp.push { cls:=.type "tuple_iterator",data:=.fields #[.ref l1,.int 0 0] },g,d,tk,os⟩) l2 ys:=Heap.IsList.push hb _
    wp_walk using wpAny_pyIter_tuple a1,wpAny_pyIter_list a2
    exact⟨_,rfl,h⟩
   | false =>
    have a2:Heap.IsTuple (Shared.heap ⟨hp.push { cls:=.type "tuple_iterator",data:=.fields #[.ref l1,.int 0 0] },g,d,tk,os⟩) l2 ys:=Heap.IsTuple.push hb _
    wp_walk using wpAny_pyIter_tuple a1,wpAny_pyIter_tuple a2
    exact⟨_,rfl,h⟩
section
variable {prog:Program} {w:World} {A:Around} {E:Value→Shared→Prop} {s:Shared}
theorem Ck{k1 k2:Bool}{l1 l2:Addr}{xs ys:Array Value}{Q:Value→Shared→Prop}(ha:SS k1 s.heap l1 xs)(hb:SS k2 s.heap l2 ys)
  (q:∀ h',IsZip h' (s.heap.objs.size+4) (s.heap.objs.size+2) (s.heap.objs.size+3) .none→IsPair h' (s.heap.objs.size+2) (.ref s.heap.objs.size) (.ref (s.heap.objs.size+1))→IsPair h' (s.heap.objs.size+3) .none .none →
   SI k1 h' s.heap.objs.size l1 0→SI k2 h' (s.heap.objs.size+1) l2 0→h'.objs.size=s.heap.objs.size+5→(∀ b o,s.heap.get? b=some o→h'.get? b=some o)→Q (.ref (s.heap.objs.size+4)) { s with heap:=h' }) :
  wpAny (model prog w) A (call (.type "zip") [.ref l1,.ref l2]) Q E s:=by
 refine callType_new F.called_zip (by decide) (F.typeCall_zip_2 _ _) (F.newCall_zip_2 _ _) (fun obj=>F.args_object_init_3 obj _ _) F.entry_zip_new (Ek k1 k2 l1 l2 xs ys) ⟨ha,hb,?_⟩
 have s1:(zA k1 s.heap l1).objs.size=s.heap.objs.size+1:=NT ..
 have s2:(zB k1 k2 s.heap l1 l2).objs.size=s.heap.objs.size+2:=(NT ..).trans (by rw[s1])
 have s3:(zC k1 k2 s.heap l1 l2).objs.size=s.heap.objs.size+3:=(NT ..).trans (by rw[s2])
 have s4:(zD k1 k2 s.heap l1 l2).objs.size=s.heap.objs.size+4:=(NT ..).trans (by rw[s3])
 have s5:(zE k1 k2 s.heap l1 l2).objs.size=s.heap.objs.size+5:=(NT ..).trans (by rw[s4])
 have o5:(zE k1 k2 s.heap l1 l2).get? (zD k1 k2 s.heap l1 l2).objs.size=some _:=Ni _ rfl
 have up1:∀ b o,(zD k1 k2 s.heap l1 l2).get? b=some o→(zE k1 k2 s.heap l1 l2).get? b=some o:=fun b o e=>Nc _ e
 have o4:(zE k1 k2 s.heap l1 l2).get? (zC k1 k2 s.heap l1 l2).objs.size=some _:=up1 _ _ (Ni _ rfl)
 have up2:∀ b o,(zC k1 k2 s.heap l1 l2).get? b=some o→(zE k1 k2 s.heap l1 l2).get? b=some o:=fun b o e=>up1 b o (Nc _ e)
 have o3:(zE k1 k2 s.heap l1 l2).get? (zB k1 k2 s.heap l1 l2).objs.size=some _:=up2 _ _ (Ni _ rfl)
 have up3:∀ b o,(zB k1 k2 s.heap l1 l2).get? b=some o→(zE k1 k2 s.heap l1 l2).get? b=some o:=fun b o e=>up2 b o (Nc _ e)
 have o2:(zE k1 k2 s.heap l1 l2).get? (zA k1 s.heap l1).objs.size=some (itO k2 l2):=up3 _ _ (Ni _ rfl)
 have up4:∀ b o,(zA k1 s.heap l1).get? b=some o→(zE k1 k2 s.heap l1 l2).get? b=some o:=fun b o e=>up3 b o (Nc _ e)
 have o1:(zE k1 k2 s.heap l1 l2).get? s.heap.objs.size=some (itO k1 l1):=up4 _ _ (Ni _ rfl)
 have mk:∀(k:Bool) (b a:Addr),(zE k1 k2 s.heap l1 l2).get? b=some (itO k a)→SI k (zE k1 k2 s.heap l1 l2) b a 0:=fun k b a e=>by cases k<;>exact⟨_,e,rfl,rfl⟩
 show _∧_
 rw[s2,s3,s4]at o5
 rw[s1,s2]at o3
 rw[s3]at o4
 rw[s1]at o2
 rw[s4]
 exact⟨⟨_,o5,rfl⟩,q _ o5 o3 o4 (mk _ _ _ o1) (mk _ _ _ o2) s5 fun b o e=>up4 b o (Nc _ e)⟩
end
end L2
namespace L2
open PySem PySem.Spec PyProof.Rows
section
variable {X:Cx} {pins:List (Addr × Obj)} {σ:St} {H:Hp} {s:Shared} {h':Heap}
theorem Inv.turnedN{t':Nat}{ch:List Addr}(I:Inv X pins σ H s)(k:∀ b o,b∉ch→s.heap.get? b=some o→h'.get? b=some o)(hf:∀ b∈ch,Y3 X pins H b):Inv X pins σ H { s with heap:=h',toks:=t' }:=by
 have nit:∀ b u,H b=some u→b∉ch:=fun b u e z=>by rw[(hf b z).1]at e;cases e
 refine I.step (g':=s.gens) (d':=s.drawn) (ch:=ch) (fun b hb=>?_) (fun b o _ _ hc e _=>k b o hc e) (fun b o _ _ hc e _=>⟨o.slots,k b o hc e⟩) (fun _ _ _ _ n=>n)
  (fun b o hc e=>⟨o,k b o hc e⟩) (fun _ _ e=>e) (fun _ _ _ e=>e) (fun b ps e=>⟨#[],by rw[e];simp⟩) (fun m hm=>?_) (fun b u e=>?_) I.bare
 ·obtain⟨_,q1,_,q3,q4,q5⟩:=hf b hb
  exact⟨q3,q1,q4,q5⟩
 ·obtain⟨o,es,ep,ho,r⟩:=hm
  exact⟨o,es,ep,k _ o (fun z=>(hf _ z).2.1 rfl) ho,r⟩
 ·refine(I.hok b u e).stay (fun c v hc q=>k c v ?_ q) (fun _ q=>q) fun _ _ q=>q
  rcases hc with z|z
  ·rw[z];exact nit b u e
  ·exact nit c _ z
end
def SqK(K:Nd)(k:Bool)(H:Hp)(a:Addr)(xs:List V):Prop:=if k=true then SqL K H a xs else SqT K H a xs
theorem Inv.sqk{X:Cx}{pins:List (Addr × Obj)}{σ:St}{H:Hp}{s:Shared}(I:Inv X pins σ H s){k:Bool}{a:Addr}{xs:List V}(h:SqK X.K k H a xs):∃ its:List Value,j6 xs its∧SS k s.heap a its.toArray:=by
 cases k with
 | true =>
  obtain⟨its,r,p,_⟩:=I.list (show SqL X.K H a xs from h)
  exact⟨its,r,p.isList⟩
 | false =>
  obtain⟨its,r,p,_⟩:=I.tuple (show SqT X.K H a xs from h)
  exact⟨its,r,p⟩
theorem Inv.sqk_inj{X:Cx}{pins:List (Addr × Obj)}{σ:St}{H:Hp}{s:Shared}(I:Inv X pins σ H s){k:Bool}{a:Addr}{xs ys:List V}(h:SqK X.K k H a xs)(h2:SqK X.K k H a ys):xs=ys:=by
 cases k with
 | true=>exact I.list_inj (show SqL X.K H a xs from h) (show SqL X.K H a ys from h2)
 | false=>exact I.tuple_inj (show SqT X.K H a xs from h) (show SqT X.K H a ys from h2)
noncomputable def Itz(K:Nd)(k1 k2:Bool)(l1 l2:Addr):It :=
 ⟨fun i H=>∃ xs ys x y,SqK K k1 H l1 xs∧SqK K k2 H l2 ys∧xs[i]? = some x∧ys[i]? = some y,
  fun i H v H'=>∃ T x y,H T=none∧v = .ref T∧H'=upd H T (.tup [x,y])∧(∀ xs,SqK K k1 H l1 xs→xs[i]? = some x)∧∀ ys,SqK K k2 H l2 ys→ys[i]? = some y,
  fun i H=>∃ xs ys,SqK K k1 H l1 xs∧SqK K k2 H l2 ys∧(xs.length≤i∨ys.length≤i)⟩
def Jf(k1 k2:Bool)(z TI TO p1 p2 l1 l2:Addr)(i:Nat)(h:Heap):Prop:=IsZip h z TI TO .none∧IsPair h TI (.ref p1) (.ref p2)∧(∃ a b,IsPair h TO a b)∧SI k1 h p1 l1 i∧SI k2 h p2 l2 i
theorem vH{P:Program}{w:World}{K:Nd}{elts:List Expr}{kx:Nat}{tp:Pos}{k1 k2:Bool}{z TI TO p1 p2 l1 l2:Addr}(D:ZipApart z TI TO p1 p2 l1 l2) :
  oK P w K (.Tuple elts kx tp) (Itz K k1 k2 l1 l2) [z,TI,TO,p1,p2] z (Jf k1 k2 z TI TO p1 p2 l1 l2) where
 mem:=by simp
 obj:=fun i h ⟨iz,iI,⟨a,b,iO⟩,g1,g2⟩ c hc=>by
  simp only[Nh,Nv,or_false]at hc
  rcases hc with rfl|rfl|rfl|rfl|rfl
  ·exact⟨_,iz,fun v e=>by cases e⟩
  ·exact⟨_,iI,fun v e=>by cases e⟩
  ·exact⟨_,iO,fun v e=>by cases e⟩
  ·exact g1.obj
  ·exact g2.obj
 keep:=fun i h h' ⟨iz,iI,⟨a,b,iO⟩,g1,g2⟩ k=>⟨k z (by simp) _ iz,k TI (by simp) _ iI,⟨a,b,k TO (by simp) _ iO⟩,g1.at fun o e=>k p1 (by simp) o e,g2.at fun o e=>k p2 (by simp) o e⟩
 item:=by
  intro X hP hw hK hc i pins s σ H E I hf st hg
  subst hP hw hK
  obtain⟨iz,iI,⟨a,b,iO⟩,g1,g2⟩:=st
  obtain⟨xs,ys,x,y,q1,q2,hx,hy⟩:=hg
  obtain⟨is1,r1,m1⟩:=I.sqk q1
  obtain⟨is2,r2,m2⟩:=I.sqk q2
  obtain⟨u1,hu1,ru1⟩:=r1.get hx
  obtain⟨u2,hu2,ru2⟩:=r2.get hy
  refine zr D iz iI iO g1 g2 m1 m2 (v1:=u1) (v2:=u2) (by simpa using hu1) (by simpa using hu2) fun h' a1 a2 a3 a4 a5 a6 kk=>?_
  refine⟨_,rfl,?_⟩
  refine wpAny_letOwnedTupleGo_zip (s:={ s with heap:=h' }) a1 fun h2 b1 b2=>?_
  have lt:∀{c o},s.heap.get? c=some o→c≠s.heap.objs.size:=fun e=>NC (Nn e)
  have nz:s.heap.objs.size≠z:=Ne.symm (lt iz)
  have I1:Inv X pins σ (upd H s.heap.objs.size (.tup [x,y])) { s with heap:=s.heap.push { cls:=.type "tuple",data:=.seq #[u1,u2] },toks:=s.toks } :=
   I.laid (o:=.tup [x,y]) (fun b ob q=>Nc _ q) (Ny _) ⟨(show 2≤sizeLine by decide),[u1,u2],.cons ru1 (.cons ru2 .nil),IsTup.new _ _⟩
  have nfp:∀ c∈[z,TI,TO,p1,p2],c≠s.heap.objs.size:=fun c hc=>by
   simp only[Nh,Nv,or_false]at hc
   rcases hc with rfl|rfl|rfl|rfl|rfl
   ·exact lt iz
   ·exact lt iI
   ·exact lt iO
   ·obtain⟨o,e,_⟩:=g1.obj;exact lt e
   ·obtain⟨o,e,_⟩:=g2.obj;exact lt e
  have hf':∀ c∈[z,TI,TO,p1,p2],Y3 X pins (upd H s.heap.objs.size (.tup [x,y])) c:=fun c hc=>by
   obtain⟨f0,f1⟩:=hf c hc
   exact⟨by rw[g6 (nfp c hc)];exact f0,f1⟩
  have I2:Inv X pins σ (upd H s.heap.objs.size (.tup [x,y])) { s with heap:=h2,toks:=s.toks }:=by
   refine Inv.turnedN (s:={ s with heap:=s.heap.push { cls:=.type "tuple",data:=.seq #[u1,u2] },toks:=s.toks }) (t':=s.toks) (h':=h2) (ch:=[z,TI,TO,p1,p2]) I1 (fun c o hcn e=>?_) hf'
   simp only[Nh,Nv,or_false,not_or]at hcn
   obtain⟨n1,n2,n3,n4,n5⟩:=hcn
   refine b2.extBut c o n1 ?_
   by_cases hcs:c=s.heap.objs.size
   ·subst hcs
    have e':(s.heap.push { cls:=.type "tuple",data:=.seq #[u1,u2] }).get? s.heap.objs.size=some o:=e
    rw[Ni _ rfl]at e'
    cases e'
    exact a5
   ·have e':(s.heap.push { cls:=.type "tuple",data:=.seq #[u1,u2] }).get? c=some o:=e
    have hlt:c<s.heap.objs.size:=by
     have:=Nn e'
     rw[NT]at this
     exact Nat.lt_of_le_of_ne (Nat.le_of_lt_succ this) hcs
    have hold:s.heap.get? c=some o:=by
     have:∃ o',s.heap.get? c=some o':=by
      cases q:s.heap.get? c with
      | some o'=>exact⟨o',rfl⟩
      | none=>exact absurd e' (by rw[Qk _ _ _ hcs];rw[q];exact fun z=>nomatch z)
     obtain⟨o',ho'⟩:=this
     have:=Nc { cls:=.type "tuple",data:=.seq #[u1,u2] } ho'
     rw[e']at this
     cases this;exact ho'
    exact kk c o n1 n3 n4 n5 hold
  refine⟨.ref s.heap.objs.size,_,I2,rfl,⟨_,x,y,I.hok.fresh (Ny _),rfl,rfl,fun zs hz=>by rw[I.sqk_inj hz q1];exact hx,fun zs hz=>by rw[I.sqk_inj hz q2];exact hy⟩,?_,fun c hc=>(hf' c hc).1⟩
  have lift:∀ c o,c≠z→h'.get? c=some o→h2.get? c=some o:=fun c o n e=>b2.extBut c o n e
  exact⟨b1,lift _ _ D.TIz (kk _ _ D.TIz D.TITO D.TIi1 D.TIi2 iI),⟨_,_,lift _ _ D.TOz a2⟩,a3.at fun o e=>lift _ o D.i1z e,a4.at fun o e=>lift _ o D.i2z e⟩
 done:=by
  intro X hP hw hK hc i pins s σ H E I hf st hg
  subst hP hw hK
  obtain⟨iz,iI,⟨a,b,iO⟩,g1,g2⟩:=st
  obtain⟨xs,ys,q1,q2,hx⟩:=hg
  obtain⟨is1,r1,m1⟩:=I.sqk q1
  obtain⟨is2,r2,m2⟩:=I.sqk q2
  have e1:=r1.length
  have e2:=r2.length
  refine El (I.ok.hd hc) D iz iI iO g1 g2 m1 m2 (hx.elim (fun h=>.inl (by simp;omega)) fun h=>.inr (by simp;omega)) fun h' kk=>⟨rfl,?_⟩
  refine I.turnedN (t':=s.toks) (ch:=[z,TI,TO,p1,p2]) (fun c o hcn e=>?_) hf
  simp only[Nh,Nv,or_false,not_or]at hcn
  obtain⟨n1,n2,n3,n4,n5⟩:=hcn
  exact kk c o n1 n3 n4 n5 e
 self:=fun _ _ _ _ _ st h=>wpAny_pyIter_zip st.1 h
def JY(K:Nd)(ta:TA):TI:=fun σ H R=>ta σ H fun vs H1=>∃ k1 k2 l1 l2,vs=[.ref l1,.ref l2]∧(∃ xs,SqK K k1 H1 l1 xs)∧(∃ ys,SqK K k2 H1 l2 ys)∧R (Itz K k1 k2 l1 l2) H1
theorem Fp{X:Cx}{elts:List Expr}{kx:Nat}{tp:Pos}{a b:Expr}{ta:TA}{p pos:Pos}(hg:Gl X "zip")(hm:X.mg "zip" = none)(ha:PA X [a,b] ta)
  (hs:starEach [a,b] X.env=[(false,eval a X.env),(false,eval b X.env)]:=by rfl) (hs2:starEach [b] X.env=[(false,eval b X.env)]:=by rfl):PI X (.Tuple elts kx tp) (.Call (.Name "zip" p) [a,b] [] pos) (JY X.K ta):=by
 intro pins s σ H R I h
 refine Call_ (O3 I hg hm PyProof.Rows.boot_zip (PyProof.Rows.callWith_type1 (thn (ha pos pins s σ H _ I h) fun us s1 ⟨vs,H1,I1,r1,q1⟩=>?_) (by rw[hs,hs2]) (by rw[hs2];rfl)))
 obtain⟨k1,k2,l1,l2,e,⟨xs,q2⟩,⟨ys,q3⟩,q⟩:=q1
 subst e
 cases r1 with
 | cons r rr =>
  cases rr with
  | cons r' rr =>
   cases rr
   cases r
   cases r'
   obtain⟨is1,_,m1⟩:=I1.sqk q2
   obtain⟨is2,_,m2⟩:=I1.sqk q3
   have lt1:l1<s1.heap.objs.size:=by obtain⟨o,e⟩:=m1.obj;exact Nn e
   have lt2:l2<s1.heap.objs.size:=by obtain⟨o,e⟩:=m2.obj;exact Nn e
   refine Ck m1 m2 fun h' a1 a2 a3 a4 a5 a6 kk=>?_
   refine wpAny_pyIter_zip (s:={ s1 with heap:=h' }) a1 ?_
   have D:ZipApart (s1.heap.objs.size+4) (s1.heap.objs.size+2) (s1.heap.objs.size+3) s1.heap.objs.size (s1.heap.objs.size+1) l1 l2:=PyProof.Rows.zipApart_new lt1 lt2
   refine⟨s1.heap.objs.size+4,_,_,_,H1,rfl,I1.kept (t':=s1.toks) kk,vH D,⟨a1,a2,⟨_,_,a3⟩,a4,a5⟩,fun c hc=>?_,q⟩
   have hge:s1.heap.objs.size≤c:=by
    simp only[Nh,Nv,or_false]at hc
    rcases hc with rfl|rfl|rfl|rfl|rfl
    ·exact OQ _ _
    ·exact OQ _ _
    ·exact OQ _ _
    ·exact Ny _
    ·exact OQ _ _
   exact I1.fpOk hge (I1.hok.fresh hge)
section
variable {X:Cx} {pins:List (Addr × Obj)} {σ:St} {H:Hp} {s:Shared} {p:Addr}
theorem Inv.swap{a b:HO}(I:Inv X pins σ H s)(hp:H p=some a)(ha:(∀ x,a ≠ .own x)∧∀ xs,a ≠ .tup xs)(h1:∀ xs,X.H₀ p≠some (.tup xs))(h2:∀ o u,X.H₀ p≠some (.frz o u))(h3:∀ ps,X.H₀ p≠some (.tbl ps))
  (new:B4 X.prog X.w H s.heap p b):Inv X pins σ (upd H p b) s:=by
 have ne:∀{c:Addr},H c=none→c≠p:=fun{c} q z=>by subst z;rw[hp]at q;cases q
 have st:∀{c:Addr} {o:HO},B4 X.prog X.w H s.heap c o→B4 X.prog X.w (upd H p b) s.heap c o:=fun{c o} x =>
  x.stay (fun _ _ _ q=>q) (fun d q=>by
   have:d≠p:=by intro z;subst z;rw[hp]at q;cases q;exact ha.1 _ rfl
   rw[g6 this];exact q) fun d xs q=>by
   have:d≠p:=by intro z;subst z;rw[hp]at q;cases q;exact ha.2 _ rfl
   rw[g6 this];exact q
 refine⟨I.ok,I.os,I.bare,⟨I.base.keep,I.base.slot,fun c o e n x=>?_,I.base.there,fun c xs q=>?_,fun c o u q=>?_,fun c ps q=>?_⟩,I.loc,I.cell,?_,fun x c e=>?_,fun q hq=>?_,fun c o q=>?_,I.len⟩
 ·have:=I.base.free c o e n x
  rw[g6 (ne this)];exact this
 ·have:c≠p:=by intro z;subst z;exact h1 xs q
  rw[g6 this];exact I.base.tups c xs q
 ·have:c≠p:=by intro z;subst z;exact h2 o u q
  rw[g6 this];exact I.base.frzs c o u q
 ·have:c≠p:=by intro z;subst z;exact h3 ps q
  rw[g6 this];exact I.base.tbls c ps q
 ·rw[g6 (ne I.free)];exact I.free
 ·rw[g6 (ne (I.freeC x c e))];exact I.freeC x c e
 ·obtain⟨a1,a2,a3,a4,a5⟩:=I.pin q hq
  exact⟨a1,by rw[g6 (ne a2)];exact a2,a3,a4,a5⟩
 ·by_cases z:c=p
  ·subst z;rw[i6]at q;cases q;exact st new
  ·rw[g6 z]at q;exact st (I.hok c o q)
theorem Inv.freeze{xs:List V}(I:Inv X pins σ H s)(hp:H p=some (.lst xs)):∃ o,Inv X pins σ (upd H p (.frz o (.lst xs))) s:=by
 have k:=I.hok p _ hp
 obtain⟨z,its,n,r,e⟩:=id k
 refine⟨_,I.swap hp ⟨fun _ q=>(nomatch q),fun _ q=>(nomatch q)⟩ (fun ys q=>?_) (fun o u q=>?_) (fun ps q=>?_) ⟨e,k⟩⟩
 ·rw[I.base.tups p ys q]at hp;cases hp
 ·rw[I.base.frzs p o u q]at hp;cases hp
 ·obtain⟨more,q⟩:=I.base.tbls p ps q;rw[q]at hp;cases hp
structure Eg(X:Cx)(p:Addr):Prop where
 t:∀ xs,X.H₀ p≠some (.tup xs)
 f:∀ o u,X.H₀ p≠some (.frz o u)
 b:∀ ps,X.H₀ p≠some (.tbl ps)
theorem Inv.loose{xs:List V}(I:Inv X pins σ H s)(hp:H p=some (.lst xs)):Eg X p :=
 ⟨fun ys q=>(by rw[I.base.tups p ys q]at hp;cases hp),fun o u q=>(by rw[I.base.frzs p o u q]at hp;cases hp),fun ps q=>(by obtain⟨more,q⟩:=I.base.tbls p ps q;rw[q]at hp;cases hp)⟩
def HA(t:TE):TE:=fun σ H Q=>t σ H fun v H1=>∃ p xs,v = .ref p∧H1 p=some (.lst xs)∧∀ o,Q v (upd H1 p (.frz o (.lst xs)))
theorem bI{x:Expr}{t:TE}(h:PE X x t):PE X x (HA t):=fun pins s σ H Q I q =>
 wpAny_mono (h pins s σ H _ I q) (fun u s1 zz=>by
  obtain⟨v,H1,I1,r,p,xs,e,hp,q1⟩:=zz
  obtain⟨o,I2⟩:=I1.freeze hp
  exact⟨v,_,I2,r,q1 o⟩) fun _ _ z=>z
theorem Ff{i:Nat}{y:Str}{pos':Pos}{x:Expr}{t:TE}(h:PU X i y pos' x t):PU X i y pos' x (HA t):=fun pins s σ H Q I q =>
 wpAny_mono (h pins s σ H _ I q) (fun u s1 zz=>by
  obtain⟨v,H1,I1,p,xs,e,hp,q1⟩:=zz
  obtain⟨o,I2⟩:=I1.freeze hp
  exact⟨v,_,I2,q1 o⟩) fun _ _ z=>z
def Hz(t:TE):TE:=fun σ H Q=>t σ H fun v H1=>(∃ p xs,v = .ref p∧H1 p=some (.lst xs)∧∀ o,Q v (upd H1 p (.frz o (.lst xs))))∨Q v H1
theorem Bj{x:Expr}{t:TE}(h:PE X x t):PE X x (Hz t):=fun pins s σ H Q I q =>
 wpAny_mono (h pins s σ H _ I q) (fun u s1 zz=>by
  obtain⟨v,H1,I1,r,z⟩:=zz
  rcases z with⟨p,xs,e,hp,q1⟩|q1
  ·obtain⟨o,I2⟩:=I1.freeze hp
   exact⟨v,_,I2,r,q1 o⟩
  ·exact⟨v,H1,I1,r,q1⟩) fun _ _ z=>z
noncomputable def bf(p:Addr)(xs:List V):HO:=.ext fun h=>xs.length≤sizeLine∧∃(its:List Value) (n:Nat),j6 xs its∧h.get? p=some { cls:=.type "list",data:=.seq its.toArray n }
theorem Inv.hide{xs:List V}(I:Inv X pins σ H s)(hp:H p=some (.lst xs)):Inv X pins σ (upd H p (bf p xs)) s:=by
 have k:=I.hok p _ hp
 have l:=I.loose hp
 obtain⟨z,its,n,r,e⟩:=id k
 exact I.swap hp ⟨fun _ q=>(nomatch q),fun _ q=>(nomatch q)⟩ l.t l.f l.b ⟨⟨z,its,n,r,e⟩,⟨_,e⟩,fun h1 h2 ⟨z,its,n,r,e⟩ k=>⟨z,its,n,r,k _ e⟩⟩
theorem Inv.show'{xs:List V}(I:Inv X pins σ H s)(l:Eg X p)(hp:H p=some (bf p xs)):Inv X pins σ (upd H p (.lst xs)) s:=by
 obtain⟨k,_,_⟩:=I.hok p _ hp
 exact I.swap hp ⟨fun _ q=>(nomatch q),fun _ q=>(nomatch q)⟩ l.t l.f l.b k
def vL(p:Addr)(t:TE):TE:=fun σ H Q=>∃ xs,H p=some (.lst xs)∧t σ (upd H p (bf p xs)) fun v H1=>H1 p=some (bf p xs)∧Q v (upd H1 p (.lst xs))
theorem jZ{x:Expr}{t:TE}(h:PE X x t):PE X x fun σ H Q=>∃ p,vL p t σ H Q:=fun pins s σ H Q I ⟨p,xs,hp,q⟩ =>
 wpAny_mono (h pins s σ _ _ (I.hide hp) q) (fun u s1 ⟨v,H1,I2,r,hp1,q1⟩=>⟨v,_,I2.show' (I.loose hp) hp1,r,q1⟩) fun _ _ z=>z
def vJ(p:Addr)(t:TT):TT:=fun σ H Q=>∃ xs,H p=some (.lst xs)∧t σ (upd H p (bf p xs)) fun v H1=>H1 p=some (bf p xs)∧Q v (upd H1 p (.lst xs))
theorem bH{ifs:List Expr}{t:TT}(h:bQ X ifs t):bQ X ifs fun σ H Q=>∃ p,vJ p t σ H Q:=fun pins s σ H Q I ⟨p,xs,hp,q⟩ =>
 wpAny_mono (h pins s σ _ _ (I.hide hp) q) (fun u s1 ⟨H1,I2,hp1,q1⟩=>⟨_,I2.show' (I.loose hp) hp1,q1⟩) fun _ _ z=>z
def vK(p:Addr)(g:TG):TG:=fun v σ H Q=>∃ xs,H p=some (.lst xs)∧g v σ (upd H p (bf p xs)) fun σ1 H1=>H1 p=some (bf p xs)∧Q σ1 (upd H1 p (.lst xs))
theorem jY{tg:Expr}{g:TG}(h:PG X tg g):PG X tg fun v σ H Q=>∃ p,vK p g v σ H Q:=fun pins s σ H v u Q I r ⟨p,xs,hp,q⟩ =>
 wpAny_mono (h pins s σ _ v u _ (I.hide hp) r q) (fun u s1 ⟨σ1,H1,I2,hp1,q1⟩=>⟨σ1,_,I2.show' (I.loose hp) hp1,q1⟩) fun _ _ z=>z
end
section
variable {X:Cx} {pos:Pos}
end
section
variable {X:Cx} {e:Expr} {te:TE} {st:Expr} {ts:TO} {pos p2:Pos}
end
section
variable {prog:Program} {w:World} {A:Around} {E:Value→Shared→Prop} {s:Shared}
noncomputable abbrev Kl(prog:Program)(w:World)(A:Around)(R:Result→Shared→Prop):Fin→Shared→Prop:=fun z s'=>match z with|.done f=>R (.ok f) s'|.again c'=>c'.quiet=true∧codeAny (model prog w) A c' R s'
end
section
variable {X:Cx}
end
section
variable {X:Cx}
end
section
variable {prog:Program} {w:World} {A:Around} {E:Value→Shared→Prop} {s:Shared}
end
section
variable {prog:Program} {w:World} {A:Around} {E:Value→Shared→Prop} {s:Shared}
end
section
variable {X:Cx}
end
section
variable {prog:Program} {w:World} {A:Around} {E:Value→Shared→Prop} {s:Shared}
end
section
variable {X:Cx}
end
section
variable {prog:Program} {w:World} {A:Around} {E:Value→Shared→Prop} {s:Shared}
theorem rZ{h h2:Heap}{a b:Addr}{its:Array Value}(x:h.IsList a its)(hs:Heap.ExtBut b h h2)(ne:a≠b):h2.IsList a its:=x.at fun o e=>hs a o ne e
theorem oh{it l:Addr}{its:Array Value}(hne:l≠it):∀(n i:Nat) (s:Shared) (Q:List Value→Shared→Prop),s.heap.IsListIter it l i→s.heap.IsList l its→i+n≤its.size →
  (∀ h2,h2.IsListIter it l (i+n)→Heap.SameBut it s.heap h2→Q ((its.toList.drop i).take n) { s with heap:=h2 })→wpAny (model prog w) A (draw (.ref it) n) Q E s
 | 0,i,s,Q,hi,_,_,k=>by
  show wpAny _ _ (pure []) Q E s
  refine Ng ?_
  simpa using k s.heap hi (Heap.SameBut.refl ..)
 | n+1,i,s,Q,hi,hl,hle,k=>by
  have lt:i<its.size:=by omega
  show wpAny _ _ (pyNext (.ref it) >>= _) Q E s
  refine Nb (wpAny_pyNext_list_item hi hl (x:=its[i]) (by simp[lt]) fun h1 hi1 hs1=>Nb (wpAny_holding ?_))
  refine oh hne n (i+1) _ _ hi1 (rZ hl hs1.extBut hne) (by omega) fun h2 hi2 hs2=>Ng ?_
  have e:its.toList.drop i=its[i] :: its.toList.drop (i+1):=by simp[Qi,lt]
  have z:=k h2 (by rw[show i+(n+1)=i+1+n by omega];exact hi2) (hs1.trans hs2)
  rw[e,PR]at z
  exact z
theorem oS{l:Addr}{its:Array Value}{ts:List (Bool × (Value→Sem Unit))}{Q:Unit→Shared→Prop}(hh:A.handled=none)(hl:s.heap.IsList l its)(hn:ts.length=its.size)(hst:ts.findIdx? (·.1)=none)
  (k:∀ h2,Heap.ExtBut s.heap.objs.size s.heap h2→wpAny (model prog w) A (assignInOrder (ts.map (·.2)) its.toList) Q E { s with heap:=h2 }):wpAny (model prog w) A (unpack (.ref l) ts) Q E s:=by
 have ne:l≠s.heap.objs.size:=by obtain⟨o,ho,_⟩:=hl;exact NC (Nn ho)
 unfold unpack
 rw[hn,hst]
 refine Nb (wpAny_holding ?_)
 unfold unpackItems
 refine Nb ?_
 unfold notIterableAtAll
 refine Nb (wpAny_specialOf hl.typeIs F.slot_list_iter.lookup (Ng ?_))
 simp only[OT,if_false]
 refine Nb (wpAny_holding (wpAny_pyIter_list hl ?_))
 refine Nb (wpAny_holding (oh ne its.size 0 _ _ ⟨_,Ni _ rfl,rfl,rfl⟩ (hl.at fun o e=>Nc _ e) (by omega) fun h1 hi1 hs1=>?_))
 have all:List.take its.size (List.drop 0 its.toList)=its.toList:=by
  rw[RP];exact OB (by simp)
 rw[all,if_neg (by simp)]
 have hl1:h1.IsList l its:=rZ (hl.at fun o e=>Nc _ e) hs1.extBut ne
 refine Nb (wpAny_holding (wpAny_pyNext_list_end hh hi1 hl1 (by simp) fun h2 he=>?_))
 simp only[Option.isSome_none,OT,if_false]
 exact Ng (k h2 fun b o hb e=>he b o hb (hs1.extBut b o hb (Nc _ e)))
end
section
variable {X:Cx} {pos:Pos}
def Gb(K:Nd)(n:Nat)(t:TGs):TG:=fun v σ H Q=>∃ a xs,v = .ref a∧SqL K H a xs∧xs.length=n∧t xs σ H Q
theorem Bg{es:List Expr}{k:Nat}{t:TGs}{n:Nat}(hc:X.calm=true)(h:PGs X es t)(hn:(assignEach es X.env).length=n:=by rfl)
  (hst:(assignEach es X.env).findIdx? (·.1)=none:=by rfl):PG X (.Tuple es k pos) (Gb X.K n t):=by
 intro pins s σ H v u Q I r hw
 obtain⟨a,xs,e1,hq,hl,hw⟩:=hw
 subst e1
 cases r
 obtain⟨its,rv,ht,hz⟩:=I.list hq
 rw[assign_Tuple]
 refine Nb (wpAny_standAt (oS (I.ok.hd hc) ht.isList (by simp[hn,← hl,rv.length]) hst fun h2 hx=>?_))
 have I1:Inv X pins σ H { s with heap:=h2 }:=I.kept (t':=s.toks) fun b o e=>hx b o (NC (Nn e)) e
 exact h pins _ σ H xs _ Q I1 (by simpa using rv) hw
end
section
variable {X:Cx}
end
section
variable {prog:Program} {w:World} {A:Around} {E:Value→Shared→Prop} {s:Shared}
end
end L2
namespace L2
open PySem
section
variable {prog:Program} {w:World} {A:Around} {E:Value→Shared→Prop} {s:Shared}
theorem xZ{k:Bool}{e p l:Addr}{n:Nat}{xs:Array Value}{v old:Value}{Q:Option Value→Shared→Prop}(ie:IsEnum s.heap e p n old)(g:SI k s.heap p l n)(m:SS k s.heap l xs)(hv:xs[n]? = some v)(hne:e≠p)
  (q:∀ h',IsEnumOut h' e p ((n:Int)+1) v s.heap.objs.size→SI k h' p l (n+1)→h'.get? s.heap.objs.size=some { cls:=.type "tuple",data:=.seq #[.int n s.toks,v] }→h'.objs.size=s.heap.objs.size+1 →
   (∀ b o,b≠e→b≠p→s.heap.get? b=some o→h'.get? b=some o)→Q (some (.ref s.heap.objs.size)) { s with heap:=h',toks:=s.toks+1 }):wpAny (model prog w) A (pyNext (.ref e)) Q E s:=by
 have ty:s.TypeIs (.ref e) "enumerate" := ⟨_,ie,rfl⟩
 unfold pyNext
 refine Nb (wpAny_attempt (wpAny_callSpecial?_slot (name:=Str.ofString "__next__") ty F.slot_enumerate_next (wpAny_call_entry F.slot_enumerate_next ty F.entry_enumerate_next ?_ (F.args_enumerate_next_1 _))))
 obtain⟨hp,gs,dr,tk,os⟩:=s
 show wpAny _ _ (field (.ref e) 2 >>= _) _ _ _
 refine Nb (wpAny_field ie rfl (x:=.ref p) rfl (Nb (Q2 g m hv fun ha ga sa=>?_)))
 replace sa:Heap.SameBut p hp ha:=sa
 have ea:IsEnum ha e p n old:=(sa.2 e hne).trans ie
 show wpAny _ _ (field (.ref e) 3 >>= _) _ _ ⟨ha,gs,dr,tk,os⟩
 refine Nb (wpAny_field ea rfl (x:=rawInt n) rfl ?_)
 show wpAny _ _ (field (.ref e) 4 >>= _) _ _ ⟨ha,gs,dr,tk,os⟩
 refine Nb (wpAny_field ea rfl (x:=.none) rfl ?_)
 show wpAny _ _ (mkInt n >>= _) _ _ ⟨ha,gs,dr,tk,os⟩
 refine Nb (wpAny_mkInt ?_)
 show wpAny _ _ (setField (.ref e) 3 (rawInt ((n:Int)+1)) >>= _) _ _ ⟨ha,gs,dr,tk+1,os⟩
 refine Nb (wpAny_setField_rec ea (by simp) fun hb eb sb=>?_)
 replace sb:Heap.SameBut e ha hb:=sb
 replace eb:IsEnum hb e p ((n:Int)+1) old:=eb
 show wpAny _ _ (setField (.ref e) 4 .none >>= _) _ _ ⟨hb,gs,dr,tk+1,os⟩
 refine Nb (wpAny_setField_rec eb (by simp) fun hc ec sc=>?_)
 replace sc:Heap.SameBut e hb hc:=sc
 replace ec:IsEnum hc e p ((n:Int)+1) old:=ec
 show wpAny _ _ (newTuple [.int n tk,v] >>= _) _ _ ⟨hc,gs,dr,tk+1,os⟩
 refine Nb (wpAny_newTuple ?_)
 have zc:hc.objs.size=hp.objs.size:=by rw[sc.1,sb.1,sa.1]
 have ltE:e<hp.objs.size:=Nn ie
 obtain⟨hd,hhd⟩:∃ hd,hd=hc.push { cls:=.type "tuple",data:=.seq #[.int n tk,v] }:=⟨_,rfl⟩
 have ed:IsEnum hd e p ((n:Int)+1) old:=by rw[hhd];exact Nc _ ec
 have td:hd.get? hp.objs.size=some { cls:=.type "tuple",data:=.seq #[.int n tk,v] }:=by rw[hhd,← zc];exact Ni _ rfl
 have zd:hd.objs.size=hp.objs.size+1:=by rw[hhd,NT,zc]
 have kd:∀ b o,b≠e→b≠p→hp.get? b=some o→hd.get? b=some o:=fun b o b1 b2 z=>by rw[hhd];exact Nc _ (sc.extBut b o b1 (sb.extBut b o b1 (sa.extBut b o b2 z)))
 have gd:SI k hd p l (n+1):=((ga.but sb.extBut (Ne.symm hne)).but sc.extBut (Ne.symm hne)).at fun o z=>by rw[hhd];exact Nc _ z
 show wpAny _ _ (Builtin.SmallTypes.ownedTupleIsFree (.ref e) >>= _) _ _ ⟨hc.push { cls:=.type "tuple",data:=.seq #[.int n tk,v] },gs,dr,tk+1,os⟩
 rw[← hhd,zc]
 refine Nb ?_;unfold Builtin.SmallTypes.ownedTupleIsFree
 refine Nb (wpAny_field ed rfl (x:=.none) rfl (Ng ?_));simp only[if_true]
 refine Nb (wpAny_rule (Nb (wpAny_field ed rfl (x:=old) rfl (Nb (wpAny_setField_rec ed (by simp) fun hf ef sf=>?_)))))
 replace sf:Heap.SameBut e hd hf:=sf
 replace ef:IsEnum hf e p ((n:Int)+1) v:=ef
 show wpAny _ _ (Builtin.SmallTypes.ownedTupleHandOut (.ref e) (.ref hp.objs.size) >>= _) _ _ ⟨hf,gs,dr,tk+1,os⟩
 refine Nb ?_;unfold Builtin.SmallTypes.ownedTupleHandOut
 refine Nb (wpAny_setField_rec ef (by simp) fun hg eg sg=>?_)
 replace sg:Heap.SameBut e hf hg:=sg
 replace eg:IsEnumOut hg e p ((n:Int)+1) v hp.objs.size:=eg
 refine wpAny_setField_rec eg (by simp) fun hh eh sh=>?_
 replace sh:Heap.SameBut e hg hh:=sh
 replace eh:IsEnumOut hh e p ((n:Int)+1) v hp.objs.size:=eh
 refine Nb (wpAny_letGo (Ng ⟨_,rfl,Ng (q hh eh ?_ ?_ ?_ ?_)⟩))
 ·exact((gd.but sf.extBut (Ne.symm hne)).but sg.extBut (Ne.symm hne)).but sh.extBut (Ne.symm hne)
 ·exact sh.extBut _ _ (NW ltE) (sg.extBut _ _ (NW ltE) (sf.extBut _ _ (NW ltE) td))
 ·show hh.objs.size=hp.objs.size+1
  rw[sh.1,sg.1,sf.1,zd]
 ·exact fun b o b1 b2 z=>sh.extBut b o b1 (sg.extBut b o b1 (sf.extBut b o b1 (kd b o b1 b2 z)))
theorem Cf{k:Bool}{e p l:Addr}{n:Nat}{xs:Array Value}{old:Value}{Q:Option Value→Shared→Prop}(hA:A.handled=none)(ie:IsEnum s.heap e p n old)(g:SI k s.heap p l n)(m:SS k s.heap l xs)(hv:xs[n]? = none)
  (q:∀ h',Heap.ExtBut p s.heap h'→Q none { s with heap:=h' }):wpAny (model prog w) A (pyNext (.ref e)) Q E s:=by
 have ty:s.TypeIs (.ref e) "enumerate" := ⟨_,ie,rfl⟩
 unfold pyNext
 refine Nb (wpAny_attempt (wpAny_callSpecial?_slot (name:=Str.ofString "__next__") ty F.slot_enumerate_next (wpAny_call_entry F.slot_enumerate_next ty F.entry_enumerate_next ?_ (F.args_enumerate_next_1 _))))
 show wpAny _ _ (field (.ref e) 2 >>= _) _ _ _
 refine Nb (wpAny_field ie rfl (x:=.ref p) rfl (Nb (je hA g m hv fun h' x he' zz=>?_)))
 obtain⟨o,ho,hc⟩:=zz
 exact Nb (wpAny_isInstance (T := "StopIteration") (b:=true) ⟨o,ho,hc⟩ isSubtype_stop (Ng (q _ he')))
end
set_option maxHeartbeats 2000000 in
theorem ya(l:Addr)(xs:Array Value)(n:Nat)(dct:Option Addr)(sl:Array (Option Value)) :
  Meets (Builtin.«enumerate.__new__» ⟨[.type "enumerate",.ref l],[]⟩) (fun _ R s=>s.heap.get? l=some { cls:=.type "tuple",dict:=dct,data:=.seq xs n,slots:=sl } ∧
   R (.ok (.ret (.ref (zA false s.heap l).objs.size))) { s with heap:=(zA false s.heap l).push { cls:=.type "enumerate",data:=.fields #[.none,.bool false,.ref s.heap.objs.size,rawInt 0,.none,.none] } }) :=
 .of_wp fun prog w A R s h=>by
  obtain⟨hp,g,d,tk,os⟩:=s
  obtain⟨hl,h⟩:=h
  have hsub:=sub_enumerate
  have hT:Heap.IsTuple (Shared.heap ⟨hp,g,d,tk,os⟩) l xs:=⟨_,hl,rfl,n,rfl⟩
  wp_walk using AutoSeq1.wpAny_loadPart' hl
  refine wpAny_stack_any fun st=>Ng ?_
  split
  ·rename_i c _ _ _ _ _
   cases(c == Value.type "enumerate")
   ·wp_walk using AutoSeq1.wpAny_loadPart' hl,wpAny_pyIter_tuple hT
    exact⟨_,rfl,h⟩
   ·wp_walk using AutoSeq1.wpAny_loadPart' hl,wpAny_pyIter_tuple hT
    exact⟨_,rfl,h⟩
  ·wp_walk using AutoSeq1.wpAny_loadPart' hl,wpAny_pyIter_tuple hT
   exact⟨_,rfl,h⟩
section
variable {prog:Program} {w:World} {A:Around} {E:Value→Shared→Prop} {s:Shared}
theorem yH{k:Bool}{l:Addr}{xs:Array Value}{Q:Value→Shared→Prop}(m:SS k s.heap l xs)
  (q:∀ h',IsEnum h' (s.heap.objs.size+1) s.heap.objs.size 0 .none→SI k h' s.heap.objs.size l 0→h'.objs.size=s.heap.objs.size+2→(∀ b o,s.heap.get? b=some o→h'.get? b=some o)→Q (.ref (s.heap.objs.size+1)) { s with heap:=h' }) :
  wpAny (model prog w) A (call (.type "enumerate") [.ref l]) Q E s:=by
 cases k with
 | true=>exact call_enumerate_list m q
 | false =>
  obtain⟨⟨c,dct,dt,sl⟩,hl,hc,n,hd⟩:=m
  simp only at hc hd
  subst hc;subst hd
  refine callType_new F.called_enumerate (by decide) (F.typeCall_enumerate_1 _) (F.newCall_enumerate_1 _) (fun obj=>F.args_object_init_2 obj _) F.entry_enumerate_new (ya l xs n dct sl) ⟨hl,?_⟩
  have s1:(zA false s.heap l).objs.size=s.heap.objs.size+1:=NT ..
  have o1:((zA false s.heap l).push { cls:=.type "enumerate",data:=.fields #[.none,.bool false,.ref s.heap.objs.size,rawInt 0,.none,.none] }).get? (zA false s.heap l).objs.size=some _:=Ni _ rfl
  show _∧_
  rw[s1]at o1 ⊢
  exact⟨⟨_,o1,rfl⟩,q _ o1 ⟨_,Nc _ (Ni _ rfl),rfl,rfl⟩ (by rw[NT,s1]) fun b o e=>Nc _ (Nc _ e)⟩
end
end L2
namespace L2
open PySem PySem.Spec PyProof.Rows
noncomputable def Ite(K:Nd)(k:Bool)(l:Addr):It :=
 ⟨fun i H=>∃ xs x,SqK K k H l xs∧xs[i]? = some x,
  fun i H v H'=>∃ T x,H T=none∧v = .ref T∧H'=upd H T (.tup [.int i,x])∧∀ xs,SqK K k H l xs→xs[i]? = some x,
  fun i H=>∃ xs,SqK K k H l xs∧xs.length≤i⟩
def GJ(k:Bool)(e p l:Addr)(i:Nat)(h:Heap):Prop:=(∃ old,IsEnum h e p i old)∧SI k h p l i
theorem tw{P:Program}{w:World}{K:Nd}{elts:List Expr}{kx:Nat}{tp:Pos}{k:Bool}{e p l:Addr}(hne:e≠p):oK P w K (.Tuple elts kx tp) (Ite K k l) [e,p] e (GJ k e p l) where
 mem:=by simp
 obj:=fun i h ⟨⟨old,ie⟩,g⟩ c hc=>by
  simp only[Nh,Nv,or_false]at hc
  rcases hc with rfl|rfl
  ·exact⟨_,ie,fun v z=>by cases z⟩
  ·exact g.obj
 keep:=fun i h h' ⟨⟨old,ie⟩,g⟩ kk=>⟨⟨old,kk e (by simp) _ ie⟩,g.at fun o z=>kk p (by simp) o z⟩
 item:=by
  intro X hP hw hK hc i pins s σ H E I hf st hg
  subst hP hw hK
  obtain⟨⟨old,ie⟩,g⟩:=st
  obtain⟨xs,x,q1,hx⟩:=hg
  obtain⟨is1,r1,m1⟩:=I.sqk q1
  obtain⟨u1,hu1,ru1⟩:=r1.get hx
  refine xZ ie g m1 (v:=u1) (by simpa using hu1) hne fun h' a1 a2 a3 a4 kk=>?_
  refine⟨_,rfl,?_⟩
  refine wpAny_letOwnedTupleGo_enum (s:={ s with heap:=h',toks:=s.toks+1 }) a1 fun h2 b1 b2=>?_
  have lt:∀{c o},s.heap.get? c=some o→c≠s.heap.objs.size:=fun z=>NC (Nn z)
  have I1:Inv X pins σ (upd H s.heap.objs.size (.tup [.int i,x])) { s with heap:=s.heap.push { cls:=.type "tuple",data:=.seq #[.int i s.toks,u1] },toks:=s.toks+1 } :=
   I.laid (o:=.tup [.int i,x]) (fun b ob q=>Nc _ q) (Ny _) ⟨(show 2≤sizeLine by decide),[.int i s.toks,u1],.cons ⟨_,rfl⟩ (.cons ru1 .nil),IsTup.new _ _⟩
  have nfp:∀ c∈[e,p],c≠s.heap.objs.size:=fun c hc=>by
   simp only[Nh,Nv,or_false]at hc
   rcases hc with rfl|rfl
   ·exact lt ie
   ·obtain⟨o,z,_⟩:=g.obj;exact lt z
  have hf':∀ c∈[e,p],Y3 X pins (upd H s.heap.objs.size (.tup [.int i,x])) c:=fun c hc=>by
   obtain⟨f0,f1⟩:=hf c hc
   exact⟨by rw[g6 (nfp c hc)];exact f0,f1⟩
  have I2:Inv X pins σ (upd H s.heap.objs.size (.tup [.int i,x])) { s with heap:=h2,toks:=s.toks+1 }:=by
   refine Inv.turnedN (s:={ s with heap:=s.heap.push { cls:=.type "tuple",data:=.seq #[.int i s.toks,u1] },toks:=s.toks+1 }) (t':=s.toks+1) (h':=h2) (ch:=[e,p]) I1 (fun c o hcn z=>?_) hf'
   simp only[Nh,Nv,or_false,not_or]at hcn
   obtain⟨n1,n2⟩:=hcn
   refine b2.extBut c o n1 ?_
   have z':(s.heap.push { cls:=.type "tuple",data:=.seq #[.int i s.toks,u1] }).get? c=some o:=z
   by_cases hcs:c=s.heap.objs.size
   ·subst hcs
    rw[Ni _ rfl]at z'
    cases z'
    exact a3
   ·rw[Qk _ _ _ hcs]at z'
    exact kk c o n1 n2 z'
  refine⟨.ref s.heap.objs.size,_,I2,rfl,⟨_,x,I.hok.fresh (Ny _),rfl,rfl,fun zs hz=>by rw[I.sqk_inj hz q1];exact hx⟩,?_,fun c hc=>(hf' c hc).1⟩
  have ec:((i+1:Nat):Int)=(i:Int)+1:=by omega
  exact⟨⟨u1,by rw[ec];exact b1⟩,a2.at fun o z=>b2.extBut p o (Ne.symm hne) z⟩
 done:=by
  intro X hP hw hK hc i pins s σ H E I hf st hg
  subst hP hw hK
  obtain⟨⟨old,ie⟩,g⟩:=st
  obtain⟨xs,q1,hx⟩:=hg
  obtain⟨is1,r1,m1⟩:=I.sqk q1
  have e1:=r1.length
  refine Cf (I.ok.hd hc) ie g m1 (by simp;omega) fun h' kk=>⟨rfl,?_⟩
  refine I.turnedN (t':=s.toks) (ch:=[e,p]) (fun c o hcn z=>?_) hf
  simp only[Nh,Nv,or_false,not_or]at hcn
  exact kk c o hcn.2 z
 self:=fun _ _ _ _ _ st h=>let ⟨⟨_,ie⟩,_⟩:=st;wpAny_pyIter_enum ie h
def Iu(K:Nd)(ta:TA):TI:=fun σ H R=>ta σ H fun vs H1=>∃ k l,vs=[.ref l]∧(∃ xs,SqK K k H1 l xs)∧R (Ite K k l) H1
theorem Be{X:Cx}{elts:List Expr}{kx:Nat}{tp:Pos}{a:Expr}{ta:TA}{p pos:Pos}(hg:Gl X "enumerate")(hm:X.mg "enumerate" = none)(ha:PA X [a] ta)(hs:starEach [a] X.env=[(false,eval a X.env)]:=by rfl) :
  PI X (.Tuple elts kx tp) (.Call (.Name "enumerate" p) [a] [] pos) (Iu X.K ta):=by
 intro pins s σ H R I h
 refine Call_ (O3 I hg hm PyProof.Rows.boot_enumerate (PyProof.Rows.callWith_type1 (thn (ha pos pins s σ H _ I h) fun us s1 ⟨vs,H1,I1,r1,q1⟩=>?_) hs rfl))
 obtain⟨k,l,e,⟨xs,q2⟩,q⟩:=q1
 subst e
 cases r1 with
 | cons r rr =>
  cases rr
  cases r
  obtain⟨is1,_,m1⟩:=I1.sqk q2
  refine yH m1 fun h' a1 a2 a3 kk=>?_
  refine wpAny_pyIter_enum (s:={ s1 with heap:=h' }) a1 ?_
  refine⟨s1.heap.objs.size+1,_,_,_,H1,rfl,I1.kept (t':=s1.toks) kk,tw (Nat.succ_ne_self _),⟨⟨_,a1⟩,a2⟩,fun c hc=>?_,q⟩
  have hge:s1.heap.objs.size≤c:=by
   simp only[Nh,Nv,or_false]at hc
   rcases hc with rfl|rfl
   ·exact OQ _ _
   ·exact Ny _
  exact I1.fpOk hge (I1.hok.fresh hge)
end L2
namespace L2
open PySem
theorem PE.imp{X:Cx}{x:Expr}{t t':TE}(h:PE X x t)(i:∀ σ H Q,t' σ H Q→t σ H Q):PE X x t':=fun pins s σ H Q I q=>h pins s σ H Q I (i σ H Q q)
theorem PT.imp{X:Cx}{x:Expr}{t t':TT}(h:PT X x t)(i:∀ σ H Q,t' σ H Q→t σ H Q):PT X x t':=fun pins s σ H Q I q=>h pins s σ H Q I (i σ H Q q)
theorem PW.imp{X:Cx}{x:Expr}{t t':TT}(h:PW X x t)(i:∀ σ H Q,t' σ H Q→t σ H Q):PW X x t':=fun wh pins s σ H Q I q=>h wh pins s σ H Q I (i σ H Q q)
theorem PA.imp{X:Cx}{x:List Expr}{t t':TA}(h:PA X x t)(i:∀ σ H Q,t' σ H Q→t σ H Q):PA X x t':=fun pos pins s σ H Q I q=>h pos pins s σ H Q I (i σ H Q q)
theorem PS.imp{X:Cx}{x:Stmt}{t t':TS}(h:PS X x t)(i:∀ E σ H,t' E σ H→t E σ H):PS X x t':=fun pins s σ H D I q=>h pins s σ H D I (i D σ H q)
theorem PSs.imp{X:Cx}{x:List Stmt}{t t':TS}(h:PSs X x t)(i:∀ E σ H,t' E σ H→t E σ H):PSs X x t':=fun pins s σ H D I q=>h pins s σ H D I (i D σ H q)
theorem OpR.imp{X:Cx}{f:Value→Value→Sem Value}{r r':R2}(h:OpR X f r)(i:∀ x y H Q,r' x y H Q→r x y H Q):OpR X f r':=fun pins s σ H x y v u Q I rx ry q=>h pins s σ H x y v u Q I rx ry (i x y H Q q)
theorem IxR.imp{X:Cx}{r r':R2}(h:IxR X r)(i:∀ x y H Q,r' x y H Q→r x y H Q):IxR X r':=fun va sl pins s σ H x y v u Q I rx ry q=>h va sl pins s σ H x y v u Q I rx ry (i x y H Q q)
theorem PG.imp{X:Cx}{x:Expr}{t t':TG}(h:PG X x t)(i:∀ v σ H Q,t' v σ H Q→t v σ H Q):PG X x t':=fun pins s σ H v u Q I r q=>h pins s σ H v u Q I r (i v σ H Q q)
theorem PGs.imp{X:Cx}{x:List Expr}{t t':TGs}(h:PGs X x t)(i:∀ v σ H Q,t' v σ H Q→t v σ H Q):PGs X x t':=fun pins s σ H v u Q I r q=>h pins s σ H v u Q I r (i v σ H Q q)
end L2
namespace DL
open PySem PySem.Spec L2
open PyProof.Rows hiding St
inductive D where
 | non|bl (b:Bool)|int (i:Int)|str (x:Str)|ref (a:Addr)|tup (ds:List D)|vl (ds:List D)|ty (n:String)|dic|exc (c:Str)
def KL(K:Nd)(a:Addr)(xs:List V):Prop:=∀ H:Hp,SqL K H a xs
mutual
inductive Has (K:Nd) (H:Hp):V→D→Prop
 | non:Has K H .non .non
 | bl (b:Bool):Has K H (.bl b) (.bl b)
 | int (i:Int):Has K H (.int i) (.int i)
 | str (x:Str):Has K H (.str x) (.str x)
 | ref (a:Addr):Has K H (.ref a) (.ref a)
 | ty (n:String):Has K H (.ty n) (.ty n)
 | tup {a:Addr} {xs:List V} {ds:List D}:SqT K H a xs→HasL K H xs ds→Has K H (.ref a) (.tup ds)
 | vl {a:Addr} {xs:List V} {ds:List D}:((∃ o,H a=some (.frz o (.lst xs)))∨KL K a xs)→HasL K H xs ds→Has K H (.ref a) (.vl ds)
 | dic {a:Addr}:(∃ o:Obj,H a=some (.frz o (.own 0))∧o.cls = .type "dict")→Has K H (.ref a) .dic
 | exc {a:Addr} {c:Str}:(∃(o:Obj) (C:Addr),H a=some (.frz o (.own 0))∧o.cls = .ref C∧PySem.W.nsIn K mainGlobals c=some (some (.ref C)))→Has K H (.ref a) (.exc c)
inductive HasL (K:Nd) (H:Hp):List V→List D→Prop
 | nil:HasL K H [] []
 | cons {v:V} {d:D} {vs:List V} {ds:List D}:Has K H v d→HasL K H vs ds→HasL K H (v :: vs) (d :: ds)
end
structure KT0(H H':Hp):Prop where
 tp:∀ a xs,Rd H a (.tup xs)→Rd H' a (.tup xs)
 fz:∀ a o u,H a=some (.frz o u)→H' a=some (.frz o u)
structure KT(H H':Hp):Prop extends KT0 H H' where
 ex:∀ a φ,H a=some (.ext φ)→H' a=some (.ext φ)
theorem KT.refl(H:Hp):KT H H:=⟨⟨fun _ _ h=>h,fun _ _ _ h=>h⟩,fun _ _ h=>h⟩
theorem KT.trans{H H1 H2:Hp}(a:KT H H1)(b:KT H1 H2):KT H H2:=⟨⟨fun p xs h=>b.tp p xs (a.tp p xs h),fun p o xs h=>b.fz p o xs (a.fz p o xs h)⟩,fun p φ h=>b.ex p φ (a.ex p φ h)⟩
theorem KT0.sq{K:Nd}{H H':Hp}(k:KT0 H H'){a:Addr}{xs:List V}(h:SqT K H a xs):SqT K H' a xs:=h.elim (fun z=>.inl (k.tp a xs z)) .inr
theorem KT.sq{K:Nd}{H H':Hp}(k:KT H H'){a:Addr}{xs:List V}(h:SqT K H a xs):SqT K H' a xs:=k.toKT0.sq h
theorem KT0.at{H:Hp}{p:Addr}{o:HO}(h1:∀ xs,¬ Rd H p (.tup xs))(h2:∀ q u,H p≠some (.frz q u)):KT0 H (upd H p o) where
 tp:=fun a xs r=>by
  have hn:a≠p:=by intro e;subst e;exact h1 xs r
  rcases r with r|⟨q,r⟩
  ·exact .inl (by rw[g6 hn];exact r)
  ·exact .inr ⟨q,by rw[g6 hn];exact r⟩
 fz:=fun a q xs r=>by
  have hn:a≠p:=by intro e;subst e;exact h2 q xs r
  rw[g6 hn];exact r
theorem KT.at{H:Hp}{p:Addr}{o:HO}(h1:∀ xs,¬ Rd H p (.tup xs))(h2:∀ q u,H p≠some (.frz q u))(h3:∀ φ,H p≠some (.ext φ)):KT H (upd H p o):=⟨KT0.at h1 h2,fun a φ r=>by
  have hn:a≠p:=by intro e;subst e;exact h3 φ r
  rw[g6 hn];exact r⟩
theorem KT.alloc{H:Hp}{p:Addr}{o:HO}(h:H p=none):KT H (upd H p o):=KT.at (fun xs r=>by rcases r with r|⟨_,r⟩<;>(rw[h]at r;cases r)) (fun q xs r=>by rw[h]at r;cases r) fun φ r=>by rw[h]at r;cases r
theorem KT.any{H:Hp}{p:Addr}{xs:List V}{o:HO}(h:H p=some (.lst xs)):KT H (upd H p o):=KT.at (fun xs r=>by rcases r with r|⟨_,r⟩<;>(rw[h]at r;cases r)) (fun q xs r=>by rw[h]at r;cases r) fun φ r=>by rw[h]at r;cases r
theorem KT.write{H:Hp}{p:Addr}{xs ys:List V}(h:H p=some (.lst xs)):KT H (upd H p (.lst ys)):=KT.any h
theorem KT0.ext{H:Hp}{p:Addr}{φ:Heap→Prop}{o:HO}(h:H p=some (.ext φ)):KT0 H (upd H p o):=KT0.at (fun xs r=>by rcases r with r|⟨_,r⟩<;>(rw[h]at r;cases r)) fun q xs r=>by rw[h]at r;cases r
theorem KT.new{H H':Hp}{p:Addr}{o:HO}(k:KT H H')(h:H p=none):KT H (upd H' p o) where
 tp:=fun a xs r=>by
  have hn:a≠p:=by intro e;subst e;rcases r with r|⟨_,r⟩<;>(rw[h]at r;cases r)
  rcases k.tp a xs r with r|⟨q,r⟩
  ·exact .inl (by rw[g6 hn];exact r)
  ·exact .inr ⟨q,by rw[g6 hn];exact r⟩
 fz:=fun a q xs r=>by
  have hn:a≠p:=by intro e;subst e;rw[h]at r;cases r
  rw[g6 hn];exact k.fz a q xs r
 ex:=fun a φ r=>by
  have hn:a≠p:=by intro e;subst e;rw[h]at r;cases r
  rw[g6 hn];exact k.ex a φ r
mutual
theorem Has.mono0{K:Nd}{H H':Hp}(k:KT0 H H'):∀{v:V} {d:D},Has K H v d→Has K H' v d
 | _,_,.non=>.non
 | _,_,.bl b=>.bl b
 | _,_,.int i=>.int i
 | _,_,.str x=>.str x
 | _,_,.ref a=>.ref a
 | _,_,.ty n=>.ty n
 | _,_,.tup s l=>.tup (k.sq s) (HasL.mono0 k l)
 | _,_,.vl h l=>.vl (h.elim (fun⟨o,e⟩=>.inl ⟨o,k.fz _ _ _ e⟩) .inr) (HasL.mono0 k l)
 | _,_,.dic h=>.dic (let ⟨o,e,c⟩:=h;⟨o,k.fz _ _ _ e,c⟩)
 | _,_,.exc h=>.exc (let ⟨o,C,e,c⟩:=h;⟨o,C,k.fz _ _ _ e,c⟩)
theorem HasL.mono0{K:Nd}{H H':Hp}(k:KT0 H H'):∀{v:List V} {d:List D},HasL K H v d→HasL K H' v d
 | _,_,.nil=>.nil
 | _,_,.cons a b=>.cons (Has.mono0 k a) (HasL.mono0 k b)
end
theorem Has.mono{K:Nd}{H H':Hp}(k:KT H H'){v:V}{d:D}(h:Has K H v d):Has K H' v d:=h.mono0 k.toKT0
theorem HasL.mono{K:Nd}{H H':Hp}(k:KT H H'){v:List V}{d:List D}(h:HasL K H v d):HasL K H' v d:=h.mono0 k.toKT0
section
variable {K:Nd} {H H':Hp}
theorem HasL.length:∀{vs:List V} {ds:List D},HasL K H vs ds→vs.length=ds.length
 | _,_,.nil=>rfl
 | _,_,.cons _ b=>congrArg Nat.succ (HasL.length b)
theorem HasL.get:∀{vs:List V} {ds:List D} {i:Nat} {d:D},HasL K H vs ds→ds[i]? = some d→∃ v,vs[i]? = some v∧Has K H v d
 | _,_,_,_,.nil,e=>by simp at e
 | _,_,0,_,.cons a _,e=>by simp at e;subst e;exact⟨_,rfl,a⟩
 | _,_,i+1,d,.cons _ b,e=>by
  obtain⟨v,h1,h2⟩:=HasL.get (i:=i) (d:=d) b (by simpa using e)
  exact⟨v,by simpa using h1,h2⟩
theorem HasL.getV:∀{vs:List V} {ds:List D} {i:Nat} {v:V},HasL K H vs ds→vs[i]? = some v→∃ d,ds[i]? = some d∧Has K H v d
 | _,_,_,_,.nil,e=>by simp at e
 | _,_,0,_,.cons a _,e=>by simp at e;subst e;exact⟨_,rfl,a⟩
 | _,_,i+1,d,.cons _ b,e=>by
  obtain⟨v,h1,h2⟩:=HasL.getV (i:=i) (v:=d) b (by simpa using e)
  exact⟨v,by simpa using h1,h2⟩
theorem HasL.set{v:V}{d:D}(r:Has K H v d):∀{vs:List V} {ds:List D} (i:Nat),HasL K H vs ds→HasL K H (vs.set i v) (ds.set i d)
 | _,_,_,.nil=>.nil
 | _,_,0,.cons _ t=>.cons r t
 | _,_,i+1,.cons q t=>.cons q (HasL.set r i t)
theorem HasL.append:∀{xs ys:List V} {us ws:List D},HasL K H xs us→HasL K H ys ws→HasL K H (xs++ys) (us++ws)
 | _,_,_,_,.nil,s=>s
 | _,_,_,_,.cons r t,s=>.cons r (HasL.append t s)
theorem HasL.take:∀{xs:List V} {us:List D} (n:Nat),HasL K H xs us→HasL K H (xs.take n) (us.take n)
 | _,_,0,_=>.nil
 | _,_,_+1,.nil=>.nil
 | _,_,n+1,.cons r t=>.cons r (HasL.take n t)
theorem HasL.drop:∀{xs:List V} {us:List D} (n:Nat),HasL K H xs us→HasL K H (xs.drop n) (us.drop n)
 | _,_,0,r=>r
 | _,_,_+1,.nil=>.nil
 | _,_,n+1,.cons _ t=>HasL.drop n t
theorem HasL.ints:∀(ns:List Int),HasL K H (ns.map V.int) (ns.map D.int)
 | []=>.nil
 | n :: r=>.cons (.int n) (HasL.ints r)
end
inductive MO where
 | lst (ds:List D)
 | ins (c:Str) (fs:List (Str × D))
noncomputable abbrev Mem:=Addr→Option MO
noncomputable def C1(M:Mem)(a:Addr)(o:MO):Mem:=fun b=>if b=a then some o else M b
theorem g7{M:Mem}{a:Addr}{o:MO}:C1 M a o a=some o:=by unfold C1;rw[if_pos rfl]
theorem F0{M:Mem}{a b:Addr}{o:MO}(h:b≠a):C1 M a o b=M b:=by unfold C1;rw[if_neg h]
theorem aq{M:Mem}{a:Addr}{o u:MO}:C1 (C1 M a o) a u=C1 M a u:=by
 funext b;unfold C1;by_cases h:b=a<;>simp[h]
structure qr(K:Nd)(H:Hp)(ys:List (Str × V))(fs:List (Str × D)):Prop where
 names:ys.map (·.1)=fs.map (·.1)
 has:HasL K H (ys.map (·.2)) (fs.map (·.2))
theorem qr.mono{K:Nd}{H H':Hp}(k:KT H H'){ys:List (Str × V)}{fs:List (Str × D)}(h:qr K H ys fs):qr K H' ys fs:=⟨h.names,h.has.mono k⟩
theorem qr.mono0{K:Nd}{H H':Hp}(k:KT0 H H'){ys:List (Str × V)}{fs:List (Str × D)}(h:qr K H ys fs):qr K H' ys fs:=⟨h.names,h.has.mono0 k⟩
noncomputable def MOk(K:Nd)(H:Hp)(a:Addr):MO→Prop
 | .lst ds=>∃ xs,H a=some (.lst xs)∧HasL K H xs ds
 | .ins c fs=>∃ C dx ys,H a=some (.ins C dx ys)∧qr K H ys fs∧PySem.W.nsIn K mainGlobals c=some (some (.ref C))
def o9(K:Nd)(H:Hp)(M:Mem):Prop:=∀ a o,M a=some o→MOk K H a o
section
variable {K:Nd} {H H':Hp} {M:Mem}
theorem o9.fresh(h:o9 K H M){p:Addr}(e:H p=none):M p=none:=by
 cases q:M p with
 | none=>rfl
 | some o =>
  cases o with
  | lst ds=>obtain⟨xs,z,_⟩:=h p _ q;rw[e]at z;cases z
  | ins C fs=>obtain⟨_,dx,ys,z,_⟩:=h p _ q;rw[e]at z;cases z
theorem o9.alloc(h:o9 K H M){p:Addr}{u:HO}(e:H p=none):o9 K (upd H p u) M:=fun a o m=>by
 have k:KT H (upd H p u):=KT.alloc e
 cases o with
 | lst ds =>
  obtain⟨xs,z,l⟩:=h a _ m
  have hn:a≠p:=E6 z e
  exact⟨xs,by rw[g6 hn];exact z,l.mono k⟩
 | ins C fs =>
  obtain⟨C0,dx,ys,z,l,hc⟩:=h a _ m
  have hn:a≠p:=E6 z e
  exact⟨C0,dx,ys,by rw[g6 hn];exact z,l.mono k,hc⟩
theorem o9.new(h:o9 K H M){p:Addr}{xs:List V}{ds:List D}(e:H p=none)(l:HasL K H xs ds):o9 K (upd H p (.lst xs)) (C1 M p (.lst ds)):=fun a o m=>by
 by_cases q:a=p
 ·subst q
  rw[g7]at m;cases m
  exact⟨xs,i6,l.mono (KT.alloc e)⟩
 ·rw[F0 q]at m
  exact h.alloc e a o m
theorem o9.write(h:o9 K H M){p:Addr}{xs ys:List V}{ds:List D}(e:H p=some (.lst xs))(l:HasL K H ys ds):o9 K (upd H p (.lst ys)) (C1 M p (.lst ds)):=fun a o m=>by
 have k:KT H (upd H p (.lst ys)):=KT.write e
 by_cases q:a=p
 ·subst q
  rw[g7]at m;cases m
  exact⟨ys,i6,l.mono k⟩
 ·rw[F0 q]at m
  cases o with
  | lst es =>
   obtain⟨zs,z,l⟩:=h a _ m
   exact⟨zs,by rw[g6 q];exact z,l.mono k⟩
  | ins C fs =>
   obtain⟨C0,dx,zs,z,l,hc⟩:=h a _ m
   exact⟨C0,dx,zs,by rw[g6 q];exact z,l.mono k,hc⟩
theorem o9.lst(h:o9 K H M){a:Addr}{ds:List D}(m:M a=some (.lst ds)):∃ xs,H a=some (.lst xs)∧HasL K H xs ds:=h a _ m
end
noncomputable abbrev Ev:=List (Option D)
structure A6(K:Nd)(H:Hp)(σ:St)(e:Ev):Prop where
 len:σ.length=e.length
 has:∀(i:Nat) (d:D),e[i]? = some (some d)→∃ v,σ[i]? = some (some v)∧Has K H v d
section
variable {K:Nd} {H H':Hp} {σ:St} {e:Ev}
theorem A6.mono(k:KT H H')(h:A6 K H σ e):A6 K H' σ e:=⟨h.len,fun i d z=>let ⟨v,a,b⟩:=h.has i d z;⟨v,a,b.mono k⟩⟩
theorem A6.set(h:A6 K H σ e){v:V}{d:D}(r:Has K H v d)(i:Nat):A6 K H (σ.set i (some v)) (e.set i (some d)):=by
 refine⟨by simp[h.len],fun j x z=>?_⟩
 rw[List.getElem?_set]at z ⊢
 by_cases q:i=j
 ·subst q
  rw[if_pos rfl]at z ⊢
  by_cases l:i<e.length
  ·rw[if_pos l]at z
   rw[if_pos (by rw[h.len];exact l)]
   cases z
   exact⟨v,rfl,r⟩
  ·rw[if_neg l]at z;cases z
 ·rw[if_neg q]at z ⊢
  exact h.has j x z
end
noncomputable def V6(N:List Str)(ds:List D):Ev:=ds.map some++OS (N.length - ds.length) none
theorem A6.start0{K:Nd}{H:Hp}{N:List Str}{vs:List V}{ds:List D}(h:HasL K H vs ds):A6 K H (L2.start N vs) (V6 N ds):=by
 have hl:=h.length
 refine⟨by simp[L2.start,V6,hl],fun i d z=>?_⟩
 unfold V6 at z
 unfold L2.start
 rw[PH]at z ⊢
 simp only[Nm]at z ⊢
 rw[hl]
 by_cases q:i<ds.length
 ·rw[if_pos q]at z ⊢
  rw[ND]at z ⊢
  cases e:ds[i]? with
  | none=>rw[e]at z;cases z
  | some x =>
   rw[e]at z
   have z':x=d:=by simpa using z
   subst z'
   obtain⟨v,a,b⟩:=h.get e
   exact⟨v,by rw[a];rfl,b⟩
 ·rw[if_neg q]at z
  rw[Oy]at z
  split at z<;>cases z
noncomputable abbrev DK:=D→Mem→Prop
noncomputable abbrev DTE:=Ev→Mem→DK→Prop
noncomputable abbrev DTT:=Ev→Mem→(Bool→Mem→Prop)→Prop
noncomputable abbrev DTA:=Ev→Mem→(List D→Mem→Prop)→Prop
structure Y8 where
 nx:Ev→Mem→Prop
 rt:DK
 bk:Ev→Mem→Prop:=fun _ _=>False
 ct:Ev→Mem→Prop:=fun _ _=>False
noncomputable abbrev DTS:=Y8→Ev→Mem→Prop
def ft(K:Nd)(H:Hp)(R:DK)(Q:VK):Prop:=∀ d M',R d M'→∀ v H',KT H H'→o9 K H' M'→Has K H' v d→Q v H'
def yY(K:Nd)(H:Hp)(R:Bool→Mem→Prop)(Q:Bool→Hp→Prop):Prop:=∀ b M',R b M'→∀ H',KT H H'→o9 K H' M'→Q b H'
def Cw(K:Nd)(H:Hp)(R:List D→Mem→Prop)(Q:List V→Hp→Prop):Prop:=∀ ds M',R ds M'→∀ vs H',KT H H'→o9 K H' M'→HasL K H' vs ds→Q vs H'
def oM(K:Nd)(H:Hp)(R:Ev→Mem→Prop)(Q:St→Hp→Prop):Prop:=∀ e M',R e M'→∀ σ H',KT H H'→o9 K H' M'→A6 K H' σ e→Q σ H'
structure Fit(K:Nd)(H:Hp)(F:Y8)(E:oN):Prop where
 nx:oM K H F.nx E.nx
 rt:ft K H F.rt E.rt
 bk:oM K H F.bk E.bk
 ct:oM K H F.ct E.ct
section
variable {K:Nd} {H H':Hp}
theorem ft.mono{R:DK}{Q:VK}(h:ft K H R Q)(k:KT H H'):ft K H' R Q:=fun d M r v H2 k2 a b=>h d M r v H2 (k.trans k2) a b
theorem yY.mono{R:Bool→Mem→Prop}{Q:Bool→Hp→Prop}(h:yY K H R Q)(k:KT H H'):yY K H' R Q:=fun d M r H2 k2 a=>h d M r H2 (k.trans k2) a
theorem Cw.mono{R:List D→Mem→Prop}{Q:List V→Hp→Prop}(h:Cw K H R Q)(k:KT H H'):Cw K H' R Q:=fun d M r v H2 k2 a b=>h d M r v H2 (k.trans k2) a b
theorem oM.mono{R:Ev→Mem→Prop}{Q:St→Hp→Prop}(h:oM K H R Q)(k:KT H H'):oM K H' R Q:=fun d M r v H2 k2 a b=>h d M r v H2 (k.trans k2) a b
theorem Fit.mono{F:Y8}{E:oN}(h:Fit K H F E)(k:KT H H'):Fit K H' F E:=⟨h.nx.mono k,h.rt.mono k,h.bk.mono k,h.ct.mono k⟩
end
def up(K:Nd)(t:DTE):TE:=fun σ H Q=>∃ e M R,A6 K H σ e∧o9 K H M∧t e M R∧ft K H R Q
def upT(K:Nd)(t:DTT):TT:=fun σ H Q=>∃ e M R,A6 K H σ e∧o9 K H M∧t e M R∧yY K H R Q
def upA(K:Nd)(t:DTA):TA:=fun σ H Q=>∃ e M R,A6 K H σ e∧o9 K H M∧t e M R∧Cw K H R Q
def upS(K:Nd)(t:DTS):TS:=fun E σ H=>∃ e M F,A6 K H σ e∧o9 K H M∧t F e M∧Fit K H F E
abbrev DPE(X:Cx)(x:Expr)(t:DTE):Prop:=PE X x (up X.K t)
abbrev DPT(X:Cx)(x:Expr)(t:DTT):Prop:=PT X x (upT X.K t)
abbrev DPW(X:Cx)(x:Expr)(t:DTT):Prop:=PW X x (upT X.K t)
abbrev DPA(X:Cx)(x:List Expr)(t:DTA):Prop:=PA X x (upA X.K t)
abbrev DPS(X:Cx)(x:Stmt)(t:DTS):Prop:=PS X x (upS X.K t)
abbrev Kn(X:Cx)(x:List Stmt)(t:DTS):Prop:=PSs X x (upS X.K t)
structure JE(X:Cx)(x:Expr)(t:DTE):Prop where
 out:DPE X x t
structure JT(X:Cx)(x:Expr)(t:DTT):Prop where
 out:DPT X x t
structure JW(X:Cx)(x:Expr)(t:DTT):Prop where
 out:DPW X x t
structure JA(X:Cx)(x:List Expr)(t:DTA):Prop where
 out:DPA X x t
structure JS(X:Cx)(x:Stmt)(t:DTS):Prop where
 out:DPS X x t
structure JSs(X:Cx)(x:List Stmt)(t:DTS):Prop where
 out:Kn X x t
section
variable {X:Cx} {a b c:Expr} {ta tb tc:DTE} {pos:Pos}
def Y2(i:Nat):DTE:=fun e M R=>∃ d,e[i]? = some (some d)∧R d M
def dC(d:D):DTE:=fun _ M R=>R d M
theorem d4(i:Nat){x:Str}{pos:Pos}(hN:X.N[i]? = some x:=by rfl)(hv:Vis X.env.scope x:=by first|exact Or.inl rfl|exact Or.inr (Or.inl rfl)|exact Or.inr (Or.inr rfl))(hd:(x == ("__debug__" : Str))=false:=by decide)
  (hcd:(x == ("__classdict__" : Str))=false:=by decide):JE X (.Name x pos) (Y2 i):=⟨(wU hN hv hd hcd).imp (by
  rintro σ H Q ⟨e,M,R,ok,am,⟨d,z,r⟩,f⟩
  obtain⟨v,h1,h2⟩:=ok.has i d z
  exact⟨v,h1,f d M r v H (KT.refl H) am h2⟩)⟩
theorem X4{v:V}{d:D}(h:PE X a (tC v))(r:∀ H,Has X.K H v d):DPE X a (dC d) :=
 h.imp (by rintro σ H Q ⟨e,M,R,ok,am,z,f⟩;exact f d M z v H (KT.refl H) am (r H))
theorem d6{i j pos}:JE X (.Constant (.int i) j pos) (dC (.int i)):=⟨X4 FA fun _=>.int i⟩
theorem E4{b j pos}:JE X (.Constant (.bool b) j pos) (dC (.bl b)):=⟨X4 HS fun _=>.bl b⟩
theorem V4{j pos}:JE X (.Constant .none j pos) (dC .non):=⟨X4 Fz fun _=>.non⟩
theorem B5{x j pos}:JE X (.Constant (.str x) j pos) (dC (.str x)):=⟨X4 Fv fun _=>.str x⟩
def Jk(K:Nd)(v:V)(d:D):Prop:=∀ H,Has K H v d
theorem Gj{x:Str}{v:V}{d:D}{u:Value}{pos:Pos}(hg:Gl X x)(hm:X.mg x=some u)(r:q9 v u)(hk:Jk X.K v d)(hd:(x == ("__debug__" : Str))=false:=by decide):DPE X (.Name x pos) (dC d) :=
 X4 (Bi hg hm r hd) hk
noncomputable abbrev DR2:=D→D→Mem→DK→Prop
def upR(K:Nd)(g:DR2):R2:=fun x y H Q=>∃ dx dy M R,Has K H x dx∧Has K H y dy∧o9 K H M∧g dx dy M R∧ft K H R Q
def DOp(X:Cx)(f:Value→Value→Sem Value)(g:DR2):Prop:=OpR X f (upR X.K g)
def dOp(g:DR2)(ta tb:DTE):DTE:=fun e M R=>ta e M fun x M1=>tb e M1 fun y M2=>g x y M2 R
theorem iV{ta tb:DTE}{g:DR2}{σ:St}{H:Hp}{Q:VK}(h:up X.K (dOp g ta tb) σ H Q):tOp (upR X.K g) (up X.K ta) (up X.K tb) σ H Q:=by
 obtain⟨e,M,R,ok,am,t,f⟩:=h
 refine⟨e,M,_,ok,am,t,fun x M1 h1 v H1 k1 a1 r1=>?_⟩
 refine⟨e,M1,_,ok.mono k1,a1,h1,fun y M2 h2 u H2 k2 a2 r2=>?_⟩
 exact⟨x,y,M2,R,r1.mono k2,r2,a2,h2,f.mono (k1.trans k2)⟩
theorem e7{op:Operator}{g:DR2}(ho:DOp X (binaryOp op) g)(ha:JE X a ta)(hb:JE X b tb):JE X (.BinOp a op b pos) (dOp g ta tb):=⟨have ha:=ha.out;have hb:=hb.out;(DB ho ha hb).imp fun _ _ _ h=>iV h⟩
theorem FY{op:CmpOp}{g:DR2}(ho:DOp X (compareOp op) g)(ha:JE X a ta)(hb:JE X b tb)(hm:behindInMarks op b=false):JE X (.Compare a [op] [b] pos) (dOp g ta tb):=⟨have ha:=ha.out;have hb:=hb.out;(Bk ho ha hb hm).imp fun _ _ _ h=>iV h⟩
def sN(t:DTE):DTT:=fun e M R=>t e M fun x M'=>∃ k,x = .bl k∧R k M'
theorem mF{K:Nd}{H:Hp}{R:Bool→Mem→Prop}{Q:Bool→Hp→Prop}(f:yY K H R Q):ft K H (fun x M'=>∃ k,x = .bl k∧R k M') (fun x H'=>∃ k,x = .bl k∧Q k H'):=by
 rintro d M' ⟨k,rfl,r⟩ v H' kt am h
 cases h
 exact⟨k,rfl,f k M' r H' kt am⟩
theorem BS{op:CmpOp}{g:DR2}(ho:DOp X (compareOp op) g)(ha:JE X a ta)(hb:JE X b tb)(hm:behindInMarks op b=false):JT X (.Compare a [op] [b] pos) (sN (dOp g ta tb)):=⟨have ha:=ha.out;have hb:=hb.out;(AV ho ha hb hm).imp (by rintro σ H Q ⟨e,M,R,ok,am,t,f⟩;exact iV (Q:=fun x H'=>∃ k,x = .bl k∧Q k H') ⟨e,M,_,ok,am,t,mF f⟩)⟩
theorem u7{x:Expr}{t:DTE}(h:JE X x t)(he:∀ whole,isTrue x X.env whole=(do let v ← whole;standAt x.pos;holding [v] (truthy v)):=by intro _;rfl):JT X x (sN t):=⟨have h:=h.out;(Fg h he).imp (by rintro σ H Q ⟨e,M,R,ok,am,t,f⟩;exact⟨e,M,_,ok,am,t,mF f⟩)⟩
noncomputable def fI(f:Int→Int→D):D→D→Option D
 | .int i,.int j=>some (f i j)
 | _,_=>none
def gF(f:D→D→Option D):DR2:=fun x y M R=>∃ z,f x y=some z∧R z M
def gI(C:Int→Int→Prop)(f:Int→Int→D):DR2:=fun x y M R=>∃ i j,x = .int i∧y = .int j∧C i j∧R (f i j) M
theorem kN{f:Int→Int→D}{x y z:D}(h:fI f x y=some z):∃ i j,x = .int i∧y = .int j∧z=f i j:=by
 cases x with
 | int i =>
  cases y with
  | int j=>exact⟨i,j,rfl,rfl,(Option.some.inj h).symm⟩
  | _=>cases h
 | _=>cases h
theorem sI{f:Value→Value→Sem Value}{C:Int→Int→Prop}{g:Int→Int→V}{g':Int→Int→D}(h:OpR X f (rI C g))(hg:∀ i j H,Has X.K H (g i j) (g' i j)):DOp X f (gI C g') :=
 OpR.imp h (by
  rintro x y H Q ⟨dx,dy,M,R,hx,hy,am,⟨i,j,e1,e2,hc,r⟩,f⟩
  subst e1;subst e2
  cases hx;cases hy
  exact⟨i,j,rfl,rfl,hc,f _ M r _ H (KT.refl H) am (hg i j H)⟩)
theorem bM{f:Value→Value→Sem Value}{g:Int→Int→V}{g':Int→Int→D}(h:OpR X f (rI0 g))(hg:∀ i j H,Has X.K H (g i j) (g' i j)):DOp X f (gF (fI g')) :=
 OpR.imp h (by
  rintro x y H Q ⟨dx,dy,M,R,hx,hy,am,⟨z,e,r⟩,f⟩
  obtain⟨i,j,e1,e2,e3⟩:=kN e
  subst e1;subst e2;subst e3
  cases hx;cases hy
  exact⟨i,j,rfl,rfl,f _ M r _ H (KT.refl H) am (hg i j H)⟩)
theorem C2:DOp X (binaryOp .Add) (gF (fI fun i j=>.int (i+j))):=bM FJ fun _ _ _=>.int _
theorem G3:DOp X (binaryOp .Sub) (gF (fI fun i j=>.int (i - j))):=bM FG fun _ _ _=>.int _
theorem cF:DOp X (compareOp .Lt) (gF (fI fun i j=>.bl (decide (i<j)))):=bM HW fun _ _ _=>.bl _
theorem FN:DOp X (compareOp .LtE) (gF (fI fun i j=>.bl (decide (i≤j)))):=bM HX fun _ _ _=>.bl _
theorem aW:DOp X (compareOp .Gt) (gF (fI fun i j=>.bl (decide (j<i)))):=bM HY fun _ _ _=>.bl _
theorem Ib:DOp X (compareOp .GtE) (gF (fI fun i j=>.bl (decide (j≤i)))):=bM HZ fun _ _ _=>.bl _
theorem S8:DOp X (binaryOp .Mod) (gI (fun _ j=>0<j) fun i j=>.int (i % j)):=sI FI fun _ _ _=>.int _
theorem rS:DOp X (binaryOp .Pow) (gI zo fun i j=>.int (i ^ j.toNat)):=sI FH fun _ _ _=>.int _
noncomputable def gU(f:Int→D):D→Mem→DK→Prop:=fun x M R=>∃ i,x = .int i∧R (f i) M
def dUn(g:D→Mem→DK→Prop)(ta:DTE):DTE:=fun e M R=>ta e M fun x M1=>g x M1 R
theorem ai(ha:JE X a ta):JE X (.UnaryOp .USub a pos) (dUn (gU fun i=>.int (-i)) ta):=⟨have ha:=ha.out;(HP Ey ha).imp (by rintro σ H Q ⟨e,M,R,ok,am,t,f⟩;exact⟨e,M,_,ok,am,t,fun x M1 ⟨i,z,r⟩ v H1 k1 a1 r1=>by
  subst z;cases r1;exact⟨i,rfl,f _ M1 r _ H1 k1 a1 (.int _)⟩⟩)⟩
variable {tA tB':DTT} {D9:List Expr}
def IT(t u:DTT):DTT:=fun e M R=>t e M fun c M1=>if c=true then u e M1 R else R false M1
def dOr(t u:DTT):DTT:=fun e M R=>t e M fun c M1=>if c=true then R true M1 else u e M1 R
def IK(t:DTT):DTT:=fun e M R=>t e M fun c M1=>R (!c) M1
theorem N3(ha:JT X a tA):JW X (.BoolOp .And [a] pos) tA:=⟨have ha:=ha.out;AU ha⟩
theorem J7(ha:JT X a tA):JW X (.BoolOp .Or [a] pos) tA:=⟨have ha:=ha.out;Fd ha⟩
theorem V5(ha:JT X a tA)(hb:JW X (.BoolOp .And (b :: D9) pos) tB'):JW X (.BoolOp .And (a :: b :: D9) pos) (IT tA tB'):=⟨have ha:=ha.out;have hb:=hb.out;(Fe ha hb).imp (by rintro σ H Q ⟨e,M,R,ok,am,t,f⟩;exact⟨e,M,_,ok,am,t,fun k M1 h1 H1 k1 a1=>by
  cases k with
  | true=>exact⟨e,M1,R,ok.mono k1,a1,h1,f.mono k1⟩
  | false=>exact f false M1 h1 H1 k1 a1⟩)⟩
theorem J9(ha:JT X a tA)(hb:JW X (.BoolOp .Or (b :: D9) pos) tB'):JW X (.BoolOp .Or (a :: b :: D9) pos) (dOr tA tB'):=⟨have ha:=ha.out;have hb:=hb.out;(HM ha hb).imp (by rintro σ H Q ⟨e,M,R,ok,am,t,f⟩;exact⟨e,M,_,ok,am,t,fun k M1 h1 H1 k1 a1=>by
  cases k with
  | true=>exact f true M1 h1 H1 k1 a1
  | false=>exact⟨e,M1,R,ok.mono k1,a1,h1,f.mono k1⟩⟩)⟩
theorem E7(ha:JT X a tA):JT X (.UnaryOp .Not a pos) (IK tA):=⟨have ha:=ha.out;(Fh ha).imp (by rintro σ H Q ⟨e,M,R,ok,am,t,f⟩;exact⟨e,M,_,ok,am,t,fun k M1 h1 H1 k1 a1=>f (!k) M1 h1 H1 k1 a1⟩)⟩
theorem E8{x:Expr}{t:DTT}(h:JW X x t):JT X x t:=⟨have h:=h.out;PW.pt h⟩
def DX(ta tb:DTE):DTE:=fun e M R=>ta e M fun x M1=>∃ c,x = .bl c∧if c=true then tb e M1 R else R (.bl false) M1
def DS(ta:DTE):DTE:=fun e M R=>ta e M fun x M1=>∃ c,x = .bl c∧R (.bl (!c)) M1
theorem C7{op}{t:DTE}(h:JE X a t):JE X (.BoolOp op [a] pos) t:=⟨have h:=h.out;Fx h⟩
theorem A8(ha:JE X a ta)(hb:JE X (.BoolOp .And (b :: D9) pos) tb):JE X (.BoolOp .And (a :: b :: D9) pos) (DX ta tb):=⟨have ha:=ha.out;have hb:=hb.out;(FD ha hb).imp (by rintro σ H Q ⟨e,M,R,ok,am,t,f⟩;exact⟨e,M,_,ok,am,t,fun x M1 ⟨k,z,h1⟩ v H1 k1 a1 r1=>by
  subst z;cases r1
  refine⟨k,rfl,?_⟩
  cases k with
  | true=>exact⟨e,M1,R,ok.mono k1,a1,h1,f.mono k1⟩
  | false=>exact f _ M1 h1 _ H1 k1 a1 (.bl _)⟩)⟩
theorem K4(ha:JE X a ta):JE X (.UnaryOp .Not a pos) (DS ta):=⟨have ha:=ha.out;(Fy ha).imp (by rintro σ H Q ⟨e,M,R,ok,am,t,f⟩;exact⟨e,M,_,ok,am,t,fun x M1 ⟨k,z,h1⟩ v H1 k1 a1 r1=>by
  subst z;cases r1
  exact⟨k,rfl,f _ M1 h1 _ H1 k1 a1 (.bl _)⟩⟩)⟩
def dIf(t:DTT)(ta tb:DTE):DTE:=fun e M R=>t e M fun c M1=>if c=true then ta e M1 R else tb e M1 R
theorem fb(hc:JT X c tA)(ha:JE X a ta)(hb:JE X b tb):JE X (.IfExp c a b pos) (dIf tA ta tb):=⟨have hc:=hc.out;have ha:=ha.out;have hb:=hb.out;(wW hc ha hb).imp (by rintro σ H Q ⟨e,M,R,ok,am,t,f⟩;exact⟨e,M,_,ok,am,t,fun k M1 h1 H1 k1 a1=>by
  cases k with
  | true=>exact⟨e,M1,R,ok.mono k1,a1,h1,f.mono k1⟩
  | false=>exact⟨e,M1,R,ok.mono k1,a1,h1,f.mono k1⟩⟩)⟩
def Gp:DTA:=fun _ M R=>R [] M
def sP(ta:DTE)(tr:DTA):DTA:=fun e M R=>ta e M fun x M1=>tr e M1 fun xs M2=>R (x :: xs) M2
variable {es:List Expr} {tr:DTA}
theorem d5:JA X [] Gp:=⟨FE.imp (by rintro σ H Q ⟨e,M,R,ok,am,t,f⟩;exact f [] M t [] H (KT.refl H) am .nil)⟩
theorem a9(ha:JE X a ta)(hr:JA X es tr)(hs:starEach (a :: es) X.env=(false,eval a X.env) :: starEach es X.env:=by rfl):JA X (a :: es) (sP ta tr):=⟨have ha:=ha.out;have hr:=hr.out;(Bn ha hr hs).imp (by rintro σ H Q ⟨e,M,R,ok,am,t,f⟩;exact⟨e,M,_,ok,am,t,fun x M1 h1 v H1 k1 a1 r1 =>
  ⟨e,M1,_,ok.mono k1,a1,h1,fun xs M2 h2 vs H2 k2 a2 r2=>f _ M2 h2 _ H2 (k1.trans k2) a2 (.cons (r1.mono k2) r2)⟩⟩)⟩
def IF(t:DTA):DTE:=fun e M R=>t e M fun ds M1=>ds.length≤sizeLine∧R (.tup ds) M1
def IL(t:DTA):DTE:=fun e M R=>t e M fun ds M1=>ds.length≤sizeLine∧∀ p,M1 p=none→R (.ref p) (C1 M1 p (.lst ds))
theorem g8{x1}(h:JA X es tr):JE X (.Tuple es x1 pos) (IF tr):=⟨have h:=h.out;(Fu h).imp (by rintro σ H Q ⟨e,M,R,ok,am,t,f⟩;exact⟨e,M,_,ok,am,t,fun ds M1 ⟨hz,h1⟩ vs H1 k1 a1 r1=>by
  refine⟨by rw[r1.length];exact hz,fun p hp=>?_⟩
  have k2:KT H1 (upd H1 p (.tup vs)):=KT.alloc hp
  exact f _ M1 h1 _ _ (k1.trans k2) (a1.alloc hp) (.tup (SqT.of i6) (r1.mono k2))⟩)⟩
theorem kJ(h:JA X es tr):JE X (.List es pos) (IL tr):=⟨have h:=h.out;(wV h).imp (by rintro σ H Q ⟨e,M,R,ok,am,t,f⟩;exact⟨e,M,_,ok,am,t,fun ds M1 ⟨hz,h1⟩ vs H1 k1 a1 r1=>by
  refine⟨by rw[r1.length];exact hz,fun p hp=>?_⟩
  have k2:KT H1 (upd H1 p (.lst vs)):=KT.alloc hp
  exact f _ _ (h1 p (a1.fresh hp)) _ _ (k1.trans k2) (a1.new hp r1) (.ref p)⟩)⟩
theorem HasL.at{K:Nd}{H:Hp}{vs:List V}{ds:List D}(h:HasL K H vs ds){i:Int}{z:D}(e:atI ds i=some z):∃ v,atI vs i=some v∧Has K H v z:=by
 unfold atI at e ⊢
 rw[h.length]
 cases q:ixN ds.length i with
 | none=>rw[q]at e;cases e
 | some j =>
  rw[q]at e
  exact h.get e
def DIx(X:Cx)(g:DR2):Prop:=IxR X (upR X.K g)
theorem Ii{g:DR2}(hr:DIx X g)(ha:JE X a ta)(hb:JE X b tb)(hs:lA b):JE X (.Subscript a b pos) (dOp g ta tb):=⟨have ha:=ha.out;have hb:=hb.out;(HQ hr ha hb hs).imp fun _ _ _ h=>iV h⟩
noncomputable abbrev DXK:=Value→Mem→Prop
noncomputable abbrev DSp:=List D→Mem→DK→DXK→Prop
def GH(K:Nd)(H:Hp)(Y:DXK)(E:XK):Prop:=∀ c M',Y c M'→∀ o H',KT H H'→o9 K H' M'→E c o H'
noncomputable def mE(K:Nd)(sp:DSp):Sp:=fun vs H Q E=>∃ ds M R Y,HasL K H vs ds∧o9 K H M∧sp ds M R Y∧ft K H R Q∧GH K H Y E
def oj(sp:DSp)(dds:List D)(Y:DXK)(t:DTA):DTE:=fun e M R=>t e M fun ds M1=>sp (ds++dds) M1 R Y
end
section
variable {X:Cx} {CX:CXT} {k:Nat} {f C:Addr} {fd:FuncData} {ps:List Str} {sp:DSp} {dvs:List V} {dds:List D} {ds:List Value} {E:XK} {Y:DXK} {x m:Str} {p pos apos:Pos} {e o:Expr} {es:List Expr} {t:DTA}
theorem Gk(F:T2 X.prog X.w X.K X.mg X.base CX k f fd ps (mE X.K sp))(hr:J8 k X.A)(hg:Gl X x)(hm:X.mg x=some (.ref f))(hk:PySem.W.keepIn X.K (.ref f)=true)(hb:fu X.K fd ps ds)(hd:j6 dvs ds)(hdd:∀ H,HasL X.K H dvs dds)(hx:lB CX X E)(hY:∀ H,GH X.K H Y E)
  (ha:DPA X (e :: es) t) (hdb:(x == ("__debug__" : Str))=false:=by decide) (he:starEach (e :: es) X.env=(false,eval e X.env) :: starEach es X.env:=by rfl) (hpl:(backTo pos (starEach es X.env)).any (·.1)=false:=by rfl) :
  DPE X (.Call (.Name x p) (e :: es) [] pos) (oj sp dds Y t) :=
 (Bl F hr hg hm hk hb hd hx ha hdb he hpl).imp (by rintro σ H Q ⟨e,M,R,ok,am,t,f⟩;exact⟨e,M,_,ok,am,t,fun xs M1 h1 vs H1 k1 a1 r1 =>
  ⟨xs++dds,M1,R,Y,r1.append (hdd H1),a1,h1,f.mono k1,hY H1⟩⟩)
end
section
variable {X:Cx} {st:Stmt} {D9:List Stmt} {t u:DTS} {e:Expr} {te:DTE} {pos:Pos}
def DT:DTS:=fun F e M=>F.nx e M
def Gm(t u:DTS):DTS:=fun F e M=>t { F with nx:=u F } e M
theorem f8:JSs X [] DT:=⟨AX.imp (by rintro E σ H ⟨e,M,F,ok,am,t,f⟩;exact f.nx e M t σ H (KT.refl H) am ok)⟩
theorem d7(h1:JS X st t)(h2:JSs X D9 u):JSs X (st :: D9) (Gm t u):=⟨have h1:=h1.out;have h2:=h2.out;(ny h1 h2).imp (by rintro E σ H ⟨e,M,F,ok,am,t,f⟩;exact⟨e,M,{ F with nx:=u F },ok,am,t,⟨fun e' M' h σ' H' k a o=>⟨e',M',F,o,a,h,f.mono k⟩,f.rt,f.bk,f.ct⟩⟩)⟩
theorem d8(h1:JS X st t):JSs X [st] t:=⟨have h1:=h1.out;AW h1⟩
def DV(te:DTE):DTS:=fun F e M=>te e M fun _ M1=>F.nx e M1
theorem V2(he:JE X e te)(hs:swapsWith e none pos.line X.env=pure false:=by rfl):JS X (.Expr e pos) (DV te):=⟨have he:=he.out;(AZ he hs).imp (by rintro E σ H ⟨e,M,F,ok,am,t,f⟩;exact⟨e,M,_,ok,am,t,fun d M1 h1 v H1 k1 a1 r1=>f.nx e M1 h1 σ H1 k1 a1 (ok.mono k1)⟩)⟩
def Gn(te:DTE):DTS:=fun F e M=>te e M F.rt
theorem e5(he:JE X e te):JS X (.Return (some e) pos) (Gn te):=⟨have he:=he.out;(Fj he).imp (by rintro E σ H ⟨e,M,F,ok,am,t,f⟩;exact⟨e,M,_,ok,am,t,f.rt⟩)⟩
def IM(c:DTT)(t u:DTS):DTS:=fun F e M=>c e M fun b M1=>if b=true then t F e M1 else u F e M1
theorem h8{c:Expr}{a b:List Stmt}{tc:DTT}(hc:JT X c tc)(ha:JSs X a t)(hb:JSs X b u):JS X (.If c a b pos) (IM tc t u):=⟨have hc:=hc.out;have ha:=ha.out;have hb:=hb.out;(HN hc ha hb).imp (by rintro E σ H ⟨e,M,F,ok,am,t,f⟩;exact⟨e,M,_,ok,am,t,fun k M1 h1 H1 k1 a1=>by
  cases k with
  | true=>exact⟨e,M1,F,ok.mono k1,a1,h1,f.mono k1⟩
  | false=>exact⟨e,M1,F,ok.mono k1,a1,h1,f.mono k1⟩⟩)⟩
def yn:DTS:=fun _ _ _=>False
theorem tY:JS X st yn:=⟨wJ.imp (by rintro E σ H ⟨_,_,_,_,_,t,_⟩;exact t)⟩
noncomputable abbrev DTG:=D→Ev→Mem→(Ev→Mem→Prop)→Prop
noncomputable abbrev W3:=List D→Ev→Mem→(Ev→Mem→Prop)→Prop
def upG(K:Nd)(g:DTG):TG:=fun v σ H Q=>∃ d e M R,Has K H v d∧A6 K H σ e∧o9 K H M∧g d e M R∧oM K H R Q
def Jo(K:Nd)(g:W3):TGs:=fun vs σ H Q=>∃ ds e M R,HasL K H vs ds∧A6 K H σ e∧o9 K H M∧g ds e M R∧oM K H R Q
abbrev DPG(X:Cx)(x:Expr)(g:DTG):Prop:=PG X x (upG X.K g)
abbrev Ko(X:Cx)(x:List Expr)(g:W3):Prop:=PGs X x (Jo X.K g)
structure JG(X:Cx)(x:Expr)(g:DTG):Prop where
 out:DPG X x g
structure JGs(X:Cx)(x:List Expr)(g:W3):Prop where
 out:Ko X x g
def bN(i:Nat):DTG:=fun d e M R=>R (e.set i (some d)) M
theorem xy{i:Nat}{x:Str}(hN:X.N.Nodup)(hi:X.N[i]? = some x)(hx:Loc X.env.scope x)(hf:X.fn x=true∨X.env.scope.names.lookup x=some .local:=by first|exact .inl rfl|exact .inr rfl|assumption):JG X (.Name x pos) (bN i):=⟨PG.imp (Bh hN hi hx hf) (by rintro v σ H Q ⟨d,e,M,R,r,ok,am,g,f⟩;exact f _ M g _ H (KT.refl H) am (ok.set r i))⟩
def DP:W3:=fun ds e M R=>ds=[]∧R e M
def yi(t:DTG)(u:W3):W3:=fun ds e M R=>∃ d r,ds=d :: r∧t d e M fun e' M'=>u r e' M' R
theorem i5:JGs X [] DP:=⟨PGs.imp Bf (by
 rintro v σ H Q ⟨ds,e,M,R,r,ok,am,⟨z,g⟩,f⟩
 subst z;cases r;exact⟨rfl,f e M g σ H (KT.refl H) am ok⟩)⟩
end
section
variable {X:Cx} {st:Stmt} {D9:List Stmt} {t u:DTS} {e:Expr} {te:DTE} {pos:Pos}
theorem d9{x:Expr}{xs:List Expr}{t:DTG}{u:W3}(h1:JG X x t)(h2:JGs X xs u)
  (hs:(assignEach (x :: xs) X.env).map (·.2)=assign x X.env :: (assignEach xs X.env).map (·.2):=by rfl):JGs X (x :: xs) (yi t u):=⟨have h1:=h1.out;have h2:=h2.out;PGs.imp (wR h1 h2 hs) (by
  rintro vs σ H Q ⟨ds,e,M,R,r,ok,am,⟨d,dr,z,g⟩,f⟩
  subst z
  cases r with
  | cons r rr=>exact⟨_,_,rfl,d,e,M,_,r,ok,am,g,fun e1 M1 h1 σ1 H1 k1 a1 ok1=>⟨dr,e1,M1,R,rr.mono k1,ok1,a1,h1,f.mono k1⟩⟩)⟩
def oi(n:Nat)(t:W3):DTG:=fun d e M R=>∃ ds,d = .tup ds∧ds.length=n∧t ds e M R
theorem j8{xs:List Expr}{k:Nat}{t:W3}{n:Nat}(hc:X.calm=true)(h:JGs X xs t)
  (hn:(assignEach xs X.env).length=n:=by rfl) (hst:(assignEach xs X.env).findIdx? (·.1)=none:=by rfl):JG X (.Tuple xs k pos) (oi n t):=⟨have h:=h.out;PG.imp (Fs hc h hn hst) (by
  rintro v σ H Q ⟨d,e,M,R,r,ok,am,⟨ds,z,hl,g⟩,f⟩
  subst z
  cases r with
  | tup s l=>exact⟨_,_,rfl,s,by rw[l.length];exact hl,ds,e,M,R,l,ok,am,g,f⟩)⟩
noncomputable abbrev zh:=D→D→D→Mem→(Mem→Prop)→Prop
noncomputable def DH:zh:=fun o i v M R=>∃ p ds k j,o = .ref p∧i = .int k∧M p=some (.lst ds)∧ixN ds.length k=some j∧R (C1 M p (.lst (ds.set j v)))
def DO(to ti:DTE)(t:zh):DTG:=fun d e M R=>to e M fun o M1=>ti e M1 fun i M2=>t o i d M2 fun M3=>R e M3
theorem kI{o i:Expr}{to ti:DTE}(ho:JE X o to)(hi:JE X i ti)
  (ha:∀ v,assign (.Subscript o i pos) X.env v=(do
   let ov ← holding [v] (eval o X.env)
   let iv ← holding [v,ov] (eval i X.env)
   standAt pos
   holding [v,ov,iv] (setItem ov iv v)
   release [v,ov,iv] []):=by intro _;rfl):JG X (.Subscript o i pos) (DO to ti DH):=⟨have ho:=ho.out;have hi:=hi.out;PG.imp (Ft ho hi vT ha) fun v σ H Q ⟨d,e,M,R,r,ok,am,g,f⟩ =>
  ⟨e,M,_,ok,am,g,fun x M1 h1 vo H1 k1 a1 r1=>⟨e,M1,_,ok.mono k1,a1,h1,fun y M2 ⟨p,ds,k,j,e1,e2,e3,e4,h2⟩ vi H2 k2 a2 r2=>by
   subst e1;subst e2
   cases r1;cases r2
   obtain⟨xs,hx,l⟩:=a2.lst e3
   have kt:KT H H2:=k1.trans k2
   have kw:KT H2 (upd H2 p (.lst (xs.set j v))):=KT.write hx
   exact⟨p,xs,k,j,rfl,rfl,hx,by rw[l.length];exact e4,f e _ h2 σ _ (kt.trans kw) (a2.write hx (l.set (r.mono kt) j)) ((ok.mono kt).mono kw)⟩⟩⟩⟩
def yq(te:DTE)(g:DTG):DTS:=fun F e M=>te e M fun x M1=>g x e M1 F.nx
theorem t8{tg x:Expr}{tx:DTE}{g:DTG}(he:JE X x tx)(hg:JG X tg g)(hs:swapsWithSole [tg] x pos.line X.env=pure false:=by rfl)(hw:swappedStores [tg] x X.env=pure none:=by rfl)
  (h1:(assignEach [tg] X.env).map (·.2)=[assign tg X.env]:=by rfl):JS X (.Assign [tg] x pos) (yq tx g):=⟨have he:=he.out;have hg:=hg.out;(Fo he hg hs hw h1).imp (by rintro E σ H ⟨e,M,F,ok,am,t,f⟩;exact⟨e,M,_,ok,am,t,fun d M1 h1 v H1 k1 a1 r1=>⟨d,e,M1,F.nx,r1,ok.mono k1,a1,h1,f.nx.mono k1⟩⟩)⟩
theorem BQ{i:Nat}{x:Str}{tx:DTE}{pos':Pos}(hN:X.N.Nodup)(hi:X.N[i]? = some x)(hx:Loc X.env.scope x)(he:JE X e tx)(hs:swapsWith e (some (.Name x pos')) pos.line X.env=pure false:=by rfl)(hf:X.fn x=true∨X.env.scope.names.lookup x=some .local:=by first|exact .inl rfl|exact .inr rfl|assumption):JS X (.Assign [.Name x pos'] e pos) (yq tx (bN i)):=⟨have he:=he.out;(Fi hN hi hx he hs hf).imp (by rintro E σ H ⟨e,M,F,ok,am,t,f⟩;exact⟨e,M,_,ok,am,t,fun d M1 h1 v H1 k1 a1 r1=>f.nx _ M1 h1 _ H1 k1 a1 ((ok.mono k1).set r1 i)⟩)⟩
def II(i j:Nat)(ta:DTA):DTS:=fun F e M=>ta e M fun ds M1=>∃ x y,ds=[x,y]∧F.nx ((e.set i (some x)).set j (some y)) M1
theorem dm{i j:Nat}{x y:Str}{a b:Expr}{ta:DTA}{px py pt:Pos}{kt k2 pt2}(hc:X.calm=true)(hN:X.N.Nodup)(hi:X.N[i]? = some x)(hj:X.N[j]? = some y)(hij:i≠j)
  (hx:X.env.scope.names.lookup x=some .local) (hy:X.env.scope.names.lookup y=some .local) (ha:JA X [a,b] ta)
  (hw:swappedStores [.Tuple [.Name x px,.Name y py] kt pt] (.Tuple [a,b] k2 pt2) X.env=pure (some [x,y]):=by rfl)
  (hs:swapsWithSole [.Tuple [.Name x px,.Name y py] kt pt] (.Tuple [a,b] k2 pt2) pos.line X.env=pure false:=by rfl):JS X (.Assign [.Tuple [.Name x px,.Name y py] kt pt] (.Tuple [a,b] k2 pt2) pos) (II i j ta):=⟨have ha:=ha.out;(Fl hc hN hi hj hij hx hy ha hw hs).imp (by rintro E σ H ⟨e,M,F,ok,am,t,f⟩;exact⟨e,M,_,ok,am,t,fun ds M1 ⟨x,y,z,h1⟩ vs H1 k1 a1 r1=>by
  subst z
  cases r1 with
  | cons r1 rr =>
   cases rr with
   | cons r2 rr =>
    cases rr
    exact⟨_,_,rfl,f.nx _ M1 h1 _ H1 k1 a1 (((ok.mono k1).set r1 i).set r2 j)⟩⟩)⟩
def yk(c:DTT)(tb:DTS):DTS:=fun F e M=>∃ W:Nat→Ev→Mem→Prop,(∃ m,W m e M)∧∀ m e M,W m e M →
 c e M fun b M1=>if b=true then tb { F with nx:=fun e' M'=>∃ m',m'<m∧W m' e' M',ct:=fun e' M'=>∃ m',m'<m∧W m' e' M',bk:=F.nx } e M1 else F.nx e M1
theorem bL{c:Expr}{body:List Stmt}{tc:DTT}{tb:DTS}(hp:PassesOwn (model X.prog X.w) X.A X.env X.xe)(hc:JT X c tc)(hb:JSs X body tb):JS X (.While c body [] pos) (yk tc tb):=⟨have hc:=hc.out;have hb:=hb.out;(wI hp hc hb).imp (by
  rintro E σ H ⟨e,M,F,ok,am,⟨W,⟨m0,w0⟩,turn⟩,f⟩
  refine⟨fun m σ' H'=>∃ e' M',KT H H'∧A6 X.K H' σ' e'∧o9 X.K H' M'∧W m e' M',⟨m0,e,M,KT.refl H,ok,am,w0⟩,?_⟩
  rintro m σ1 H1 ⟨e1,M1,k1,ok1,a1,w1⟩
  refine⟨e1,M1,_,ok1,a1,turn m e1 M1 w1,fun b M2 h2 H2 k2 a2=>?_⟩
  cases b with
  | false=>exact f.nx e1 M2 h2 σ1 H2 (k1.trans k2) a2 (ok1.mono k2)
  | true =>
   refine⟨fun σ' H'=>∃ m',m'<m∧∃ e' M',KT H H'∧A6 X.K H' σ' e'∧o9 X.K H' M'∧W m' e' M',fun σ' H' h=>h,e1,M2,_,ok1.mono k2,a2,h2,?_⟩
   have kk:=k1.trans k2
   exact⟨fun e' M' ⟨m',l,w⟩ σ' H' k' a' o'=>⟨m',l,e',M',kk.trans k',o',a',w⟩,f.rt.mono kk,f.nx.mono kk,fun e' M' ⟨m',l,w⟩ σ' H' k' a' o'=>⟨m',l,e',M',kk.trans k',o',a',w⟩⟩)⟩
noncomputable abbrev DTI:=Ev→Mem→(List D→(Mem→Prop)→Mem→Prop)→Prop
def IQ(ti:DTI)(g:DTG)(tb:DTS):DTS:=fun F e M=>ti e M fun ds stay M1=>∃ W:Nat→Ev→Mem→Prop,W 0 e M1∧(∀ i e M,i≤ds.length→W i e M→stay M) ∧
 (∀(i:Nat) (d:D) e M,ds[i]? = some d→W i e M→g d e M fun e2 M2=>tb { F with nx:=W (i+1),ct:=W (i+1),bk:=F.nx } e2 M2)∧∀ e M,W ds.length e M→F.nx e M
noncomputable def G7(lo:Int)(n:Nat):List D:=(OC n).map fun(i:Nat)=>D.int (lo+(i:Int))
theorem E1(lo:Int)(n:Nat):(G7 lo n).length=n:=by simp[G7]
theorem eN{lo:Int}{n i:Nat}(h:i<n):(G7 lo n)[i]? = some (D.int (lo+(i:Int))):=by simp[G7,h]
theorem bG{lo:Int}{n i:Nat}{d:D}(h:(G7 lo n)[i]? = some d):i<n∧d=D.int (lo+(i:Int)):=by
 have hl:i<n:=by
  have:=(Nw.mp h).1
  rw[E1]at this;exact this
 rw[eN hl]at h
 exact⟨hl,(Option.some.inj h).symm⟩
def DN(ta:DTA):DTI:=fun e M R=>ta e M fun ds M1=>∃ j:Int,ds=[.int j]∧-(2 ^ 62)≤j∧j<2 ^ 62∧R (G7 0 j.toNat) (fun _=>True) M1
def yf(ta:DTA):DTI:=fun e M R=>ta e M fun ds M1=>∃ i j:Int,ds=[.int i,.int j]∧(-(2 ^ 62)≤i∧i<2 ^ 62∧-(2 ^ 62)≤j∧j<2 ^ 62)∧R (G7 i (j - i).toNat) (fun _=>True) M1
theorem xW{K:Nd}{H H1 H2:Hp}{F:Y8}{E:oN}{W:Nat→Ev→Mem→Prop}{g:DTG}{tb:DTS}{i:Nat}{x:V}{d:D}{σ2:St}{e2:Ev}{M2:Mem}(f:Fit K H F E)(k1:KT H H1)(k2:KT H1 H2)(ok2:A6 K H2 σ2 e2)(a2:o9 K H2 M2)(r:Has K H2 x d)
  (h:g d e2 M2 fun e3 M3=>tb { F with nx:=W (i+1),ct:=W (i+1),bk:=F.nx } e3 M3) :
  upG K g x σ2 H2 fun σ3 H3=>upS K tb { E with nx:=fun σ' H'=>∃ e' M',KT H1 H'∧A6 K H' σ' e'∧o9 K H' M'∧W (i+1) e' M',ct:=fun σ' H'=>∃ e' M',KT H1 H'∧A6 K H' σ' e'∧o9 K H' M'∧W (i+1) e' M',bk:=E.nx } σ3 H3:=by
 refine⟨d,e2,M2,_,r,ok2,a2,h,fun e3 M3 h3 σ3 H3 k3 a3 ok3=>⟨e3,M3,_,ok3,a3,h3,?_⟩⟩
 have kk:KT H H3:=k1.trans (k2.trans k3)
 exact⟨fun e' M' w σ' H' k' a' o'=>⟨e',M',k2.trans (k3.trans k'),o',a',w⟩,f.rt.mono kk,f.nx.mono kk,fun e' M' w σ' H' k' a' o'=>⟨e',M',k2.trans (k3.trans k'),o',a',w⟩⟩
variable {tg iter:Expr} {body:List Stmt} {ti:DTE} {ta:DTA} {g:DTG} {tb:DTS}
theorem Has.il{K:Nd}{H:Hp}{v:V}{ds:List D}(h:Has K H v (.vl ds)):∃ a xs,v = .ref a∧SqL K H a xs∧HasL K H xs ds:=by
 cases h with
 | vl h l=>exact⟨_,_,rfl,h.elim (fun⟨o,e⟩=>.inl (.inr ⟨o,e⟩)) (fun k=>k H),l⟩
end
section
variable {P:Program} {w:World} {K:Nd} {mg:Str→Option Value} {base:Heap}
end
section
variable {X:Cx} {x:Str} {p pos:Pos} {e:Expr} {es:List Expr} {t:DTA} {id T:String}
noncomputable abbrev DRC:=List D→Mem→DK→Prop
noncomputable def upC(K:Nd)(g:DRC):List V→Hp→VK→Prop:=fun xs H Q=>∃ ds M R,HasL K H xs ds∧o9 K H M∧g ds M R∧ft K H R Q
def T0(X:Cx)(f:Value)(g:DRC):Prop:=v9 X f (upC X.K g)
def dCB(g:DRC)(t:DTA):DTE:=fun e M R=>t e M fun ds M1=>g ds M1 R
theorem DZ{g:DRC}{σ:St}{H:Hp}{Q:VK}(h:up X.K (dCB g t) σ H Q):tCB (upC X.K g) (upA X.K t) σ H Q:=by
 obtain⟨e,M,R,ok,am,t,f⟩:=h
 exact⟨e,M,_,ok,am,t,fun ds M1 h1 vs H1 k1 a1 r1=>⟨ds,M1,R,r1,a1,h1,f.mono k1⟩⟩
theorem v9.imp{f:Value}{r r':List V→Hp→VK→Prop}(h:v9 X f r)(i:∀ xs H Q,r' xs H Q→r xs H Q):v9 X f r':=fun pins s σ H xs us Q I rv q=>h pins s σ H xs us Q I rv (i xs H Q q)
theorem HasL.one{K:Nd}{H:Hp}{vs:List V}{d:D}(h:HasL K H vs [d]):∃ v,vs=[v]∧Has K H v d:=by
 cases h with
 | cons r rr=>cases rr;exact⟨_,rfl,r⟩
theorem HasL.two{K:Nd}{H:Hp}{vs:List V}{d d':D}(h:HasL K H vs [d,d']):∃ v v',vs=[v,v']∧Has K H v d∧Has K H v' d':=by
 cases h with
 | cons r rr=>cases rr with|cons r2 rr=>cases rr;exact⟨_,_,rfl,r,r2⟩
def IB:DRC:=fun ds M R=>∃ i:Int,ds=[.int i]∧R (.int (i.natAbs:Int)) M
theorem fj:T0 X (.builtin "abs") IB:=v9.imp yG (by
 rintro xs H Q ⟨ds,M,R,hl,am,⟨i,z,r⟩,f⟩
 subst z
 obtain⟨v,rfl,h⟩:=hl.one
 cases h
 have e:(if i<0 then -i else i)=(i.natAbs:Int):=by split<;>omega
 exact⟨i,rfl,by rw[e];exact f _ M r _ H (KT.refl H) am (.int _)⟩)
def Iy:DRC:=fun ds M R=>∃ i j:Int,ds=[.int i,.int j]∧R (.int (max i j)) M
theorem Eb(hc:X.calm=true):T0 X (.builtin "max") Iy:=v9.imp (ug hc) (by
 rintro xs H Q ⟨ds,M,R,hl,am,⟨i,j,z,r⟩,f⟩
 subst z
 obtain⟨v,v',rfl,h,h'⟩:=hl.two
 cases h;cases h'
 have e:(if j > i then j else i)=max i j:=by
  rw[Int.max_def];split<;>split<;>omega
 exact⟨i,j,rfl,by rw[e];exact f _ M r _ H (KT.refl H) am (.int _)⟩)
def Iw:DRC:=fun ds M R=>∃ i j:Int,ds=[.int i,.int j]∧R (.int (min i j)) M
theorem Ea(hc:X.calm=true):T0 X (.builtin "min") Iw:=v9.imp (uf hc) (by
 rintro xs H Q ⟨ds,M,R,hl,am,⟨i,j,z,r⟩,f⟩
 subst z
 obtain⟨v,v',rfl,h,h'⟩:=hl.two
 cases h;cases h'
 have e:(if j<i then j else i)=min i j:=by
  rw[Int.min_def];split<;>split<;>omega
 exact⟨i,j,rfl,by rw[e];exact f _ M r _ H (KT.refl H) am (.int _)⟩)
noncomputable def xr(M:Mem):D→Option Nat
 | .tup ds=>some ds.length
 | .ref p=>match M p with
  | some (.lst ds)=>some ds.length
  | _=>none
 | .vl ds=>some ds.length
 | _=>none
def qc:DRC:=fun ds M R=>∃ d n,ds=[d]∧xr M d=some n∧R (.int (n:Int)) M
theorem N4:T0 X (.builtin "len") qc:=v9.imp kZ (by
 rintro xs H Q ⟨ds,M,R,hl,am,⟨d,n,z,hn,r⟩,f⟩
 subst z
 obtain⟨v,rfl,h⟩:=hl.one
 cases d with
 | tup es =>
  cases h with
  | tup s l =>
   cases hn
   exact⟨_,_,rfl,.inr s,by rw[l.length];exact f _ M r _ H (KT.refl H) am (.int _)⟩
 | ref p =>
  cases h
  unfold xr at hn
  cases q:M p with
  | none=>simp[q]at hn
  | some o =>
   cases o with
   | lst es =>
    simp only[q]at hn
    cases hn
    obtain⟨ys,hy,l⟩:=am.lst q
    exact⟨p,ys,rfl,.inl (SqL.of hy),by rw[l.length];exact f _ M r _ H (KT.refl H) am (.int _)⟩
   | ins C fs=>simp[q]at hn
 | vl es =>
  cases hn
  obtain⟨a,xs,rfl,sq,l⟩:=h.il
  exact⟨a,_,rfl,.inl sq,by rw[l.length];exact f _ M r _ H (KT.refl H) am (.int _)⟩
 | _=>cases hn)
end
theorem ak:bootBuiltins "abs" = some (.builtin "abs"):=by decide +kernel
theorem yL:bootBuiltins "max" = some (.builtin "max"):=by decide +kernel
theorem yK:bootBuiltins "min" = some (.builtin "min"):=by decide +kernel
theorem F9:bootBuiltins "len" = some (.builtin "len"):=by decide +kernel
theorem o7:bootBuiltins "isinstance" = some (.builtin "isinstance"):=by decide +kernel
theorem qk:bootBuiltins "int" = some (.type "int"):=by decide +kernel
theorem lj:bootBuiltins "bool" = some (.type "bool"):=by decide +kernel
theorem L7:bootBuiltins "tuple" = some (.type "tuple"):=by decide +kernel
theorem lh:bootBuiltins "list" = some (.type "list"):=by decide +kernel
section
variable {X:Cx} {a b c:Expr} {ta tb tc:DTE} {pos:Pos}
theorem Bp:OpR X (binaryOp .Mult) (rI IntMulOk fun i j=>.int (i*j)):=opI fun _ _ _ _ _ _ _ hc q=>mul_int q hc
def CFd(i j:Int):Prop:=j≠0∧j.natAbs.log2<9000
theorem wZ:OpR X (binaryOp .FloorDiv) (rI CFd fun i j=>.int (i.fdiv j)):=opI fun _ _ _ _ _ _ _ hc q=>floordiv_int hc.1 q (.inl (PyProof.noPylong_of_log2 hc.2))
theorem g9:DOp X (binaryOp .Mult) (gI IntMulOk fun i j=>.int (i*j)):=sI Bp fun _ _ _=>.int _
theorem L4:DOp X (binaryOp .FloorDiv) (gI CFd fun i j=>.int (i.fdiv j)):=sI wZ fun _ _ _=>.int _
noncomputable def ixD(M:Mem):D→D→Option D
 | .tup ds,.int i=>atI ds i
 | .ref p,.int i=>match M p with
  | some (.lst ds)=>atI ds i
  | _=>none
 | .vl ds,.int i=>atI ds i
 | _,_=>none
def gIx:DR2:=fun x y M R=>∃ z,ixD M x y=some z∧R z M
theorem IxR.or'{r r':R2}(h:IxR X r)(h':IxR X r'){g:R2}(i:∀ x y H Q,g x y H Q→r x y H Q∨r' x y H Q):IxR X g:=IxR.imp (IxR.or h h') i
theorem Io:DIx X gIx:=IxR.or' FZ BV (by
 rintro x y H Q ⟨dx,dy,M,R,hx,hy,am,⟨z,e,r⟩,f⟩
 cases dy with
 | int i =>
  cases hy
  cases dx with
  | tup ds =>
   cases hx with
   | tup s l =>
    obtain⟨v,h1,h2⟩:=l.at (show atI ds i=some z from e)
    exact .inl ⟨_,_,i,v,rfl,rfl,s,h1,f z M r v H (KT.refl H) am h2⟩
  | ref p =>
   cases hx
   unfold ixD at e
   cases q:M p with
   | none=>simp[q]at e
   | some o =>
    cases o with
    | lst ds =>
     simp only[q]at e
     obtain⟨xs,h1,h2⟩:=am.lst q
     obtain⟨v,h3,h4⟩:=h2.at e
     exact .inr ⟨_,_,i,v,rfl,rfl,SqL.of h1,h3,f z M r v H (KT.refl H) am h4⟩
    | ins C fs=>simp[q]at e
  | vl ds =>
   obtain⟨a,xs,rfl,sq,l⟩:=hx.il
   obtain⟨v,h1,h2⟩:=l.at (show atI ds i=some z from e)
   exact .inr ⟨_,_,i,v,rfl,rfl,sq,h1,f z M r v H (KT.refl H) am h2⟩
  | _=>simp[ixD]at e
 | _=>cases dx<;>simp[ixD]at e)
theorem F7{M:Mem}{p:Addr}{ds:List D}{i:Int}{z:D}(m:M p=some (.lst ds))(h:atI ds i=some z):ixD M (.ref p) (.int i)=some z:=by
 unfold ixD;simp only[m];exact h
noncomputable def isD:D→D→Option Bool
 | .bl a,.bl b=>some (a == b)
 | .non,.non=>some true
 | .bl _,.non=>some false
 | .int _,.non=>some false
 | .str _,.non=>some false
 | .ref _,.non=>some false
 | .tup _,.non=>some false
 | .vl _,.non=>some false
 | .exc _,.non=>some false
 | _,_=>none
theorem iA{x y:D}{b:Bool}(h:isD x y=some b):(∃ p q,x = .bl p∧y = .bl q∧b=(p == q))∨(y = .non∧((x = .non∧b=true)∨(x ≠ .non∧b=false))):=by
 cases x<;>cases y<;>simp[isD]at h<;>simp[h]
theorem su{K:Nd}{H:Hp}{v:V}{x:D}(h:Has K H v x)(n:x ≠ .non):v ≠ .non:=by
 intro e;subst e;cases h;exact n rfl
def gIs(neg:Bool):DR2:=fun x y M R=>∃ b,isD x y=some b∧R (.bl (neg.xor b)) M
theorem JN:DOp X (compareOp .Is) (gIs false):=by
 intro pins s σ H x y v u Q I rx ry h
 obtain⟨dx,dy,M,R,hx,hy,am,⟨b,e,r⟩,f⟩:=h
 have fin:EP X pins σ Q (.bool b) s:=⟨.bl b,H,I,rfl,by have:=f _ M r (.bl b) H (KT.refl H) am (by simpa using Has.bl (K:=X.K) (H:=H) b);exact this⟩
 rcases iA e with⟨p,q,rfl,rfl,rfl⟩|⟨rfl,hx'⟩
 ·cases hx;cases hy;cases rx;cases ry
  exact is_bool fin
 ·cases hy;cases ry
  refine is_none_gen ?_
  rw[q9.none_iff rx]
  rcases hx' with⟨rfl,rfl⟩|⟨n,rfl⟩
  ·cases hx;exact fin
  ·rw[decide_eq_false (su hx n)];exact fin
theorem kD:DOp X (compareOp .IsNot) (gIs true):=by
 intro pins s σ H x y v u Q I rx ry h
 obtain⟨dx,dy,M,R,hx,hy,am,⟨b,e,r⟩,f⟩:=h
 have fin:EP X pins σ Q (.bool (!b)) s:=⟨.bl (!b),H,I,rfl,by have:=f _ M r (.bl (!b)) H (KT.refl H) am (by simpa using Has.bl (K:=X.K) (H:=H) (!b));exact this⟩
 rcases iA e with⟨p,q,rfl,rfl,rfl⟩|⟨rfl,hx'⟩
 ·cases hx;cases hy;cases rx;cases ry
  exact isnot_bool fin
 ·cases hy;cases ry
  refine isnot_none_gen ?_
  rw[q9.none_iff rx]
  rcases hx' with⟨rfl,rfl⟩|⟨n,rfl⟩
  ·cases hx;exact fin
  ·rw[decide_eq_false (su hx n)];exact fin
mutual
inductive PyR (M:Mem):D→PyData→Prop
 | non:PyR M .non .none
 | bl (b:Bool):PyR M (.bl b) (.bool b)
 | int (i:Int):PyR M (.int i) (.int i)
 | str (x:Str):PyR M (.str x) (.str x)
 | tup {ds:List D} {ps:List PyData}:PyRL M ds ps→PyR M (.tup ds) (.tuple ps)
 | lst {p:Addr} {ds:List D} {ps:List PyData}:M p=some (.lst ds)→PyRL M ds ps→PyR M (.ref p) (.list ps)
 | vl {ds:List D} {ps:List PyData}:PyRL M ds ps→PyR M (.vl ds) (.list ps)
inductive PyRL (M:Mem):List D→List PyData→Prop
 | nil:PyRL M [] []
 | cons {d:D} {p:PyData} {ds:List D} {ps:List PyData}:PyR M d p→PyRL M ds ps→PyRL M (d :: ds) (p :: ps)
end
mutual
theorem U9{pins:List (Addr × Obj)}{s:Shared}{σ:St}{H:Hp}{M:Mem}(I:Inv X pins σ H s)(am:o9 X.K H M):∀{d:D} {p:PyData},PyR M d p→∀{v:V} {u:Value},Has X.K H v d→q9 v u→∃ as,Reads s.heap u p as
 | _,_,.non,_,_,h,r=>by cases h;cases r;exact⟨_,.none⟩
 | _,_,.bl b,_,_,h,r=>by cases h;cases r;exact⟨_,.bool b⟩
 | _,_,.int i,_,_,h,r=>by cases h;obtain⟨t,rfl⟩:=r;exact⟨_,.int i t⟩
 | _,_,.str x,_,_,h,r=>by cases h;obtain⟨t,rfl⟩:=r;exact⟨_,.str x t⟩
 | _,_,.tup l,_,_,h,r=>by
  cases h with
  | tup s' hl =>
   cases r
   obtain⟨its,rv,⟨o,e,hc,n,hd⟩,_⟩:=I.tuple s'
   obtain⟨as,ra⟩:=readsL_of I am l hl rv
   exact⟨as,.tuple e hc hd (by simpa using ra)⟩
 | _,_,.lst m l,_,_,h,r=>by
  cases h
  cases r
  obtain⟨xs,hx,hl⟩:=am.lst m
  obtain⟨its,rv,⟨o,n,e,hc,_,hd⟩,_⟩:=I.list (SqL.of hx)
  obtain⟨as,ra⟩:=readsL_of I am l hl rv
  exact⟨_,.list e hc hd (by simpa using ra)⟩
 | _,_,.vl l,_,_,h,r=>by
  obtain⟨a,xs,rfl,sq,hl⟩:=h.il
  cases r
  obtain⟨its,rv,⟨o,n,e,hc,_,hd⟩,_⟩:=I.list sq
  obtain⟨as,ra⟩:=readsL_of I am l hl rv
  exact⟨_,.list e hc hd (by simpa using ra)⟩
theorem readsL_of{pins:List (Addr × Obj)}{s:Shared}{σ:St}{H:Hp}{M:Mem}(I:Inv X pins σ H s)(am:o9 X.K H M):∀{ds:List D} {ps:List PyData},PyRL M ds ps→∀{vs:List V} {us:List Value},HasL X.K H vs ds→j6 vs us→∃ as,ReadsAll s.heap us ps as
 | _,_,.nil,_,_,h,r=>by cases h;cases r;exact⟨_,.nil⟩
 | _,_,.cons a l,_,_,h,r=>by
  cases h with
  | cons h hl =>
   cases r with
   | cons r rl =>
    obtain⟨as,q⟩:=U9 I am a h r
    obtain⟨bs,q2⟩:=readsL_of I am l hl rl
    exact⟨_,.cons q q2⟩
end
def gEq(neg:Bool):DR2:=fun x y M R=>∃ px py,PyR M x px∧PyR M y py∧SeqAt.shaped px=true∧SeqAt.shaped py=true∧R (.bl (neg.xor (PyData.eqv px py))) M
theorem JP(hu:X.A.units+64<cLine):DOp X (compareOp .Eq) (gEq false):=by
 intro pins s σ H x y v u Q I rx ry h
 obtain⟨dx,dy,M,R,hx,hy,am,⟨px,py,p1,p2,s1,s2,r⟩,f⟩:=h
 obtain⟨as,r1⟩:=U9 I am p1 hx rx
 obtain⟨bs,r2⟩:=U9 I am p2 hy ry
 exact eq_dataH r1 r2 s1 s2 hu ⟨.bl _,H,I,rfl,by have:=f _ M r _ H (KT.refl H) am (.bl _);simpa using this⟩
theorem JM(hu:X.A.units+64<cLine):DOp X (compareOp .NotEq) (gEq true):=by
 intro pins s σ H x y v u Q I rx ry h
 obtain⟨dx,dy,M,R,hx,hy,am,⟨px,py,p1,p2,s1,s2,r⟩,f⟩:=h
 obtain⟨as,r1⟩:=U9 I am p1 hx rx
 obtain⟨bs,r2⟩:=U9 I am p2 hy ry
 exact ne_dataH r1 r2 s1 s2 hu ⟨.bl _,H,I,rfl,by have:=f _ M r _ H (KT.refl H) am (.bl _);simpa using this⟩
mutual
noncomputable def pyD:D→PyData
 | .int i=>.int i
 | .str x=>.str x
 | .bl b=>.bool b
 | .tup ds=>.tuple (pyDL ds)
 | .vl ds=>.list (pyDL ds)
 | _=>.none
noncomputable def pyDL:List D→List PyData
 | []=>[]
 | d :: r=>pyD d :: pyDL r
end
mutual
noncomputable def cl:Nat→D→Bool
 | _,.int _=>true
 | _,.non=>true
 | _,.str x=>PyData.canLay0 (.str x)
 | k+1,.tup ds=>clL k ds
 | k+1,.vl ds=>clL k ds
 | _,_=>false
noncomputable def clL:Nat→List D→Bool
 | _,[]=>true
 | k,d :: r=>cl k d && clL k r
end
mutual
theorem yw{M:Mem}:∀{k:Nat} {d:D},cl k d=true→PyR M d (pyD d)∧(pyD d).canLay0=true∧(pyD d).depth≤k
 | _,.int i,_=>⟨.int i,rfl,Oa _⟩
 | _,.non,_=>⟨.non,rfl,Oa _⟩
 | 0,.tup ds,h=>by simp[cl]at h
 | k+1,.tup ds,h=>by
  obtain⟨a,b,c⟩:=clL_py (M:=M) (k:=k) (ds:=ds) (by simpa[cl]using h)
  exact⟨.tup a,by simpa[pyD,PyData.canLay0]using b,by simp only[pyD,PyData.depth];omega⟩
 | _,.str x,h=>⟨.str x,by simpa[cl,pyD]using h,Oa _⟩
 | _,.bl _,h=>by simp[cl]at h
 | _,.ref _,h=>by simp[cl]at h
 | 0,.vl ds,h=>by simp[cl]at h
 | k+1,.vl ds,h=>by
  obtain⟨a,b,c⟩:=clL_py (M:=M) (k:=k) (ds:=ds) (by simpa[cl]using h)
  exact⟨.vl a,by simpa[pyD,PyData.canLay0]using b,by simp only[pyD,PyData.depth];omega⟩
 | _,.ty _,h=>by simp[cl]at h
theorem clL_py{M:Mem}:∀{k:Nat} {ds:List D},clL k ds=true→PyRL M ds (pyDL ds)∧PyData.canLayAll0 (pyDL ds)=true∧PyData.depthAll (pyDL ds)≤k
 | _,[],_=>⟨.nil,rfl,Oa _⟩
 | k,d :: r,h=>by
  have h':cl k d=true∧clL k r=true:=by simpa[clL]using h
  obtain⟨a,b,c⟩:=yw (M:=M) h'.1
  obtain⟨a2,b2,c2⟩:=clL_py (M:=M) h'.2
  exact⟨.cons a a2,by simp[pyDL,PyData.canLayAll0,b,b2],by simp only[pyDL,PyData.depthAll];omega⟩
end
mutual
theorem yx:∀{k j:Nat} {x y:D},cl k x=true→cl j y=true→(PyData.eqv (pyD x) (pyD y)=true↔x=y)
 | _,_,.int i,.int j,_,_=>by simp[pyD,PyData.eqv]
 | _,_,.int i,.non,_,_=>by simp[pyD,PyData.eqv]
 | _,_,.non,.int i,_,_=>by simp[pyD,PyData.eqv]
 | _,_,.non,.non,_,_=>by simp[pyD,PyData.eqv]
 | _,_,.int i,.tup ds,_,_=>by simp[pyD,PyData.eqv]
 | _,_,.non,.tup ds,_,_=>by simp[pyD,PyData.eqv]
 | _,_,.tup ds,.int i,_,_=>by simp[pyD,PyData.eqv]
 | _,_,.tup ds,.non,_,_=>by simp[pyD,PyData.eqv]
 | k+1,j+1,.tup ds,.tup es,h,h'=>by
  have:=clL_eqv (k:=k) (j:=j) (xs:=ds) (ys:=es) (by simpa[cl]using h) (by simpa[cl]using h')
  simp only[pyD,PyData.eqv,D.tup.injEq]
  exact this
 | 0,_,.tup ds,.tup es,h,_=>by simp[cl]at h
 | _,0,.tup ds,.tup es,_,h=>by simp[cl]at h
 | _,_,.str x,.str y,_,_=>by simp[pyD,PyData.eqv]
 | _,_,.str x,.int i,_,_=>by simp[pyD,PyData.eqv]
 | _,_,.str x,.non,_,_=>by simp[pyD,PyData.eqv]
 | _,_,.str x,.tup ds,_,_=>by simp[pyD,PyData.eqv]
 | _,_,.int i,.str x,_,_=>by simp[pyD,PyData.eqv]
 | _,_,.non,.str x,_,_=>by simp[pyD,PyData.eqv]
 | _,_,.tup ds,.str x,_,_=>by simp[pyD,PyData.eqv]
 | k+1,j+1,.vl ds,.vl es,h,h'=>by
  have:=clL_eqv (k:=k) (j:=j) (xs:=ds) (ys:=es) (by simpa[cl]using h) (by simpa[cl]using h')
  simp only[pyD,PyData.eqv,D.vl.injEq]
  exact this
 | 0,_,.vl ds,.vl es,h,_=>by simp[cl]at h
 | _,0,.vl ds,.vl es,_,h=>by simp[cl]at h
 | _,_,.vl ds,.int i,_,_=>by simp[pyD,PyData.eqv]
 | _,_,.vl ds,.non,_,_=>by simp[pyD,PyData.eqv]
 | _,_,.vl ds,.str x,_,_=>by simp[pyD,PyData.eqv]
 | _,_,.vl ds,.tup es,_,_=>by simp[pyD,PyData.eqv]
 | _,_,.int i,.vl ds,_,_=>by simp[pyD,PyData.eqv]
 | _,_,.non,.vl ds,_,_=>by simp[pyD,PyData.eqv]
 | _,_,.str x,.vl ds,_,_=>by simp[pyD,PyData.eqv]
 | _,_,.tup es,.vl ds,_,_=>by simp[pyD,PyData.eqv]
 | _,_,.bl _,_,h,_=>by simp[cl]at h
 | _,_,.ref _,_,h,_=>by simp[cl]at h
 | _,_,.ty _,_,h,_=>by simp[cl]at h
 | _,_,_,.bl _,_,h=>by simp[cl]at h
 | _,_,_,.ref _,_,h=>by simp[cl]at h
 | _,_,_,.ty _,_,h=>by simp[cl]at h
theorem clL_eqv:∀{k j:Nat} {xs ys:List D},clL k xs=true→clL j ys=true→(PyData.eqvAll (pyDL xs) (pyDL ys)=true↔xs=ys)
 | _,_,[],[],_,_=>by simp[pyDL,PyData.eqvAll]
 | _,_,[],_ :: _,_,_=>by simp[pyDL,PyData.eqvAll]
 | _,_,_ :: _,[],_,_=>by simp[pyDL,PyData.eqvAll]
 | k,j,x :: xs,y :: ys,h,h'=>by
  have h1:cl k x=true∧clL k xs=true:=by simpa[clL]using h
  have h2:cl j y=true∧clL j ys=true:=by simpa[clL]using h'
  have e1:=yx h1.1 h2.1
  have e2:=clL_eqv h1.2 h2.2
  simp only[pyDL,PyData.eqvAll,NP,e1,e2,List.cons.injEq]
end
open Classical in
theorem xQ{neg:Bool}{x y:D}{M:Mem}{R:DK}(h:R (.bl (neg.xor (decide (x=y)))) M)(hx:cl 60 x=true:=by rfl)(hy:cl 60 y=true:=by rfl):gEq neg x y M R:=by
 obtain⟨a,b,c⟩:=yw (M:=M) hx
 obtain⟨a2,b2,c2⟩:=yw (M:=M) hy
 refine⟨_,_,a,a2,?_,?_,?_⟩
 ·simp only[SeqAt.shaped,b,NR];exact decide_eq_true (by omega)
 ·simp only[SeqAt.shaped,b2,NR];exact decide_eq_true (by omega)
 ·have e:PyData.eqv (pyD x) (pyD y)=decide (x=y):=by
   have:=yx hx hy
   by_cases q:x=y
   ·rw[decide_eq_true q];exact this.mpr q
   ·rw[decide_eq_false q]
    cases z:PyData.eqv (pyD x) (pyD y)with
    | false=>rfl
    | true=>exact absurd (this.mp z) q
  rw[e];exact h
noncomputable def tyD(M:Mem):D→Option String
 | .non=>some "NoneType"
 | .bl _=>some "bool"
 | .int _=>some "int"
 | .str _=>some "str"
 | .tup _=>some "tuple"
 | .ref p=>match M p with
  | some (.lst _)=>some "list"
  | _=>none
 | .vl _=>some "list"
 | .ty _=>none
 | .dic=>some "dict"
 | .exc _=>none
noncomputable def Ay(t T:String):Option Bool:=if t=T then some true else
 match t,T with
 | "bool","int" => some true
 | _,_=>if (t∈["NoneType","bool","int","str","tuple","list","dict"])∧(T∈["bool","int","str","tuple","list"])then some false else none
def yQ(K:Nd):Prop:=∀ t T b,Ay t T=some b→PySem.W.kitOne K (.type t) (.type T)=some b
theorem V3{x:Str}{n:String}(hg:Gl X x)(hm:X.mg x=none)(hv:bootBuiltins x=some (.type n))(hn:x ≠ "__name__" := by decide)(hd:(x == ("__debug__" : Str))=false:=by decide):JE X (.Name x pos) (dC (.ty n)):=⟨X4 (v:=.ty n) (Bm hg hm hv rfl hn hd) fun _=>.ty n⟩
def B8:DRC:=fun ds M R=>∃ d t T b,ds=[d,.ty T]∧tyD M d=some t∧Ay t T=some b∧R (.bl b) M
theorem V8(hk:yQ X.K):T0 X (.builtin "isinstance") B8:=by
 intro pins s σ H xs us Q I rv h
 obtain⟨ds,M,R,hl,am,⟨d,t,T,b,rfl,ht,hb,r⟩,f⟩:=h
 obtain⟨v,v',rfl,h1,h2⟩:=hl.two
 cases h2
 obtain⟨u,w',rfl,r1,r2⟩:=vF rv
 cases(show w'=Value.type T from r2)
 have e:=hk t T b hb
 have fin:∀ tk,EP X pins σ Q (.bool b) { s with toks:=tk }:=fun tk=>⟨.bl b,H,I.tok tk,rfl,f _ M r _ H (KT.refl H) am (.bl b)⟩
 cases h1 with
 | non=>cases ht;exact P3 I r1 .non e fin
 | bl q=>cases ht;exact P3 I r1 (.bl q) e fin
 | int q=>cases ht;exact P3 I r1 (.int q) e fin
 | str q=>cases ht;exact P3 I r1 (.str q) e fin
 | ty q=>cases ht
 | ref p =>
  unfold tyD at ht
  cases q:M p with
  | none=>simp[q]at ht
  | some o =>
   cases o with
   | lst es =>
    simp only[q]at ht
    cases ht
    obtain⟨ys,hy,_⟩:=am.lst q
    exact P3 I r1 (.lst hy) e fin
   | ins C fs=>simp[q]at ht
 | tup s' l =>
  cases ht
  cases(show u=Value.ref _ from r1)
  obtain⟨its,_,⟨o,h1,h2,_⟩,_⟩:=I.tuple s'
  exact PySem.W.kia_one PySem.W.kitx_tuple I.kIn ⟨o,h1,h2⟩ e (fun z=>nomatch z) fin
 | vl hq hl' =>
  cases ht
  cases(show u=Value.ref _ from r1)
  obtain⟨_,_,ea,sq,_⟩:=Has.il (.vl hq hl')
  cases ea
  obtain⟨its,_,⟨o,n,h1,h2,_⟩,_⟩:=I.list sq
  exact PySem.W.kia_one PySem.W.kitx_list I.kIn ⟨o,h1,h2⟩ e (fun z=>nomatch z) fin
 | dic hq =>
  cases ht
  cases(show u=Value.ref _ from r1)
  obtain⟨o,g1,g2⟩:=hq
  exact PySem.W.kia_one PySem.W.kitx_dict I.kIn ⟨o,(I.hok _ _ g1).1,g2⟩ e (fun z=>nomatch z) fin
 | exc hq=>cases ht
theorem BE:MtR X "int.bit_length" (fun x xs H Q=>∃ i,x = .int i∧xs=[]∧Q (.int (Builtin.Int.intBits i:Nat)) H):=by
 intro pins s σ H x xs v us Q I rx rv h
 obtain⟨i,rfl,rfl,q⟩:=h
 cases rv
 obtain⟨t,rfl⟩:=rx
 exact call_int_bit_length ⟨.int _,H,I.tok _,⟨_,rfl⟩,q⟩
end
section
variable {X:Cx} {a b c:Expr} {ta tb tc:DTE} {pos:Pos}
def Y0:DXK:=fun _ _=>False
theorem Ke{K:Nd}{H:Hp}{E:XK}:GH K H Y0 E:=fun _ _ h=>h.elim
structure Cv(K:Nd)(x:Str)(st:Stmt)(f:Addr)(fd:FuncData):Prop where
 ex:∃(oc:Value) (od:Option Addr) (dV kV doc pm:Value) (an:Option Addr) (cdv ct:Value) (osl:Array (Option Value)),
  fd=PySem.W.fnOf x x (S4 st) (K5 st) (e6 st) dV kV doc pm an cdv ct∧K.lookup f=some ⟨oc,od,.func fd,osl⟩∧PySem.W.codeIn K cdv x=true
 kp:PySem.W.keepIn K (.ref f)=true
structure Df(K:Nd)(mg:Str→Option Value)(x:Str)(st:Stmt)(ps:List Str):Prop where
 ex:∃(f:Addr) (fd:FuncData),Cv K x st f fd∧mg x=some (.ref f)∧fu K fd ps []
structure DfL(K:Nd)(mg:Str→Option Value)(x:Str)(st:Stmt)(ps:List Str):Prop where
 ex:∃(f:Addr) (fd:FuncData),Cv K x st f fd∧mg x=some (.ref f)∧∀ us:List Value,us.length=ps.length→bindArgs fd ⟨us,[]⟩=pure (ps.zip us)
structure Fn(P:Program)(w:World)(K:Nd)(mg:Str→Option Value)(base:Heap)(x:Str)(k:Nat)(ps:List Str)(sp:DSp):Prop where
 ex:∃(f:Addr) (fd:FuncData),T2 P w K mg base CX0 k f fd ps (mE K sp)∧mg x=some (.ref f)∧PySem.W.keepIn K (.ref f)=true∧fu K fd ps []
theorem xD{x:Str}{j:Nat}{ps:List Str}{sp:DSp}{p:Pos}{e:Expr}{es:List Expr}{t:DTA}(G:Fn X.prog X.w X.K X.mg X.base x j ps sp)(hr:J8 j X.A)(hg:Gl X x)(ha:JA X (e :: es) t)
  (hdb:(x == ("__debug__" : Str))=false:=by decide) (he:starEach (e :: es) X.env=(false,eval e X.env) :: starEach es X.env:=by rfl) (hpl:(backTo pos (starEach es X.env)).any (·.1)=false:=by rfl):JE X (.Call (.Name x p) (e :: es) [] pos) (oj sp [] Y0 t):=⟨have ha:=ha.out;by
 obtain⟨f,fd,F,hm,hk,hb⟩:=G.ex
 exact Gk F hr hg hm hk hb .nil (fun _=>.nil) HU (fun _=>Ke) ha hdb he hpl⟩
end
section
variable {P:Program} {w:World} {K:Nd} {mg:Str→Option Value} {base:Heap}
theorem DI{x:Str}{st:Stmt}{f:Addr}{fd:FuncData}{N ps:List Str}{k:Nat}{sp:DSp}(F:Cv K x st f fd)(S:f6 N ps (e6 st))(len:∀ ds M R Y,sp ds M R Y→ds.length=ps.length)
  (hbody:∀(cdv:Value) (A:Around) (outer:List Env) (s:Shared) (H:Hp) (E:XK) (ds:List D) (M:Mem) (R:DK) (Y:DXK),J8 k (A.deeper (envOfC x (e6 st) s.heap.objs.size f cdv))→sp ds M R Y →
   ∃ t,JSs (qg CX0 P w K mg base N x (e6 st) f cdv A outer s H E).nox (K5 st) t∧t { nx:=fun _ M'=>R .non M',rt:=R } (V6 N ds) M):T2 P w K mg base CX0 (k+1) f fd ps (mE K sp):=by
 obtain⟨oc,od,dV,kV,doc,pm,an,cdv,ct,osl,rfl,lk,hcd⟩:=F.ex
 refine IC lk hcd S (fun vs H Q E ⟨ds,M,R,Y,hl,_,hs,_,_⟩=>by rw[hl.length];exact len ds M R Y hs) fun A outer s H vs Q E hr zz=>?_
 obtain⟨ds,M,R,Y,hl,am,hs,fv,fx⟩:=zz
 obtain⟨t,h1,h2⟩:=hbody cdv A outer s H E ds M R Y hr hs
 refine⟨_,h1.out.nox,V6 N ds,M,_,A6.start0 hl,am,h2,⟨?_,fv,fun _ _ h=>h.elim,fun _ _ h=>h.elim⟩⟩
 exact fun e M' h σ' H' kt a o=>fv .non M' h .non H' kt a .non
theorem i4{x:Str}{st:Stmt}{N ps:List Str}{k:Nat}{sp:DSp}(d:Df K mg x st ps)(S:f6 N ps (e6 st))(len:∀ ds M R Y,sp ds M R Y→ds.length=ps.length)
  (hbody:∀(f:Addr) (cdv:Value) (A:Around) (outer:List Env) (s:Shared) (H:Hp) (E:XK) (ds:List D) (M:Mem) (R:DK) (Y:DXK),J8 k (A.deeper (envOfC x (e6 st) s.heap.objs.size f cdv))→sp ds M R Y →
   ∃ t,JSs (qg CX0 P w K mg base N x (e6 st) f cdv A outer s H E).nox (K5 st) t∧t { nx:=fun _ M'=>R .non M',rt:=R } (V6 N ds) M):Fn P w K mg base x (k+1) ps sp:=by
 obtain⟨f,fd,F,hm,hb⟩:=d.ex
 exact⟨f,fd,DI F S len (hbody f),hm,F.kp,hb⟩
theorem i7{x:Str}{st:Stmt}{ps:List Str}{h:Heap}{f:Addr}{oc:Value}{od an:Option Addr}{osl:Array (Option Value)}{dV kV doc pm cdv ct:Value}(X:K.In h)(G:h.Ns mainGlobals mg)
  (n:PySem.W.nsIn K mainGlobals x=some (some (.ref f)))
  (l:K.lookup f=some ⟨oc,od,.func (PySem.W.fnOf x x (S4 st) (K5 st) (e6 st) dV kV doc pm an cdv ct),osl⟩)
  (c:PySem.W.codeIn K cdv x=true) (k:PySem.W.keepIn K (.ref f)=true)
  (hb:∀ us:List Value,us.length=ps.length→bindArgs (PySem.W.fnOf x x (S4 st) (K5 st) (e6 st) dV kV doc pm an cdv ct) ⟨us,[]⟩=pure (ps.zip us)):Df K mg x st ps :=
 ⟨f,_,⟨⟨oc,od,dV,kV,doc,pm,an,cdv,ct,osl,rfl,l,c⟩,k⟩,PySem.W.mg_of X G n,.all hb⟩
theorem Gg{x:Str}{st:Stmt}{ps:List Str}{h:Heap}{f:Addr}{oc:Value}{od an:Option Addr}{osl:Array (Option Value)}{dV kV doc pm cdv ct:Value}(X:K.In h)(G:h.Ns mainGlobals mg)
  (n:PySem.W.nsIn K mainGlobals x=some (some (.ref f)))
  (l:K.lookup f=some ⟨oc,od,.func (PySem.W.fnOf x x (S4 st) (K5 st) (e6 st) dV kV doc pm an cdv ct),osl⟩)
  (c:PySem.W.codeIn K cdv x=true) (k:PySem.W.keepIn K (.ref f)=true)
  (hb:∀ us:List Value,us.length=ps.length→bindArgs (PySem.W.fnOf x x (S4 st) (K5 st) (e6 st) dV kV doc pm an cdv ct) ⟨us,[]⟩=pure (ps.zip us)):DfL K mg x st ps :=
 ⟨f,_,⟨⟨oc,od,dV,kV,doc,pm,an,cdv,ct,osl,rfl,l,c⟩,k⟩,PySem.W.mg_of X G n,hb⟩
theorem Gh{x:Str}{st:Stmt}{ps:List Str}{h:Heap}{f:Addr}{oc:Value}{od an:Option Addr}{osl:Array (Option Value)}{dV kV doc pm cdv ct:Value}(X:K.In h)(G:h.Ns mainGlobals mg)
  (n:PySem.W.nsIn K mainGlobals x=some (some (.ref f)))
  (l:K.lookup f=some ⟨oc,od,.func (PySem.W.fnOf x x (S4 st) (K5 st) (e6 st) dV kV doc pm an cdv ct),osl⟩)
  (c:PySem.W.codeIn K cdv x=true) (k:PySem.W.keepIn K (.ref f)=true)
  (hb:∀ us:List Value,us.length=ps.length→∀ S,PySem.W.peek K S (bindArgs (PySem.W.fnOf x x (S4 st) (K5 st) (e6 st) dV kV doc pm an cdv ct) ⟨us,[]⟩)=some (ps.zip us)):Df K mg x st ps :=
 ⟨f,_,⟨⟨oc,od,dV,kV,doc,pm,an,cdv,ct,osl,rfl,l,c⟩,k⟩,PySem.W.mg_of X G n,fun s us X' hl=>by rw[Pk]at hl ⊢;exact PySem.W.kp_binds X' (hb us hl)⟩
end
section
variable {X:Cx} {x:Str} {p pos:Pos} {e:Expr} {es:List Expr} {t:DTA} {id T:String} {o:Expr} {to:DTE} {a b c:Expr} {ta tb tc:DTE}
theorem j3{g:DRC}(hc:T0 X (.builtin id) g)(hg:Gl X x)(hm:X.mg x=none)(hv:bootBuiltins x=some (.builtin id))(ha:JA X (e :: es) t)
  (hn:x ≠ "__name__" := by decide) (hdb:(x == ("__debug__" : Str))=false:=by decide) (he:starEach (e :: es) X.env=(false,eval e X.env) :: starEach es X.env:=by rfl) (hpl:(backTo pos (starEach es X.env)).any (·.1)=false:=by rfl):JE X (.Call (.Name x p) (e :: es) [] pos) (dCB g t):=⟨have ha:=ha.out;(wY hc hg hm hv ha hn hdb he hpl).imp fun _ _ _ h=>DZ h⟩
theorem kK{g:DRC}(hc:T0 X (.type T) g)(hg:Gl X x)(hm:X.mg x=none)(hv:bootBuiltins x=some (.type T))(ha:JA X (e :: es) t)
  (hn:x ≠ "__name__" := by decide) (hdb:(x == ("__debug__" : Str))=false:=by decide) (he:starEach (e :: es) X.env=(false,eval e X.env) :: starEach es X.env:=by rfl) (hpl:(backTo pos (starEach es X.env)).any (·.1)=false:=by rfl):JE X (.Call (.Name x p) (e :: es) [] pos) (dCB g t):=⟨have ha:=ha.out;(ip hc hg hm hv ha hn hdb he hpl).imp fun _ _ _ h=>DZ h⟩
noncomputable def IA:D→Mem→DK→Prop:=fun x M R=>∃ i,x = .int i∧R (.int (Builtin.Int.intBits i:Nat)) M
theorem BU{apos cpos:Pos}(ho:JE X o to)(hbase:attributeBase o "bit_length" X.env (eval o X.env)=eval o X.env:=by rfl)(hline:(apos.endLine == cpos.line)=true:=by rfl):JE X (.Call (.Attribute o "bit_length" apos) [] [] cpos) (dUn IA to):=⟨have ho:=ho.out;(FC PySem.F.plainAttrs_int PySem.F.slot_int_bit_length PySem.F.type_int_bit_length BE ho hbase hline).imp (by rintro σ H Q ⟨e,M,R,ok,am,t,f⟩;exact⟨e,M,_,ok,am,t,fun x M1 ⟨i,z,r⟩ v H1 k1 a1 r1=>by
  subst z;cases r1;exact⟨rfl,i,rfl,rfl,f _ M1 r _ H1 k1 a1 (.int _)⟩⟩)⟩
theorem Bq:OpR X (binaryOp .Add) (fun x y H Q=>∃ l b xs zs,x = .ref l∧y = .ref b∧SqL X.K H l xs∧SqL X.K H b zs∧xs.length+zs.length≤sizeLine∧∀ p,H p=none→Q (.ref p) (upd H p (.lst (xs++zs)))):=by
 intro pins s σ H x y v u Q I rx ry h
 obtain⟨l,b,xs,zs,rfl,rfl,hH,hB,hz,q⟩:=h
 cases rx
 cases ry
 obtain⟨its,r,pl,z1⟩:=I.list hH
 obtain⟨its2,r2,pl2,z2⟩:=I.list hB
 have hl:=r.length
 have hl2:=r2.length
 obtain⟨⟨cls,dd,data,sl⟩,ho,hc,n,hd⟩:=pl.isList
 obtain⟨⟨cls2,dd2,data2,sl2⟩,ho2,hc2,n2,hd2⟩:=pl2.isList
 simp only at hc hd hc2 hd2
 subst hc hd hc2 hd2
 have ea:its.toArray++its2.toArray=(its++its2).toArray:=by simp
 refine concat_meets ⟨_,ho,rfl⟩ ⟨_,ho2,rfl⟩ noFill_list_add seq_list_add PySem.F.slot_list_add PySem.F.entry_list_add (PySem.F.args_list_add_2 _ _) (list_addW l b its.toArray its2.toArray n n2 dd dd2 sl sl2 (by simp only[NA];omega)) ⟨ho,ho2,?_⟩
 rw[ea]
 exact⟨.ref _,_,I.lnew (t':=s.toks) (r.append r2) (by rw[NX];omega),rfl,q _ I.fresh⟩
noncomputable def D8(M:Mem):D→Option (List D)
 | .ref p=>match M p with
  | some (.lst ds)=>some ds
  | _=>none
 | .vl ds=>some ds
 | _=>none
theorem u9{K:Nd}{H:Hp}{M:Mem}{v:V}{d:D}{ds:List D}(am:o9 K H M)(h:Has K H v d)(e:D8 M d=some ds):∃ a xs,v = .ref a∧SqL K H a xs∧HasL K H xs ds:=by
 cases h with
 | ref p =>
  unfold D8 at e
  cases q:M p with
  | none=>simp[q]at e
  | some o =>
   cases o with
   | lst es =>
    simp only[q]at e
    cases e
    obtain⟨xs,hx,l⟩:=am.lst q
    exact⟨p,xs,rfl,SqL.of hx,l⟩
   | ins C fs=>simp[q]at e
 | vl hq hl =>
  cases e
  exact Has.il (.vl hq hl)
 | _=>cases e
end
theorem sl(n:Nat)(h:n≤1000:=by decide):n≤sizeLine:=Nr h (by decide)
section
variable {X:Cx}
open Classical in
def Gd(neg:Bool):DR2:=fun x y M R=>cl 60 x=true∧cl 60 y=true∧R (.bl (neg.xor (decide (x=y)))) M
theorem eU(hu:X.A.units+64<cLine):DOp X (compareOp .Eq) (Gd false):=OpR.imp (JP hu) (by rintro _ _ _ _ ⟨dx,dy,M,R,hx,hy,am,⟨h1,h2,h3⟩,f⟩;exact⟨dx,dy,M,R,hx,hy,am,xQ h3 h1 h2,f⟩)
theorem rV(hu:X.A.units+64<cLine):DOp X (compareOp .NotEq) (Gd true):=OpR.imp (JM hu) (by rintro _ _ _ _ ⟨dx,dy,M,R,hx,hy,am,⟨h1,h2,h3⟩,f⟩;exact⟨dx,dy,M,R,hx,hy,am,xQ h3 h1 h2,f⟩)
theorem G4:DOp X (compareOp .Eq) (gF (fI fun i j=>.bl (decide (i=j)))):=OpR.imp DC (by
 rintro x y H Q ⟨dx,dy,M,R,hx,hy,am,⟨z,e,r⟩,f⟩
 obtain⟨i,j,e1,e2,e3⟩:=kN e
 subst e1;subst e2;subst e3
 cases hx;cases hy
 refine⟨rfl,?_⟩
 have e:decide (V.int i=V.int j)=decide (i=j):=by simp
 rw[e]
 exact f _ M r _ H (KT.refl H) am (.bl _))
theorem rT:DOp X (compareOp .NotEq) (gF (fI fun i j=>.bl (!decide (i=j)))):=OpR.imp HV (by
 rintro x y H Q ⟨dx,dy,M,R,hx,hy,am,⟨z,e,r⟩,f⟩
 obtain⟨i,j,e1,e2,e3⟩:=kN e
 subst e1;subst e2;subst e3
 cases hx;cases hy
 refine⟨rfl,?_⟩
 have e:decide (V.int i=V.int j)=decide (i=j):=by simp
 rw[e]
 exact f _ M r _ H (KT.refl H) am (.bl _))
end
theorem xF{c:Prop}[Decidable c]{A B:Prop}(h1:c→A)(h2:¬ c→B):if decide c=true then A else B:=by
 by_cases h:c
 ·rw[if_pos (decide_eq_true h)];exact h1 h
 ·rw[if_neg (by rw[decide_eq_false h];exact Nt)];exact h2 h
theorem Ik{c:Prop}[Decidable c]{A B:Prop}(h1:¬ c→A)(h2:c→B):if (!decide c)=true then A else B:=by
 by_cases h:c
 ·rw[decide_eq_true h];rw[if_neg (by decide)];exact h2 h
 ·rw[decide_eq_false h];rw[if_pos (by decide)];exact h1 h
theorem L6{n k:Nat}(h:n<2 ^ k)(hk:0<k):n.log2<k:=by
 rcases Ra n with h0|h0
 ·subst h0;rw[Nat.log2_zero];exact hk
 ·exact(QS (QT.mp h0)).mpr h
theorem j5{a b:Int}(m n:Nat)(ha:a.natAbs<2 ^ m)(hb:b.natAbs<2 ^ n)(h:m+n≤100000):IntMulOk a b:=by
 have hx:∀(x:Int) (k:Nat),x.natAbs<2 ^ k→Builtin.Int.intBits x≤k:=fun x k hx=>by
  unfold Builtin.Int.intBits
  split
  ·exact Oa _
  ·rename_i h0
   have:x.natAbs≠0:=by
    intro z;apply h0
    first|exact(by simpa using Int.natAbs_eq_zero.mp z)|(simp;omega)
   have:=(QS this).mpr hx
   omega
 exact PySem.IntMulOk.of_le (hx a m ha) (hx b n hb) (by omega)
noncomputable def JV(t T:String):Option Bool:=if PySem.W.kitMeta T=true then(fastBuiltinMro t).map (·.contains (.type T))else none
theorem HF(K:Nd):yQ K:=by
 intro t T b h
 unfold Ay at h
 by_cases e:t=T
 ·subst e
  rw[if_pos rfl]at h
  cases h
  unfold PySem.W.kitOne
  rw[if_pos (beq_self_eq_true _)]
 ·rw[if_neg e]at h
  have hne:¬ (Value.type t == Value.type T)=true:=fun z=>e (by have:=eq_of_beq z;injection this)
  unfold PySem.W.kitOne
  rw[if_neg hne]
  show JV t T=some b
  split at h
  ·cases h;decide +kernel
  ·split at h
   ·rename_i hh
    obtain⟨ht,hT⟩:=hh
    simp only[Nh,Nv,or_false]at ht hT
    cases h
    rcases ht with rfl|rfl|rfl|rfl|rfl|rfl|rfl<;>rcases hT with rfl|rfl|rfl|rfl|rfl<;>first|exact absurd rfl e|decide +kernel|(exfalso;simp_all)
   ·cases h
theorem qb{K:Nd}{H:Hp}{a:Addr}{ns:List Int}(hO:uj H)(hS:SqL K H a (ns.map V.int)):Has K H (.ref a) (.vl (ns.map D.int)):=by
 rcases hS with(h|⟨o,h⟩)|h
 ·rcases hO a with z|⟨o,xs,z⟩
  ·rw[z]at h;cases h
  ·rw[z]at h;cases h
 ·exact .vl (.inl ⟨o,h⟩) (HasL.ints ns)
 ·exact .vl (.inr fun _=>.inr h) (HasL.ints ns)
theorem FT{K:Nd}{H:Hp}{a:Addr}{ns:List Int}{sp:DSp}(hO:uj H)(hS:SqL K H a (ns.map V.int))(h:sp [.vl (ns.map D.int)] (fun _=>none) (fun d _=>d = .bl true) Y0) :
  mE K sp [.ref a] H (fun v _=>v = .bl true) (fun _ _ _=>False) :=
 ⟨[.vl (ns.map D.int)],fun _=>none,fun d _=>d = .bl true,Y0,.cons (qb hO hS) .nil,fun _ _ z=>(by cases z),h,fun d M' e v H' _ _ hv=>by subst e;cases hv;rfl,fun _ _ z=>z.elim⟩
section
variable {X:Cx} {o e:Expr} {es:List Expr} {to:DTE} {t:DTA} {name:Str} {apos cpos:Pos} {id:String}
noncomputable abbrev DRM:=D→List D→Mem→DK→Prop
noncomputable def upM(K:Nd)(g:DRM):V→List V→Hp→VK→Prop:=fun x xs H Q=>∃ dx ds M R,Has K H x dx∧HasL K H xs ds∧o9 K H M∧g dx ds M R∧ft K H R Q
def DMt(X:Cx)(id:String)(g:DRM):Prop:=MtR X id (upM X.K g)
theorem MtR.imp{r r':V→List V→Hp→VK→Prop}(h:MtR X id r)(i:∀ x xs H Q,r' x xs H Q→r x xs H Q):MtR X id r':=fun pins s σ H x xs v us Q I rx rv q=>h pins s σ H x xs v us Q I rx rv (i x xs H Q q)
def dLM(g:DRM)(to:DTE)(t:DTA):DTE:=fun e M R=>to e M fun x M1=>(∃ l ds,x = .ref l∧M1 l=some (.lst ds))∧t e M1 fun xs M2=>g x xs M2 R
theorem nW{g:DRM}(slot:Slot "list" name id)(hty:typeOf (.builtin id)=pure (.type "method_descriptor"))(hm:DMt X id g)(ho:JE X o to)(ha:JA X (e :: es) t)
  (hbase:attributeBase o name X.env (eval o X.env)=eval o X.env:=by rfl)
  (hfew:((backTo cpos (starEach (e :: es) X.env)).all (fun x=>!x.1) && (backToKw cpos (keywordEach [] X.env)).all (fun x=>x.1.isSome)
   && decide ((e :: es).length+([]:List Keyword).length+(if ([]:List Keyword).isEmpty then 0 else 1)<30))=true:=by rfl)
  (hline:(apos.endLine == cpos.line)=true:=by rfl) (hs:starEach (e :: es) X.env=(false,eval e X.env) :: starEach es X.env:=by rfl) (hplain:(backTo cpos (starEach es X.env)).any (·.1)=false:=by rfl):JE X (.Call (.Attribute o name apos) (e :: es) [] cpos) (dLM g to t):=⟨have ho:=ho.out;have ha:=ha.out;(HR PySem.F.plainAttrs_list slot hty hm ho ha hbase hfew hline hs hplain).imp (by rintro σ H Q ⟨e,M,R,ok,am,t,f⟩;exact⟨e,M,_,ok,am,t,fun x M1 ⟨⟨l,ds,z,hM⟩,h1⟩ v H1 k1 a1 r1=>by
  subst z
  have r1':=r1
  cases r1
  obtain⟨xs,hx,_⟩:=a1.lst hM
  refine⟨.inl ⟨rfl,xs,SqL.of hx⟩,e,M1,_,ok.mono k1,a1,h1,fun zs M2 h2 vs H2 k2 a2 r2=>?_⟩
  exact⟨_,zs,M2,R,r1'.mono k2,r2,a2,h2,f.mono (k1.trans k2)⟩⟩)⟩
theorem Z1:∀{bs:List Bool} {us:List Value},j6 (bs.map V.bl) us→us=bs.map Value.bool
 | [],_,r=>by cases r;rfl
 | b :: bs,_,r=>by
  cases r with
  | cons r rr =>
   cases(show _=Value.bool b from r)
   rw[Z1 rr];rfl
theorem HasL.bools{K:Nd}{H:Hp}:∀{bs:List Bool} {vs:List V},HasL K H vs (bs.map D.bl)→vs=bs.map V.bl
 | [],_,r=>by cases r;rfl
 | b :: bs,_,r=>by
  cases r with
  | cons r rr=>cases r;rw[HasL.bools rr];rfl
noncomputable def fB(f:Bool→Bool→D):D→D→Option D
 | .bl i,.bl j=>some (f i j)
 | _,_=>none
end
section
variable {X:Cx}
def DG:DRC:=fun ds M R=>∃ x ys,ds=[x]∧D8 M x=some ys∧R (.tup ys) M
theorem Gr:T0 X (.type "tuple") DG:=v9.imp Y7 (by
 rintro xs H Q ⟨ds,M,R,hl,am,⟨x,ys,z,e,r⟩,f⟩
 subst z
 obtain⟨v,rfl,hv⟩:=hl.one
 obtain⟨a,vs,rfl,s,l⟩:=u9 am hv e
 exact⟨a,vs,rfl,.inl ⟨s,fun p hp=>f _ M r _ _ (KT.alloc hp) (am.alloc hp) (.tup (SqT.of i6) (l.mono (KT.alloc hp)))⟩⟩)
end
section
variable {X:Cx} {st:Stmt} {D9:List Stmt} {t u:DTS}
def DQ(t u:DTS):DTS:=fun F e M=>∃ P:Ev→Mem→Prop,t { F with nx:=P } e M∧∀ e' M',P e' M'→u F e' M'
theorem P0(h1:JS X st t)(h2:JSs X D9 u):JSs X (st :: D9) (DQ t u):=⟨have h1:=h1.out;have h2:=h2.out;(ny h1 h2).imp (by rintro E σ H ⟨e,M,F,ok,am,⟨P,t,hP⟩,f⟩;exact⟨e,M,{ F with nx:=P },ok,am,t,⟨fun e' M' h σ' H' k a o=>⟨e',M',F,o,a,hP e' M' h,f.mono k⟩,f.rt,f.bk,f.ct⟩⟩)⟩
end
section
variable {X:Cx}
theorem tM(bs:List Bool):(OC bs.length).all (fun i=>bs.getD i true)=bs.all id:=by
 have:(OC bs.length).map (fun i=>bs.getD i true)=bs:=by
  apply Rw (by simp)
  intro i h1 h2
  simp[Nz,h2]
 conv=>rhs;rw[← this]
 rw[Ro];rfl
theorem tL(bs:List Bool):(OC bs.length).any (fun i=>bs.getD i true)=bs.any id:=by
 have:(OC bs.length).map (fun i=>bs.getD i true)=bs:=by
  apply Rw (by simp)
  intro i h1 h2
  simp[Nz,h2]
 conv=>rhs;rw[← this]
 rw[Rp];rfl
theorem cg{prog:Program}{w:World}{A:Around}(bs:List Bool):TruthOf prog w A (fun i v=>(bs.map Value.bool).toArray[i]? = some v) (fun i=>bs.getD i true):=by
 intro i v s Q E h q
 have h':(bs.map Value.bool)[i]? = some v:=by simpa using h
 rw[ND]at h'
 cases e:bs[i]? with
 | none=>rw[e]at h';cases h'
 | some b =>
  rw[e]at h'
  cases h'
  have q':Q b s:=by simpa[Nz,e]using q
  exact wpAny_truthy_bool q'
theorem ui(hc:X.calm=true):v9 X (.builtin "all") (fun xs H Q=>∃(l:Addr) (bs:List Bool),xs=[.ref l]∧SqL X.K H l (bs.map V.bl)∧Q (.bl (bs.all id)) H):=by
 intro pins s σ H xs us Q I r h
 obtain⟨l,bs,rfl,hS,q⟩:=h
 obtain⟨u,rfl,ru⟩:=hG r
 cases ru
 obtain⟨its,rv,p,_⟩:=I.list hS
 have hb:=Z1 rv
 subst hb
 have hl:s.heap.IsList l (bs.map Value.bool).toArray:=p.isList
 have hne:l≠s.heap.objs.size:=by
  obtain⟨o,e,_⟩:=id hl
  exact NC (Nn e)
 refine call_all_walk (wpAny_pyIter_list hl ?_)
 refine⟨s.heap.objs.size,_,_,_,_,_,fun i=>bs.getD i true,rfl,Walks.list (A:=X.A.in1) (I.ok.hd hc) s.heap.objs.size l hne (bs.map Value.bool).toArray,⟨⟨_,Ni _ rfl,rfl,rfl⟩,hl.at fun o e=>Nc _ e⟩,cg bs,fun h' tk kk=>?_⟩
 have e:(OC (bs.map Value.bool).toArray.size).all (fun i=>bs.getD i true)=bs.all id:=by
  rw[show(bs.map Value.bool).toArray.size=bs.length by simp];exact tM bs
 rw[e]
 exact⟨.bl (bs.all id),H,I.kept fun b o z=>kk b o (by simp;exact NC (Nn z)) (Nc _ z),rfl,q⟩
theorem uh(hc:X.calm=true):v9 X (.builtin "any") (fun xs H Q=>∃(l:Addr) (bs:List Bool),xs=[.ref l]∧SqL X.K H l (bs.map V.bl)∧Q (.bl (bs.any id)) H):=by
 intro pins s σ H xs us Q I r h
 obtain⟨l,bs,rfl,hS,q⟩:=h
 obtain⟨u,rfl,ru⟩:=hG r
 cases ru
 obtain⟨its,rv,p,_⟩:=I.list hS
 have hb:=Z1 rv
 subst hb
 have hl:s.heap.IsList l (bs.map Value.bool).toArray:=p.isList
 have hne:l≠s.heap.objs.size:=by
  obtain⟨o,e,_⟩:=id hl
  exact NC (Nn e)
 refine call_any_walk (wpAny_pyIter_list hl ?_)
 refine⟨s.heap.objs.size,_,_,_,_,_,fun i=>bs.getD i true,rfl,Walks.list (A:=X.A.in1) (I.ok.hd hc) s.heap.objs.size l hne (bs.map Value.bool).toArray,⟨⟨_,Ni _ rfl,rfl,rfl⟩,hl.at fun o e=>Nc _ e⟩,cg bs,fun h' tk kk=>?_⟩
 have e:(OC (bs.map Value.bool).toArray.size).any (fun i=>bs.getD i true)=bs.any id:=by
  rw[show(bs.map Value.bool).toArray.size=bs.length by simp];exact tL bs
 rw[e]
 exact⟨.bl (bs.any id),H,I.kept fun b o z=>kk b o (by simp;exact NC (Nn z)) (Nc _ z),rfl,q⟩
def xS:DRC:=fun ds M R=>∃(d:D) (bs:List Bool),ds=[d]∧D8 M d=some (bs.map D.bl)∧R (.bl (bs.all id)) M
def Ge:DRC:=fun ds M R=>∃(d:D) (bs:List Bool),ds=[d]∧D8 M d=some (bs.map D.bl)∧R (.bl (bs.any id)) M
theorem sS(hc:X.calm=true):T0 X (.builtin "all") xS:=v9.imp (ui hc) (by
 rintro xs H Q ⟨ds,M,R,hl,am,⟨d,bs,z,hM,r⟩,f⟩
 subst z
 obtain⟨v,rfl,hv⟩:=hl.one
 obtain⟨a,vs,rfl,s,l⟩:=u9 am hv hM
 rw[l.bools]at s
 exact⟨a,bs,rfl,s,f _ M r _ H (KT.refl H) am (.bl _)⟩)
theorem Jc(hc:X.calm=true):T0 X (.builtin "any") Ge:=v9.imp (uh hc) (by
 rintro xs H Q ⟨ds,M,R,hl,am,⟨d,bs,z,hM,r⟩,f⟩
 subst z
 obtain⟨v,rfl,hv⟩:=hl.one
 obtain⟨a,vs,rfl,s,l⟩:=u9 am hv hM
 rw[l.bools]at s
 exact⟨a,bs,rfl,s,f _ M r _ H (KT.refl H) am (.bl _)⟩)
end
theorem ll:bootBuiltins "all" = some (.builtin "all"):=by decide +kernel
theorem Gu:bootBuiltins "any" = some (.builtin "any"):=by decide +kernel
structure GlD(K:Nd)(mg:Str→Option Value)(x:Str)(d:D):Prop where
 ex:∃(v:V) (u:Value),mg x=some u∧q9 v u∧Jk K v d
theorem B1{X:Cx}{x:Str}{d:D}{pos:Pos}(hg:Gl X x)(g:GlD X.K X.mg x d)(hd:(x == ("__debug__" : Str))=false:=by decide):JE X (.Name x pos) (dC d):=⟨by
 obtain⟨v,u,h1,h2,h3⟩:=g.ex
 exact Gj hg h1 h2 h3 hd⟩
theorem sC{K:Nd}{mg:Str→Option Value}{h:Heap}{x:Str}{a:Addr}{od:Option Addr}{osl:Array (Option Value)}{i j:Int}{t u:Tok}{cap:Nat}(X:K.In h)(G:h.Ns mainGlobals mg)
  (n:PySem.W.nsIn K mainGlobals x=some (some (.ref a))) (l:K.lookup a=some ⟨.type "tuple",od,.seq #[.int i t,.int j u] cap,osl⟩):GlD K mg x (.tup [.int i,.int j]) :=
 ⟨.ref a,.ref a,PySem.W.mg_of X G n,rfl,fun H=>.tup (xs:=[.int i,.int j]) (.inr ⟨_,_,_,l,rfl,rfl,(show 2≤sizeLine by decide),.cons (show q9 (.int i) (.int i t)from⟨t,rfl⟩) (.cons (show q9 (.int j) (.int j u)from⟨u,rfl⟩) .nil)⟩) (.cons (.int i) (.cons (.int j) .nil))⟩
noncomputable def fS(f:Str→Str→D):D→D→Option D
 | .str i,.str j=>some (f i j)
 | _,_=>none
theorem Cc{f:Str→Str→D}{x y z:D}(h:fS f x y=some z):∃ i j,x = .str i∧y = .str j∧z=f i j:=by
 cases x with
 | str i =>
  cases y with
  | str j=>exact⟨i,j,rfl,rfl,(Option.some.inj h).symm⟩
  | _=>cases h
 | _=>cases h
section
variable {X:Cx}
theorem Y4:DOp X (compareOp .Eq) (gF (fS fun i j=>.bl (decide (i=j)))):=OpR.imp DC (by
 rintro x y H Q ⟨dx,dy,M,R,hx,hy,am,⟨z,e,r⟩,f⟩
 obtain⟨i,j,e1,e2,e3⟩:=Cc e
 subst e1;subst e2;subst e3
 cases hx;cases hy
 refine⟨rfl,?_⟩
 have e:decide (V.str i=V.str j)=decide (i=j):=by simp
 rw[e]
 exact f _ M r _ H (KT.refl H) am (.bl _))
end
structure lu(K:Nd)(H1:Hp)(J:It)(ds:List D)(stay:Mem→Prop):Prop where
 go:∀ i H' M',i<ds.length→KT H1 H'→o9 K H' M'→stay M'→J.go i H'
 yld:∀ i H' M' x H'',i<ds.length→KT H1 H'→o9 K H' M'→stay M'→J.yld i H' x H''→∃ d,ds[i]? = some d∧KT H' H''∧o9 K H'' M'∧Has K H'' x d
 stop:∀ i H' M',ds.length≤i→KT H1 H'→o9 K H' M'→stay M'→J.stop i H'
 up:∀ M' p o,stay M'→M' p=none→stay (C1 M' p o)
def upI(K:Nd)(ti:DTI):TI:=fun σ H R=>∃ e M R',A6 K H σ e∧o9 K H M∧ti e M R'∧∀ ds stay M1,R' ds stay M1→∀ H1,KT H H1→o9 K H1 M1→∀ J,lu K H1 J ds stay→R J H1
def DPI(X:Cx)(tg iter:Expr)(ti:DTI):Prop:=PI X tg iter (upI X.K ti)
structure JI(X:Cx)(tg iter:Expr)(ti:DTI):Prop where
 out:DPI X tg iter ti
theorem PI.imp{X:Cx}{tg iter:Expr}{wi wi':TI}(h:PI X tg iter wi)(i:∀ σ H R,wi' σ H R→wi σ H R):PI X tg iter wi':=fun pins s σ H R I q=>h pins s σ H R I (i σ H R q)
section
variable {X:Cx} {tg iter:Expr} {ti:DTE} {ta:DTA}
theorem vB{K:Nd}{H1:Hp}{a:Addr}{xs:List V}{ds:List D}(s:SqT K H1 a xs)(l:HasL K H1 xs ds):lu K H1 (Itt K a) ds (fun _=>True) where
 go:=fun i H' M' hi k _ _=>⟨xs,_,k.sq s,NB (by rw[l.length];exact hi)⟩
 yld:=fun i H' M' x H'' hi k am _ zz=>by
  obtain⟨e,y⟩:=zz
  subst e
  obtain⟨d,hd,r⟩:=l.getV (y xs (k.sq s))
  exact⟨d,hd,KT.refl _,am,r.mono k⟩
 stop:=fun i H' M' hi k _ _=>⟨xs,k.sq s,by rw[l.length];exact hi⟩
 up:=fun _ _ _ _ _=>trivial
theorem vD{K:Nd}{H1:Hp}{p:Addr}{ds:List D}:lu K H1 (Itl K p) ds (fun M'=>M' p=some (.lst ds)) where
 go:=fun i H' M' hi k am st=>by
  obtain⟨ys,hy,ly⟩:=am.lst st
  exact⟨ys,_,SqL.of hy,NB (by rw[ly.length];exact hi)⟩
 yld:=fun i H' M' x H'' hi k am st zz=>by
  obtain⟨e,y⟩:=zz
  subst e
  obtain⟨ys,hy,ly⟩:=am.lst st
  obtain⟨d,hd,r⟩:=ly.getV (y ys (SqL.of hy))
  exact⟨d,hd,KT.refl _,am,r⟩
 stop:=fun i H' M' hi k am st=>by
  obtain⟨ys,hy,ly⟩:=am.lst st
  exact⟨ys,SqL.of hy,by rw[ly.length];exact hi⟩
 up:=fun M' q o st hq=>by rw[F0 (by intro e;subst e;rw[hq]at st;cases st)];exact st
theorem mC{K:Nd}{H1:Hp}{lo:Int}{n:Nat}:lu K H1 (Itr lo n) (G7 lo n) (fun _=>True) where
 go:=fun i H' M' hi k am st=>by rw[E1]at hi;exact hi
 yld:=fun i H' M' x H'' hi k am st zz=>by
  obtain⟨e,y⟩:=zz
  subst e;subst y
  rw[E1]at hi
  exact⟨_,eN hi,KT.refl _,am,.int _⟩
 stop:=fun i H' M' hi k am st=>by rw[E1]at hi;exact hi
 up:=fun _ _ _ _ _=>trivial
theorem ba{a:Expr}{p p2:Pos}(hr:Gl X "range")(hm:X.mg "range" = none)(ha:JA X [a] ta)(hs0:starEach [a] X.env=[(false,eval a X.env)]:=by rfl):JI X tg (.Call (.Name "range" p) [a] [] p2) (DN ta):=⟨have ha:=ha.out;PI.imp (tP hr hm ha hs0) (by rintro σ H R ⟨e,M,R',ok,am,t,f⟩;exact⟨e,M,_,ok,am,t,fun ds M1 ⟨j,z,b1,b2,r⟩ vs H1 k1 a1 r1=>by
  subst z
  obtain⟨v,rfl,hv⟩:=r1.one
  cases hv
  exact⟨j,rfl,b1,b2,f _ _ M1 r H1 k1 a1 _ mC⟩⟩)⟩
theorem xx{a b:Expr}{p p2:Pos}(hr:Gl X "range")(hm:X.mg "range" = none)(ha:JA X [a,b] ta)(hs0:starEach [a,b] X.env=[(false,eval a X.env),(false,eval b X.env)]:=by rfl)(hs1:starEach [b] X.env=[(false,eval b X.env)]:=by rfl):JI X tg (.Call (.Name "range" p) [a,b] [] p2) (yf ta):=⟨have ha:=ha.out;PI.imp (tO hr hm ha hs0 hs1) (by rintro σ H R ⟨e,M,R',ok,am,t,f⟩;exact⟨e,M,_,ok,am,t,fun ds M1 ⟨i,j,z,b1,r⟩ vs H1 k1 a1 r1=>by
  subst z
  cases r1 with
  | cons h1 r1 =>
   obtain⟨v,rfl,hv⟩:=r1.one
   cases h1
   cases hv
   exact⟨i,j,rfl,b1,f _ _ M1 r H1 k1 a1 _ mC⟩⟩)⟩
def m9(M:Mem)(x:D)(ds:List D):Prop:=x = .tup ds∨(∃ p,x = .ref p∧M p=some (.lst ds))∨x = .vl ds
noncomputable def aZ:D→Bool
 | .tup _=>false
 | _=>true
theorem j7{K:Nd}{H:Hp}{M:Mem}{v:V}{x:D}{ds:List D}(h:m9 M x ds)(am:o9 K H M)(r:Has K H v x):∃ a xs,v = .ref a∧SqK K (aZ x) H a xs∧HasL K H xs ds:=by
 rcases h with rfl|⟨p,rfl,m⟩|rfl
 rotate_left 2
 ·obtain⟨a,xs,e,sq,l⟩:=r.il
  exact⟨a,xs,e,sq,l⟩
 ·cases r with
  | tup s l=>exact⟨_,_,rfl,s,l⟩
 ·cases r
  obtain⟨xs,hx,l⟩:=am.lst m
  exact⟨p,xs,rfl,SqL.of hx,l⟩
theorem K2{M:Mem}{x:D}{ds:List D}{q:Addr}{o:MO}(h:m9 M x ds)(hq:M q=none):m9 (C1 M q o) x ds:=by
 rcases h with h|⟨p,e,h⟩|h
 ·exact .inl h
 ·exact .inr (.inl ⟨p,e,by rw[F0 (by intro e;subst e;rw[hq]at h;cases h)];exact h⟩)
 ·exact .inr (.inr h)
noncomputable def bA(ds es:List D):List D:=List.zipWith (fun a b=>.tup [a,b]) ds es
theorem bS(ds es:List D):(bA ds es).length=min ds.length es.length:=by simp[bA]
theorem um{ds es:List D}{i:Nat}{a b:D}(h1:ds[i]? = some a)(h2:es[i]? = some b):(bA ds es)[i]? = some (.tup [a,b]):=by
 unfold bA
 rw[QG,h1,h2]
theorem vA{K:Nd}{H1:Hp}{x y:D}{l1 l2:Addr}{ds es:List D}(h1:Has K H1 (.ref l1) x)(h2:Has K H1 (.ref l2) y) :
  lu K H1 (Itz K (aZ x) (aZ y) l1 l2) (bA ds es) (fun M'=>m9 M' x ds∧m9 M' y es) where
 go:=fun i H' M' hi k am zz=>by
  obtain⟨s1,s2⟩:=zz
  rw[bS]at hi
  obtain⟨a,xs,e1,q1,m1⟩:=j7 s1 am (h1.mono k)
  obtain⟨b,ys,e2,q2,m2⟩:=j7 s2 am (h2.mono k)
  cases e1;cases e2
  exact⟨xs,ys,_,_,q1,q2,NB (by rw[m1.length];omega),NB (by rw[m2.length];omega)⟩
 yld:=fun i H' M' v H'' hi k am ⟨s1,s2⟩ ⟨T,a,b,hT,ev,eH,u1,u2⟩=>by
  subst ev;subst eH
  obtain⟨a',xs,e1,q1,m1⟩:=j7 s1 am (h1.mono k)
  obtain⟨b',ys,e2,q2,m2⟩:=j7 s2 am (h2.mono k)
  cases e1;cases e2
  obtain⟨d1,g1,r1⟩:=m1.getV (u1 xs q1)
  obtain⟨d2,g2,r2⟩:=m2.getV (u2 ys q2)
  have kt:KT H' (upd H' T (.tup [a,b])):=KT.alloc hT
  exact⟨_,um g1 g2,kt,am.alloc hT,.tup (SqT.of i6) (.cons (r1.mono kt) (.cons (r2.mono kt) .nil))⟩
 stop:=fun i H' M' hi k am zz=>by
  obtain⟨s1,s2⟩:=zz
  rw[bS]at hi
  obtain⟨a,xs,e1,q1,m1⟩:=j7 s1 am (h1.mono k)
  obtain⟨b,ys,e2,q2,m2⟩:=j7 s2 am (h2.mono k)
  cases e1;cases e2
  refine⟨xs,ys,q1,q2,?_⟩
  rw[m1.length,m2.length]
  omega
 up:=fun _ _ _ st hq=>⟨K2 st.1 hq,K2 st.2 hq⟩
def DJ(ta:DTA):DTI:=fun e M R=>ta e M fun xs M1=>∃ x y ds es,xs=[x,y]∧m9 M1 x ds∧m9 M1 y es∧R (bA ds es) (fun M'=>m9 M' x ds∧m9 M' y es) M1
theorem BP{elts:List Expr}{kx:Nat}{tp:Pos}{a b:Expr}{p pos:Pos}(hg:Gl X "zip")(hm:X.mg "zip" = none)(ha:JA X [a,b] ta)
  (hs:starEach [a,b] X.env=[(false,eval a X.env),(false,eval b X.env)]:=by rfl) (hs2:starEach [b] X.env=[(false,eval b X.env)]:=by rfl):JI X (.Tuple elts kx tp) (.Call (.Name "zip" p) [a,b] [] pos) (DJ ta):=⟨have ha:=ha.out;PI.imp (Fp hg hm ha hs hs2) (by rintro σ H R ⟨e,M,R',ok,am,t,f⟩;exact⟨e,M,_,ok,am,t,fun xs M1 ⟨x,y,ds,es,z,s1,s2,r⟩ vs H1 k1 a1 r1=>by
  subst z
  obtain⟨v,v',rfl,hv,hv'⟩:=r1.two
  obtain⟨a,zs,rfl,q1,m1⟩:=j7 s1 a1 hv
  obtain⟨b,ws,rfl,q2,m2⟩:=j7 s2 a1 hv'
  exact⟨_,_,a,b,rfl,⟨zs,q1⟩,⟨ws,q2⟩,f _ _ M1 r H1 k1 a1 _ (vA hv hv')⟩⟩)⟩
end
section
variable {X:Cx} {tg iter:Expr} {body:List Stmt} {ti:DTI} {g:DTG} {tb:DTS} {pos:Pos}
theorem v8(hp:PassesOwn (model X.prog X.w) X.A X.env X.xe)(hc:X.calm=true)(hi:JI X tg iter ti)(hg:JG X tg g)(hb:JSs X body tb)
  (hs:∀ x,foldedSetIterable iter X.env x=pure x:=by intro _;rfl):JS X (.For tg iter body [] pos) (IQ ti g tb):=⟨have hi:=hi.out;have hg:=hg.out;have hb:=hb.out;(Fm hp hc hi hg hb hs).imp (by rintro E σ H ⟨e,M,F,ok,am,t,f⟩;exact⟨e,M,_,ok,am,t,fun ds stay M1 ⟨W,w0,hst,step,done⟩ H1 k1 a1 J wk=>by
  refine⟨fun i m σ' H'=>m=ds.length - i∧i≤ds.length∧∃ e' M',KT H1 H'∧A6 X.K H' σ' e'∧o9 X.K H' M'∧W i e' M',⟨ds.length,by simp,Oa _,e,M1,KT.refl H1,ok.mono k1,a1,w0⟩,?_⟩
  rintro i m σ2 H2 ⟨rfl,hi,e2,M2,k2,ok2,a2,w2⟩
  have st:=hst i e2 M2 hi w2
  by_cases hlt:i<ds.length
  ·refine .inr ⟨wk.go i H2 M2 hlt k2 a2 st,fun σ' H'=>∃ e' M',KT H1 H'∧A6 X.K H' σ' e'∧o9 X.K H' M'∧W (i+1) e' M',fun σ' H' h=>⟨ds.length - (i+1),by omega,rfl,hlt,h⟩,fun y H' yl=>?_⟩
   obtain⟨d,hd,k3,a3,r⟩:=wk.yld i H2 M2 y H' hlt k2 a2 st yl
   exact xW f k1 (k2.trans k3) (ok2.mono k3) a3 r (step i d e2 M2 hd w2)
  ·have e':i=ds.length:=by omega
   subst e'
   exact .inl ⟨wk.stop _ H2 M2 (Ny _) k2 a2 st,f.nx e2 M2 (done e2 M2 w2) σ2 H2 (k1.trans k2) a2 ok2⟩⟩)⟩
end
noncomputable def gk(n:Nat)(caps:List Nat)(e:Ev):Ev:=OS n none++caps.map fun i=>(e[i]?).getD none
theorem Cd{K:Nd}{H:Hp}{σ:St}{e:Ev}(n:Nat)(caps:List Nat)(ok:A6 K H σ e):A6 K H (kW n caps σ) (gk n caps e):=by
 refine⟨by simp[kW,gk],fun i d h=>?_⟩
 unfold gk at h
 unfold kW
 rw[PH]at h ⊢
 rw[Px]at h ⊢
 by_cases hi:i<n
 ·rw[if_pos hi]at h
  rw[Oy]at h
  split at h<;>cases h
 ·rw[if_neg hi]at h ⊢
  rw[ND]at h ⊢
  cases hj:caps[i - n]? with
  | none=>rw[hj]at h;cases h
  | some j =>
   rw[hj]at h
   have h':(e[j]?).getD none=some d:=by simpa using h
   have he:e[j]? = some (some d):=by
    cases q:e[j]? with
    | none=>rw[q]at h';cases h'
    | some z=>rw[q]at h';rw[show z=some d by simpa using h']
   obtain⟨v,h1,h2⟩:=ok.has j d he
   exact⟨v,by simp[h1],h2⟩
theorem bx{p:Str→Prop}{a:Str}(h:p a):∀ x∈[a],p x:=fun x hx=>by
 simp only[Nh,Nv,or_false]at hx
 subst hx;exact h
theorem Je{p:Str→Prop}{a b c d:Str}(h:p a)(h2:p b)(h3:p c)(h4:p d):∀ x∈[a,b,c,d],p x:=fun x hx=>by
 simp only[Nh,Nv,or_false]at hx
 rcases hx with rfl|rfl|rfl|rfl
 ·exact h
 ·exact h2
 ·exact h3
 ·exact h4
section
variable {X:Cx}
def JZ(K:Nd)(tl:TE):TI:=fun σ H R=>tl σ H fun x H1=>∃(a:Addr) (k:Bool),x = .ref a∧(∃ xs,SqK K k H1 a xs)∧R (if k=true then Itl K a else Itt K a) H1
theorem Fq{tg l:Expr}{tl:TE}(hl:PE X l tl):PI X tg l (JZ X.K tl):=by
 intro pins s σ H R I h
 refine thn (hl pins s σ H _ I h) fun v s1 zz=>?_
 obtain⟨x,H1,I1,r1,q1⟩:=zz
 obtain⟨a,k,e,⟨xs,hq⟩,q⟩:=q1
 subst e
 cases r1
 obtain⟨its,rv,p⟩:=I1.sqk hq
 have nf:∀ b∈[s1.heap.objs.size],Y3 X pins H1 b:=fun b hb=>by
  have e:b=s1.heap.objs.size:=by simpa using hb
  subst e
  exact I1.fpOk (Ny _) (I1.hok.fresh (Ny _))
 cases k with
 | true=>exact wpAny_pyIter_list p ⟨s1.heap.objs.size,[s1.heap.objs.size],_,_,H1,rfl,I1.kept (t':=s1.toks) fun b o e=>Nc _ e,tu a _,⟨_,Ni _ rfl,rfl,rfl⟩,nf,q⟩
 | false=>exact wpAny_pyIter_tuple p ⟨s1.heap.objs.size,[s1.heap.objs.size],_,_,H1,rfl,I1.kept (t':=s1.toks) fun b o e=>Nc _ e,oT a _,⟨_,Ni _ rfl,rfl,rfl⟩,nf,q⟩
def DM(ti:DTE):DTI:=fun e M R=>ti e M fun x M1=>∃ ds,m9 M1 x ds∧R ds (fun M'=>m9 M' x ds) M1
theorem p7{tg iter:Expr}{ti:DTE}(hi:JE X iter ti):JI X tg iter (DM ti):=⟨have hi:=hi.out;PI.imp (Fq hi) (by rintro σ H R ⟨e,M,R',ok,am,t,f⟩;exact⟨e,M,_,ok,am,t,fun x M1 ⟨ds,sq,r⟩ v H1 k1 a1 r1=>by
 have sq':=sq
 rcases sq with rfl|⟨p,rfl,hm⟩|rfl
 rotate_left 2
 ·obtain⟨a,xs,rfl,sq,l⟩:=r1.il
  have wk:lu X.K H1 (Itl X.K a) ds (fun M'=>m9 M' (.vl ds) ds):=⟨fun i H' M' hi k am _=>by
    obtain⟨a',ys,e,sq',l'⟩:=(r1.mono k).il
    cases e
    exact⟨ys,_,sq',NB (by rw[l'.length];exact hi)⟩,
   fun i H' M' x H'' hi k am _ zz=>by
    obtain⟨e,y⟩:=zz
    subst e
    obtain⟨a',ys,e,sq',l'⟩:=(r1.mono k).il
    cases e
    obtain⟨d,hd,r⟩:=l'.getV (y ys sq')
    exact⟨d,hd,KT.refl _,am,r⟩,
   fun i H' M' hi k am _=>by
    obtain⟨a',ys,e,sq',l'⟩:=(r1.mono k).il
    cases e
    exact⟨ys,sq',by rw[l'.length];exact hi⟩,fun _ _ _ st hq=>K2 st hq⟩
  exact⟨a,true,rfl,⟨xs,sq⟩,f ds _ M1 r H1 k1 a1 _ wk⟩
 ·cases r1 with
  | tup s l =>
   refine⟨_,false,rfl,⟨_,s⟩,f ds _ M1 r H1 k1 a1 _ ?_⟩
   have w:=vB (K:=X.K) s l
   exact⟨fun i H' M' a b c _=>w.go i H' M' a b c trivial,fun i H' M' y H2 a b c _ g=>w.yld i H' M' y H2 a b c trivial g,fun i H' M' a b c _=>w.stop i H' M' a b c trivial,fun _ _ _ st hq=>K2 st hq⟩
 ·cases r1
  obtain⟨xs,hx,l⟩:=a1.lst hm
  refine⟨p,true,rfl,⟨xs,SqL.of hx⟩,f ds _ M1 r H1 k1 a1 _ ?_⟩
  have w:=vD (K:=X.K) (H1:=H1) (p:=p) (ds:=ds)
  have cv:∀{M':Mem},m9 M' (.ref p) ds→M' p=some (.lst ds):=fun z=>by
   rcases z with z|⟨p',z,h⟩|z
   ·cases z
   ·cases z;exact h
   ·cases z
  exact⟨fun i H' M' a b c z=>w.go i H' M' a b c (cv z),fun i H' M' y H2 a b c z g=>w.yld i H' M' y H2 a b c (cv z) g,fun i H' M' a b c z=>w.stop i H' M' a b c (cv z),fun _ _ _ st hq=>K2 st hq⟩⟩)⟩
end
theorem Ga{K:Nd}{mg:Str→Option Value}{h:Heap}{x:Str}{i:Int}{t:Tok}(X:K.In h)(G:h.Ns mainGlobals mg)(n:PySem.W.nsIn K mainGlobals x=some (some (.int i t))):GlD K mg x (.int i) :=
 ⟨.int i,.int i t,PySem.W.mg_of X G n,⟨t,rfl⟩,fun _=>.int i⟩
theorem sT{ds:List D}{r:Int}(h0:0≤r)(h1:r<ds.length):∃ d,atI ds r=some d∧d∈ds:=by
 unfold atI ixN
 rw[if_pos h0,if_pos h1]
 have hl:r.toNat<ds.length:=by omega
 exact⟨ds[r.toNat],by simp[hl],Rx hl⟩
section
variable {X:Cx}
end
section
variable {X:Cx}
def sF:DRM:=fun x xs M R=>∃ l ds v,x = .ref l∧xs=[v]∧M l=some (.lst ds)∧ds.length<sizeLine∧R .non (C1 M l (.lst (ds++[v])))
theorem P5:DMt X "list.append" sF:=MtR.imp (r:=rQ) iu (by
 rintro x xs H Q ⟨dx,ds,M,R,hx,hl,am,⟨l,es,v,e1,e2,hM,hz,r⟩,f⟩
 subst e1;subst e2
 cases hx
 obtain⟨w,rfl,hw⟩:=hl.one
 obtain⟨ys,hy,ly⟩:=am.lst hM
 exact⟨l,ys,w,rfl,rfl,hy,by rw[ly.length];exact hz,f _ _ r _ _ (KT.write hy) (am.write hy (ly.append (.cons hw .nil))) .non⟩)
end
theorem Au{M:Mem}{p:Addr}{ds:List D}(h:M p=some (.lst ds)):tyD M (.ref p)=some "list" := by
 unfold tyD;simp only[h]
section
variable {X:Cx}
end
noncomputable abbrev DTO:=Ev→Mem→(Option Int→Mem→Prop)→Prop
def upO(K:Nd)(t:DTO):TO:=fun σ H Q=>∃ e M R,A6 K H σ e∧o9 K H M∧t e M R∧∀ o M',R o M'→∀ H',KT H H'→o9 K H' M'→Q o H'
def DPO(X:Cx)(e:Option Expr)(t:DTO):Prop:=PO X e (upO X.K t)
structure JO(X:Cx)(e:Option Expr)(t:DTO):Prop where
 out:DPO X e t
def sO:DTO:=fun _ M R=>R none M
def DR(t:DTE):DTO:=fun e M R=>t e M fun x M1=>∃ i,x = .int i∧R (some i) M1
theorem PO.imp{X:Cx}{e:Option Expr}{t t':TO}(h:PO X e t)(i:∀ σ H Q,t' σ H Q→t σ H Q):PO X e t':=fun pins s σ H Q I q=>h pins s σ H Q I (i σ H Q q)
section
variable {X:Cx} {e:Expr} {te:DTE} {lo hi:Option Expr} {tl th:DTO} {pos p2:Pos}
theorem C5:JO X none sO:=⟨PO.imp Bb (by rintro σ H Q ⟨e,M,R,ok,am,t,f⟩;exact f none M t H (KT.refl H) am)⟩
theorem C4(h:JE X e te):JO X (some e) (DR te):=⟨have h:=h.out;PO.imp (Ba h) (by rintro σ H Q ⟨e,M,R,ok,am,t,f⟩;exact⟨e,M,_,ok,am,t,fun x M1 ⟨i,z,r⟩ v H1 k1 a1 r1=>by
 subst z;cases r1
 exact⟨i,rfl,f (some i) M1 r H1 k1 a1⟩⟩)⟩
noncomputable def O4(ds:List D)(lo hi:Option Int):List D:=(ds.drop (HT.sIx ds.length 0 lo)).take (HT.sIx ds.length ds.length hi - HT.sIx ds.length 0 lo)
theorem HasL.cut{K:Nd}{H:Hp}{xs:List V}{ds:List D}(h:HasL K H xs ds)(lo hi:Option Int):HasL K H (om xs lo hi) (O4 ds lo hi):=by
 unfold om O4
 rw[h.length]
 exact(h.drop _).take _
def Kc(x:D)(lo hi:Option Int)(M:Mem)(R:DK):Prop:=∃ ds,D8 M x=some ds∧∀ p,M p=none→R (.ref p) (C1 M p (.lst (O4 ds lo hi)))
def dSl(te:DTE)(tl th:DTO):DTE:=fun e M R=>te e M fun x M1=>tl e M1 fun l M2=>th e M2 fun u M3=>Kc x l u M3 R
theorem xA(he:JE X e te)(hl:JO X lo tl)(hu:JO X hi th):JE X (.Subscript e (.Slice lo hi none p2) pos) (dSl te tl th):=⟨have he:=he.out;have hl:=hl.out;have hu:=hu.out;(nA rJ he hl hu).imp (by rintro σ H Q ⟨e,M,R,ok,am,t,f⟩;exact⟨e,M,_,ok,am,t,fun x M1 h1 v H1 k1 a1 r1=>⟨e,M1,_,ok.mono k1,a1,h1,fun l M2 h2 H2 k2 a2=>⟨e,M2,_,(ok.mono k1).mono k2,a2,h2,fun u M3 ⟨ds,hi,r⟩ H3 k3 a3=>by
  obtain⟨a,xs,rfl,sq,lx⟩:=u9 a3 ((r1.mono k2).mono k3) hi
  exact⟨a,xs,rfl,sq,fun p hp=>f _ _ (r p (a3.fresh hp)) _ _ ((k1.trans (k2.trans k3)).trans (KT.alloc hp)) (a3.new hp (lx.cut l u)) (.ref p)⟩⟩⟩⟩)⟩
end
noncomputable def P4(ds:List D):List D:=ds.mapIdx fun i d=>.tup [.int i,d]
theorem S3(ds:List D):(P4 ds).length=ds.length:=by simp[P4]
theorem uc{ds:List D}{i:Nat}{d:D}(h:ds[i]? = some d):(P4 ds)[i]? = some (.tup [.int i,d]):=by
 unfold P4
 rw[QN,h];rfl
theorem yb{ds:List D}{i:Nat}{x:D}(h:(P4 ds)[i]? = some x):∃ d,ds[i]? = some d∧x = .tup [.int i,d]:=by
 unfold P4 at h
 rw[QN]at h
 cases e:ds[i]? with
 | none=>rw[e]at h;cases h
 | some d=>rw[e]at h;exact⟨d,rfl,(Option.some.inj h).symm⟩
theorem tj{K:Nd}{H1:Hp}{x:D}{l:Addr}{ds:List D}(h1:Has K H1 (.ref l) x):lu K H1 (Ite K (aZ x) l) (P4 ds) (fun M'=>m9 M' x ds) where
 go:=fun i H' M' hi k am s1=>by
  rw[S3]at hi
  obtain⟨a,xs,e1,q1,m1⟩:=j7 s1 am (h1.mono k)
  cases e1
  exact⟨xs,_,q1,NB (by rw[m1.length];omega)⟩
 yld:=fun i H' M' v H'' hi k am s1 zz=>by
  obtain⟨T,a,hT,ev,eH,u1⟩:=zz
  subst ev;subst eH
  obtain⟨a',xs,e1,q1,m1⟩:=j7 s1 am (h1.mono k)
  cases e1
  obtain⟨d1,g1,r1⟩:=m1.getV (u1 xs q1)
  have kt:KT H' (upd H' T (.tup [.int i,a])):=KT.alloc hT
  exact⟨_,uc g1,kt,am.alloc hT,.tup (SqT.of i6) (.cons (.int _) (.cons (r1.mono kt) .nil))⟩
 stop:=fun i H' M' hi k am s1=>by
  rw[S3]at hi
  obtain⟨a,xs,e1,q1,m1⟩:=j7 s1 am (h1.mono k)
  cases e1
  exact⟨xs,q1,by rw[m1.length];exact hi⟩
 up:=fun _ _ _ st hq=>K2 st hq
section
variable {X:Cx} {ta:DTA}
def yg(ta:DTA):DTI:=fun e M R=>ta e M fun xs M1=>∃ x ds,xs=[x]∧m9 M1 x ds∧R (P4 ds) (fun M'=>m9 M' x ds) M1
theorem nV{elts:List Expr}{kx:Nat}{tp:Pos}{a:Expr}{p pos:Pos}(hg:Gl X "enumerate")(hm:X.mg "enumerate" = none)(ha:JA X [a] ta)(hs:starEach [a] X.env=[(false,eval a X.env)]:=by rfl):JI X (.Tuple elts kx tp) (.Call (.Name "enumerate" p) [a] [] pos) (yg ta):=⟨have ha:=ha.out;PI.imp (Be hg hm ha hs) (by rintro σ H R ⟨e,M,R',ok,am,t,f⟩;exact⟨e,M,_,ok,am,t,fun xs M1 ⟨x,ds,z,s1,r⟩ vs H1 k1 a1 r1=>by
  subst z
  obtain⟨v,rfl,hv⟩:=r1.one
  obtain⟨a,zs,rfl,q1,m1⟩:=j7 s1 a1 hv
  exact⟨_,a,rfl,⟨zs,q1⟩,f _ _ M1 r H1 k1 a1 _ (tj hv)⟩⟩)⟩
end
noncomputable def cH(M:Mem)(a:Addr):Mem:=fun b=>if b=a then none else M b
theorem kO{M:Mem}{a b:Addr}(h:b≠a):cH M a b=M b:=by unfold cH;rw[if_neg h]
theorem bo{M:Mem}{a:Addr}{o:MO}(h:M a=none):cH (C1 M a o) a=M:=by
 funext b;unfold cH C1;by_cases e:b=a
 ·rw[if_pos e,e,h]
 ·rw[if_neg e,if_neg e]
section
variable {K:Nd} {H:Hp} {M:Mem} {p:Addr}
theorem o9.at{o:HO}(h:o9 K H M)(k:KT0 H (upd H p o))(hp:M p=none):o9 K (upd H p o) M:=fun a u m=>by
 cases u with
 | lst ds =>
  obtain⟨xs,z,l⟩:=h a _ m
  have hn:a≠p:=by intro e;subst e;rw[hp]at m;cases m
  exact⟨xs,by rw[g6 hn];exact z,l.mono0 k⟩
 | ins C fs =>
  obtain⟨C0,dx,ys,z,l,hc⟩:=h a _ m
  have hn:a≠p:=by intro e;subst e;rw[hp]at m;cases m
  exact⟨C0,dx,ys,by rw[g6 hn];exact z,l.mono0 k,hc⟩
theorem o9.del(h:o9 K H M):o9 K H (cH M p):=fun a u m=>by
 by_cases e:a=p
 ·subst e;unfold cH at m;rw[if_pos rfl]at m;cases m
 ·rw[kO e]at m;exact h a u m
theorem ud:cH M p p=none:=by unfold cH;rw[if_pos rfl]
theorem o9.none_ext{φ:Heap→Prop}(h:o9 K H M)(e:H p=some (.ext φ)):M p=none:=by
 cases q:M p with
 | none=>rfl
 | some o =>
  cases o with
  | lst ds=>obtain⟨xs,z,_⟩:=h p _ q;rw[e]at z;cases z
  | ins C fs=>obtain⟨_,dx,ys,z,_⟩:=h p _ q;rw[e]at z;cases z
end
section
variable {X:Cx} {x:Expr} {t:DTE} {es:List Expr} {tr:DTA} {pos:Pos}
def IP(t:DTE):DTE:=fun e M R=>t e M fun x M1=>∃ p ds,x = .ref p∧M1 p=some (.lst ds)∧R (.vl ds) (cH M1 p)
theorem fc(h:JE X x t):JE X x (IP t):=⟨have h:=h.out;(bI h).imp (by rintro σ H Q ⟨e,M,R,ok,am,t,f⟩;exact⟨e,M,_,ok,am,t,fun d M1 ⟨p,ds,z,hm,r⟩ v H1 k1 a1 r1=>by
 subst z
 cases r1
 obtain⟨xs,hx,lx⟩:=a1.lst hm
 exact⟨p,xs,rfl,hx,fun o=>f _ _ r _ _ (k1.trans (KT.any hx)) (a1.del.at (KT.any hx).toKT0 ud) (.vl (.inl ⟨o,i6⟩) (lx.mono (KT.any hx)))⟩⟩)⟩
def IS(t:DTE):DTE:=fun e M R=>t e M fun x M1=>∃ M2:Mem,(∀ b o,M2 b=some o→M1 b=some o)∧R x M2
theorem fe(h:JE X x t):JE X x (IS t):=⟨have h:=h.out;PE.imp h (by rintro σ H Q ⟨e,M,R,ok,am,t,f⟩;exact⟨e,M,_,ok,am,t,fun d M1 ⟨M2,hs,r⟩ v H1 k1 a1 r1=>f d M2 r v H1 k1 (fun a o q=>a1 a o (hs a o q)) r1⟩)⟩
def DU(t:DTA):DTE:=fun e M R=>t e M fun ds M1=>ds.length≤sizeLine∧R (.vl ds) M1
theorem bh{K:Nd}{H0 H:Hp}{M:Mem}{R:DK}{Q:VK}{vs:List V}{ds:List D}(f:ft K H0 R Q)(k:KT H0 H)(am:o9 K H M)(l:HasL K H vs ds)(r:R (.vl ds) M)(p:Addr)(hp:H p=none) :
  ∃ q xs,V.ref p = .ref q∧upd H p (.lst vs) q=some (.lst xs)∧∀ o,Q (.ref p) (upd (upd H p (.lst vs)) q (.frz o (.lst xs))) :=
 ⟨p,vs,rfl,i6,fun o=>by
  rw[ao]
  exact f _ M r _ _ (k.trans (KT.alloc hp)) (am.alloc hp) (.vl (.inl ⟨o,i6⟩) (l.mono (KT.alloc hp)))⟩
theorem B6(h:JA X es tr):JE X (.List es pos) (DU tr):=⟨have h:=h.out;(bI (wV h)).imp (by rintro σ H Q ⟨e,M,R,ok,am,t,f⟩;exact⟨e,M,_,ok,am,t,fun ds M1 ⟨hz,h1⟩ vs H1 k1 a1 r1=>⟨by rw[r1.length];exact hz,fun p hp=>bh f k1 a1 r1 h1 p hp⟩⟩)⟩
def xR(x y:D)(M:Mem)(R:DK):Prop:=∃ xs ys,D8 M x=some xs∧D8 M y=some ys∧xs.length+ys.length≤sizeLine∧R (.vl (xs++ys)) M
def DW(ta tb:DTE):DTE:=fun e M R=>ta e M fun x M1=>tb e M1 fun y M2=>xR x y M2 R
theorem bb{a b:Expr}{ta tb:DTE}(ha:JE X a ta)(hb:JE X b tb):JE X (.BinOp a .Add b pos) (DW ta tb):=⟨have ha:=ha.out;have hb:=hb.out;(bI (DB Bq ha hb)).imp (by rintro σ H Q ⟨e,M,R,ok,am,t,f⟩;exact⟨e,M,_,ok,am,t,fun x M1 h1 v H1 k1 a1 r1=>⟨e,M1,_,ok.mono k1,a1,h1,fun y M2 ⟨xs,ys,e1,e2,hz,r⟩ u H2 k2 a2 r2=>by
  obtain⟨a,vs,rfl,s1,l1⟩:=u9 a2 (r1.mono k2) e1
  obtain⟨b,ws,rfl,s2,l2⟩:=u9 a2 r2 e2
  exact⟨a,b,vs,ws,rfl,rfl,s1,s2,by rw[l1.length,l2.length];exact hz,fun p hp=>bh f (k1.trans k2) a2 (l1.append l2) r p hp⟩⟩⟩)⟩
def xO(x:D)(lo hi:Option Int)(M:Mem)(R:DK):Prop:=(∃ ds,D8 M x=some ds∧R (.vl (O4 ds lo hi)) M) ∨ ∃ ds,x = .tup ds∧¬ (HT.sIx ds.length 0 lo=0∧HT.sIx ds.length ds.length hi=ds.length)∧R (.tup (O4 ds lo hi)) M
def IG(te:DTE)(tl th:DTO):DTE:=fun e M R=>te e M fun x M1=>tl e M1 fun l M2=>th e M2 fun u M3=>xO x l u M3 R
theorem D6{e:Expr}{te:DTE}{lo hi:Option Expr}{tl th:DTO}{p2:Pos}(he:JE X e te)(hl:JO X lo tl)(hu:JO X hi th):JE X (.Subscript e (.Slice lo hi none p2) pos) (IG te tl th):=⟨have he:=he.out;have hl:=hl.out;have hu:=hu.out;(Bj (nA (SlR.or rJ EJ) he hl hu)).imp (by rintro σ H Q ⟨e,M,R,ok,am,t,f⟩;exact⟨e,M,_,ok,am,t,fun x M1 h1 v H1 k1 a1 r1=>⟨e,M1,_,ok.mono k1,a1,h1,fun l M2 h2 H2 k2 a2=>⟨e,M2,_,(ok.mono k1).mono k2,a2,h2,fun u M3 h3 H3 k3 a3=>by
  rcases h3 with⟨ds,hi,r⟩|⟨ds,rfl,hw,r⟩
  ·obtain⟨a,xs,rfl,sq,lx⟩:=u9 a3 ((r1.mono k2).mono k3) hi
   exact .inl ⟨a,xs,rfl,sq,fun p hp=>.inl (bh f (k1.trans (k2.trans k3)) a3 (lx.cut l u) r p hp)⟩
  ·cases(r1.mono k2).mono k3 with
   | tup sq lx =>
    exact .inr ⟨_,_,rfl,sq,by rw[lx.length];exact hw,fun p hp=>.inr (f _ M3 r _ _ ((k1.trans (k2.trans k3)).trans (KT.alloc hp)) (a3.alloc hp) (.tup (SqT.of i6) ((lx.cut l u).mono (KT.alloc hp))))⟩⟩⟩⟩)⟩
def kM(ds:List D)(M:Mem)(R:DK):Prop:=∃ x ys,ds=[x]∧m9 M x ys∧R (.vl ys) M
def yo(t:DTA):DTE:=fun e M R=>t e M fun ds M1=>kM ds M1 R
end
section
variable {X:Cx} {e:Expr} {es:List Expr} {t:DTA} {x:Str} {p pos:Pos}
theorem nX(hg:Gl X x)(hm:X.mg x=none)(hv:bootBuiltins x=some (.type "list"))(ha:JA X (e :: es) t)
  (hn:x ≠ "__name__" := by decide) (hdb:(x == ("__debug__" : Str))=false:=by decide) (he:starEach (e :: es) X.env=(false,eval e X.env) :: starEach es X.env:=by rfl) (hpl:(backTo pos (starEach es X.env)).any (·.1)=false:=by rfl):JE X (.Call (.Name x p) (e :: es) [] pos) (yo t):=⟨have ha:=ha.out;(bI (ip kY hg hm hv ha hn hdb he hpl)).imp (by rintro σ H Q ⟨e,M,R,ok,am,t,f⟩;exact⟨e,M,_,ok,am,t,fun ds M1 ⟨d,ys,z,sq,r⟩ vs H1 k1 a1 r1=>by
  subst z
  obtain⟨v,rfl,hv⟩:=r1.one
  obtain⟨a,xs,rfl,q1,m1⟩:=j7 sq a1 hv
  refine⟨a,xs,rfl,?_,fun p hp=>bh f k1 a1 m1 r p hp⟩
  cases hk:aZ d with
  | true=>rw[hk]at q1;exact .inl q1
  | false=>rw[hk]at q1;exact .inr q1⟩)⟩
variable {te:DTE} {pos':Pos}
end
section
variable {X:Cx}
noncomputable def sG:D→Option V
 | .non=>some .non
 | .bl b=>some (.bl b)
 | .int i=>some (.int i)
 | .str x=>some (.str x)
 | _=>none
theorem iE{K:Nd}{H:Hp}{v w:V}{d:D}(h:Has K H v d)(e:sG d=some w):v=w∧Y5 w=true:=by
 cases h with
 | non=>cases e;exact⟨rfl,rfl⟩
 | bl b=>cases e;exact⟨rfl,rfl⟩
 | int i=>cases e;exact⟨rfl,rfl⟩
 | str x=>cases e;exact⟨rfl,rfl⟩
 | _=>cases e
theorem iF{K:Nd}{H:Hp}:∀{vs ws:List V} {ds:List D},HasL K H vs ds→ds.map sG=ws.map some→vs=ws∧ws.all Y5=true
 | _,[],_,.nil,_=>⟨rfl,rfl⟩
 | _,_ :: _,_,.nil,e=>by cases e
 | _,[],_,.cons _ _,e=>by cases e
 | _,w :: ws,_,.cons h t,e=>by
  rw[NO,NO]at e
  injection e with e1 e2
  obtain⟨rfl,f⟩:=iE h e1
  obtain⟨rfl,f2⟩:=iF t e2
  exact⟨rfl,by rw[Qp,f,f2];rfl⟩
def gIn(neg:Bool):DR2:=fun x y M R=>∃(v:V) (ds:List D) (ws:List V),sG x=some v∧m9 M y ds∧ds.map sG=ws.map some∧R (.bl (if neg then !inV v ws else inV v ws)) M
theorem FO:DOp X (compareOp .In) (gIn false):=OpR.imp tQ (by
 rintro x y H Q ⟨dx,dy,M,R,hx,hy,am,⟨v,ds,ws,e1,sq,e2,r⟩,f⟩
 obtain⟨rfl,fv⟩:=iE hx e1
 obtain⟨a,xs,rfl,q1,m1⟩:=j7 sq am hy
 obtain⟨rfl,fs⟩:=iF m1 e2
 refine⟨a,xs,rfl,?_,fv,fs,f _ M r _ H (KT.refl H) am (.bl _)⟩
 cases hk:aZ dy with
 | true=>rw[hk]at q1;exact .inl q1
 | false=>rw[hk]at q1;exact .inr q1)
end
noncomputable abbrev S9:=Ev→Mem→(Bool→Mem→Prop)→Prop
abbrev Jl(X:Cx)(ifs:List Expr)(t:S9):Prop:=bQ X ifs (upT X.K t)
structure yU(X:Cx)(ifs:List Expr)(t:S9):Prop where
 out:Jl X ifs t
def Cg:S9:=fun _ M R=>R true M
theorem bQ.imp{X:Cx}{ifs:List Expr}{t t':TT}(h:bQ X ifs t)(i:∀ σ H Q,t' σ H Q→t σ H Q):bQ X ifs t':=fun pins s σ H Q I q=>h pins s σ H Q I (i σ H Q q)
theorem r9{X:Cx}:yU X [] Cg:=⟨bQ.imp wL (by rintro σ H Q ⟨e,M,R,ok,am,t,f⟩;exact f true M t H (KT.refl H) am)⟩
theorem iy{X:Cx}{c:Expr}{t:DTT}(h:JT X c t):yU X [c] t:=⟨have h:=h.out;wK h⟩
structure oO(e0:Ev)(g:DTG)(tc:S9)(te:DTE)(ds:List D)(stay:Mem→Prop)(M1:Mem)(E:List D→Mem→Prop)(W:Nat→List D→Mem→Prop):Prop where
 start:W 0 [] M1
 stays:∀ i ys M,i≤ds.length→W i ys M→stay M
 turn:∀(i:Nat) (d:D) ys M,ds[i]? = some d→W i ys M→g d e0 M fun e2 M2=>tc e2 M2 fun b M3=>if b=true then te e2 M3 fun v M4=>ys.length<sizeLine∧W (i+1) (ys++[v]) M4 else W (i+1) ys M3
 done:∀ ys M,W ds.length ys M→E ys M
def zk(e0:Ev)(g:DTG)(tc:S9)(te:DTE)(ds:List D)(stay:Mem→Prop)(M1:Mem)(R:DK):Prop:=∃ W,oO e0 g tc te ds stay M1 (fun ys M=>R (.vl ys) M) W
def Ej(e0:Ev)(g:DTG)(tc:S9)(te:DTE)(ds:List D)(stay:Mem→Prop)(M1:Mem)(R:DK):Prop:=∃ W,oO e0 g tc te ds stay M1 (fun ys M=>∀ p,M p=none→R (.ref p) (C1 M p (.lst ys))) W
def qe(n:Nat)(caps:List Nat)(ti:DTI)(g:DTG)(tc:S9)(te:DTE):DTE:=fun e M R=>ti e M fun ds stay M1=>zk (gk n caps e) g tc te ds stay M1 R
def yp(n:Nat)(caps:List Nat)(ti:DTI)(g:DTG)(tc:S9)(te:DTE):DTE:=fun e M R=>ti e M fun ds stay M1=>Ej (gk n caps e) g tc te ds stay M1 R
section
variable {X:Cx} {elt tg iter:Expr} {scope:Scope} {tgs cps:List Str} {caps:List Nat} {ti:DTI} {g:DTG} {tc:S9} {te:DTE} {pos:Pos} {ifs:List Expr}
def CWH(K:Nd)(H1:Hp)(D0:Addr)(len:Nat)(W:Nat→List D→Mem→Prop)(i m:Nat)(H':Hp):Prop:=m=len - i∧i≤len∧∃ M' ys xs,KT H1 H'∧o9 K H' M'∧H' D0=some (.lst xs)∧M' D0=none∧HasL K H' xs ys∧W i ys M'
theorem bO{K:Nd}{H1:Hp}{J:It}{ds:List D}{stay:Mem→Prop}{M1:Mem}{n:Nat}{caps:List Nat}{σ:St}{e:Ev}{E:List D→Mem→Prop}{W:Nat→List D→Mem→Prop}{D0:Addr}{Qd:Hp→Prop}(ok:A6 K H1 σ e)(a1:o9 K H1 M1)(wk:lu K H1 J ds stay)(hD:H1 D0=none)
  (C:oO (gk n caps e) g tc te ds stay M1 E W) (fin:∀ ys M xs H',KT H1 H'→o9 K H' M→H' D0=some (.lst xs)→M D0=none→HasL K H' xs ys→E ys M→Qd H') (i m:Nat) (H2:Hp) (w:CWH K H1 D0 ds.length W i m H2) :
  (J.stop i H2∧Qd H2)∨(J.go i H2∧∀ x H',J.yld i H2 x H'→(∃ p,vK p (upG K g) x (kW n caps σ) H' fun σ2 H3=>∃ p,vJ p (upT K tc) σ2 H3 fun b H3'=>if b=true then ∃ p,vL p (up K te) σ2 H3' fun v H4 =>
   ∃ ys,H4 D0=some (.lst ys)∧ys.length<sizeLine∧∃ m',m'<m∧CWH K H1 D0 ds.length W (i+1) m' (upd H4 D0 (.lst (ys++[v])))else ∃ m',m'<m∧CWH K H1 D0 ds.length W (i+1) m' H3')):=by
 obtain⟨rfl,hi,M2,ys,xs,k2,a2,hx,hM,lx,w2⟩:=w
 have a2':o9 K H2 (C1 M2 D0 (.lst ys)):=fun a o q=>by
  by_cases e:a=D0
  ·subst e;rw[g7]at q;cases q;exact⟨xs,hx,lx⟩
  ·rw[F0 e]at q;exact a2 a o q
 have st:=wk.up _ D0 (.lst ys) (C.stays i ys M2 hi w2) hM
 by_cases hlt:i<ds.length
 ·refine .inr ⟨wk.go i H2 _ hlt k2 a2' st,fun y H' yl=>?_⟩
  obtain⟨d,hd,k3,a3',r⟩:=wk.yld i H2 _ y H' hlt k2 a2' st yl
  obtain⟨xs',hx',lx'⟩:=a3'.lst g7
  have a3:o9 K H' M2:=fun a o q=>by
   have e:a≠D0:=by intro e;subst e;rw[hM]at q;cases q
   exact a3' a o (by rw[F0 e];exact q)
  have kh:KT H' (upd H' D0 (bf D0 xs')):=KT.any hx'
  have k1h:=(k2.trans k3).trans kh
  have same:∀{H3:Hp},H3 D0=some (bf D0 xs')→upd (upd H3 D0 (.lst xs')) D0 (bf D0 xs')=H3:=fun{H3} q=>by
   rw[ao];funext b;by_cases e:b=D0
   ·subst e;rw[i6,q]
   ·rw[g6 e]
  refine⟨D0,xs',hx',d,gk n caps e,M2,_,r.mono kh,Cd n caps (ok.mono k1h),a3.at kh.toKT0 hM,C.turn i d ys M2 hd w2,fun e3 M3 h3 σ3 H3 k4 a4 ok3=>?_⟩
  have q3:H3 D0=some (bf D0 xs'):=k4.ex D0 _ i6
  refine⟨q3,D0,xs',i6,?_⟩
  rw[same q3]
  refine⟨e3,M3,_,ok3,a4,h3,fun b M4 h4 H4 k5 a5=>?_⟩
  have q4:H4 D0=some (bf D0 xs'):=k5.ex D0 _ q3
  refine⟨q4,?_⟩
  have kk:=k1h.trans (k4.trans k5)
  cases b with
  | false =>
   have h4':W (i+1) ys M4:=h4
   show ∃ m',m'<ds.length - i∧CWH K H1 D0 ds.length W (i+1) m' (upd H4 D0 (.lst xs'))
   exact⟨ds.length - (i+1),by omega,rfl,hlt,M4,ys,xs',kk.new hD,a5.at (KT0.ext q4) (a5.none_ext q4),i6,a5.none_ext q4,(lx'.mono (kh.trans (k4.trans k5))).mono0 (KT0.ext q4),h4'⟩
  | true =>
   show ∃ p,vL p (up K te) σ3 (upd H4 D0 (.lst xs')) _
   refine⟨D0,xs',i6,?_⟩
   rw[same q4]
   refine⟨e3,M4,_,ok3.mono k5,a5,h4,fun dv M5 ⟨hz,w5⟩ vv H5 k6 a6 r6=>?_⟩
   have q5:H5 D0=some (bf D0 xs'):=k6.ex D0 _ q4
   refine⟨q5,xs',i6,by rw[lx'.length];exact hz,ds.length - (i+1),by omega,rfl,hlt,M5,ys++[dv],xs'++[vv],?_,?_,i6,a6.none_ext q5,?_,w5⟩
   ·rw[ao];exact(kk.trans k6).new hD
   ·rw[ao];exact a6.at (KT0.ext q5) (a6.none_ext q5)
   ·rw[ao];exact((lx'.mono (kh.trans (k4.trans (k5.trans k6)))).mono0 (KT0.ext q5)).append (.cons (r6.mono0 (KT0.ext q5)) .nil)
 ·have e':i=ds.length:=by omega
  subst e'
  exact .inl ⟨wk.stop _ H2 _ (Ny _) k2 a2' st,fin ys M2 xs H2 k2 a2 hx hM lx (C.done ys M2 w2)⟩
theorem A3(caps:List Nat)(tgs cps:List Str)(hc:X.calm=true)(hcell:∀ x∈scope.names,x.2 ≠ .cell)(hkind:scope.kind = .function)(hnames:∀ x∈scope.names,x.2 = .local→scope.names.lookup x.1=some .local)
  (hfr:∀ x∈scope.names,x.2 = .free→x.1∈cps) (hN:caps.map (fun i=>X.N[i]?)=cps.map some) (hX:∀ x∈cps,X.env.scope.names.lookup x=some .cell∧scope.names.lookup x=some .free)
  (hsc:∀ x∈cps,(relabel scope X.env).names.lookup x=some .cell∨(relabel scope X.env).names.lookup x=some .free)
  (hi:JI X tg iter ti) (hg:∀ cl s3 H3 C fp pins,JG (cxF X scope cl (tgs++cps) s3 H3 C fp pins) tg g) (hq:∀ cl s3 H3 C fp pins,yU (cxF X scope cl (tgs++cps) s3 H3 C fp pins) ifs tc) (he:∀ cl s3 H3 C fp pins,JE (cxF X scope cl (tgs++cps) s3 H3 C fp pins) elt te)
  (hs:∀ x,foldedSetIterable iter X.env x=pure x:=by intro _;rfl):JE X (.ListComp elt [⟨tg,iter,ifs,0⟩] scope pos) (qe tgs.length caps ti g tc te):=⟨have hi:=hi.out;have hg:=fun v0 v1 v2 v3 v4 v5=>(hg v0 v1 v2 v3 v4 v5).out;have hq:=fun v0 v1 v2 v3 v4 v5=>(hq v0 v1 v2 v3 v4 v5).out;have he:=fun v0 v1 v2 v3 v4 v5=>(he v0 v1 v2 v3 v4 v5).out;(bI (nB (tgs:=tgs) (cps:=cps) (caps:=caps) hc hcell hkind hnames hfr hN hX hsc hi (fun cl s3 H3 C fp pins=>jY (hg cl s3 H3 C fp pins)) (fun cl s3 H3 C fp pins=>bH (hq cl s3 H3 C fp pins)) (fun cl s3 H3 C fp pins=>jZ (he cl s3 H3 C fp pins)) hs)).imp (by rintro σ H Q ⟨e,M,R,ok,am,t,f⟩;exact⟨e,M,_,ok,am,t,fun ds stay M1 hW H1 k1 a1 J wk=>by
  intro D0 hD
  obtain⟨W,C⟩:=hW
  refine⟨fun i m H'=>CWH X.K H1 D0 ds.length W i m H',⟨ds.length,by simp,Oa _,M1,[],[],KT.alloc hD,a1.alloc hD,i6,a1.fresh hD,.nil,C.start⟩,fun i m H2 w=>bO (Qd:=fun H'=>∃ p xs,V.ref D0 = .ref p∧H' p=some (.lst xs)∧∀ o,Q (.ref D0) (upd H' p (.frz o (.lst xs)))) (ok.mono k1) a1 wk hD C (fun ys M2 xs H' k2 a2 hx hM lx r=>?_) i m H2 w⟩
  exact⟨D0,xs,rfl,hx,fun o=>f _ M2 r _ _ (k1.trans (k2.trans (KT.any hx))) (a2.at (KT.any hx).toKT0 hM) (.vl (.inl ⟨o,i6⟩) (lx.mono (KT.any hx)))⟩⟩)⟩
theorem xB(caps:List Nat)(tgs cps:List Str)(hc:X.calm=true)(hcell:∀ x∈scope.names,x.2 ≠ .cell)(hkind:scope.kind = .function)(hnames:∀ x∈scope.names,x.2 = .local→scope.names.lookup x.1=some .local)
  (hfr:∀ x∈scope.names,x.2 = .free→x.1∈cps) (hN:caps.map (fun i=>X.N[i]?)=cps.map some) (hX:∀ x∈cps,X.env.scope.names.lookup x=some .cell∧scope.names.lookup x=some .free)
  (hsc:∀ x∈cps,(relabel scope X.env).names.lookup x=some .cell∨(relabel scope X.env).names.lookup x=some .free)
  (hi:JI X tg iter ti) (hg:∀ cl s3 H3 C fp pins,JG (cxF X scope cl (tgs++cps) s3 H3 C fp pins) tg g) (hq:∀ cl s3 H3 C fp pins,yU (cxF X scope cl (tgs++cps) s3 H3 C fp pins) ifs tc) (he:∀ cl s3 H3 C fp pins,JE (cxF X scope cl (tgs++cps) s3 H3 C fp pins) elt te)
  (hs:∀ x,foldedSetIterable iter X.env x=pure x:=by intro _;rfl):JE X (.ListComp elt [⟨tg,iter,ifs,0⟩] scope pos) (yp tgs.length caps ti g tc te):=⟨have hi:=hi.out;have hg:=fun v0 v1 v2 v3 v4 v5=>(hg v0 v1 v2 v3 v4 v5).out;have hq:=fun v0 v1 v2 v3 v4 v5=>(hq v0 v1 v2 v3 v4 v5).out;have he:=fun v0 v1 v2 v3 v4 v5=>(he v0 v1 v2 v3 v4 v5).out;(nB (tgs:=tgs) (cps:=cps) (caps:=caps) hc hcell hkind hnames hfr hN hX hsc hi (fun cl s3 H3 C fp pins=>jY (hg cl s3 H3 C fp pins)) (fun cl s3 H3 C fp pins=>bH (hq cl s3 H3 C fp pins)) (fun cl s3 H3 C fp pins=>jZ (he cl s3 H3 C fp pins)) hs).imp (by rintro σ H Q ⟨e,M,R,ok,am,t,f⟩;exact⟨e,M,_,ok,am,t,fun ds stay M1 hW H1 k1 a1 J wk=>by
  intro D0 hD
  obtain⟨W,C⟩:=hW
  refine⟨fun i m H'=>CWH X.K H1 D0 ds.length W i m H',⟨ds.length,by simp,Oa _,M1,[],[],KT.alloc hD,a1.alloc hD,i6,a1.fresh hD,.nil,C.start⟩,fun i m H2 w=>bO (ok.mono k1) a1 wk hD C (fun ys M2 xs H' k2 a2 hx hM lx r=>?_) i m H2 w⟩
  refine f _ _ (r D0 hM) _ _ (k1.trans k2) (fun a o q=>?_) (.ref D0)
  by_cases e:a=D0
  ·subst e;rw[g7]at q;cases q;exact⟨xs,hx,lx⟩
  ·rw[F0 e]at q;exact a2 a o q⟩)⟩
theorem S1{i:Nat}{x:Str}{pos' pos2:Pos}(caps:List Nat)(tgs cps:List Str)(hNd:X.N.Nodup)(hxi:X.N[i]? = some x)(hx:Loc X.env.scope x)(hc:X.calm=true)(hcell:∀ x∈scope.names,x.2 ≠ .cell)(hkind:scope.kind = .function)(hnames:∀ x∈scope.names,x.2 = .local→scope.names.lookup x.1=some .local)
  (hfr:∀ x∈scope.names,x.2 = .free→x.1∈cps) (hN:caps.map (fun i=>X.N[i]?)=cps.map some) (hX:∀ x∈cps,X.env.scope.names.lookup x=some .cell∧scope.names.lookup x=some .free)
  (hsc:∀ x∈cps,(relabel scope X.env).names.lookup x=some .cell∨(relabel scope X.env).names.lookup x=some .free)
  (hi:JI X tg iter ti) (hg:∀ cl s3 H3 C fp pins,JG (cxF X scope cl (tgs++cps) s3 H3 C fp pins) tg g) (hq:∀ cl s3 H3 C fp pins,yU (cxF X scope cl (tgs++cps) s3 H3 C fp pins) ifs tc) (he:∀ cl s3 H3 C fp pins,JE (cxF X scope cl (tgs++cps) s3 H3 C fp pins) elt te)
  (hsw:swapsWith (.ListComp elt [⟨tg,iter,ifs,0⟩] scope pos) (some (.Name x pos')) pos2.line X.env=pure true:=by rfl) (hs:∀ x,foldedSetIterable iter X.env x=pure x:=by intro _;rfl) (hf:X.fn x=true∨X.env.scope.names.lookup x=some .local:=by first|exact .inl rfl|exact .inr rfl|assumption):JS X (.Assign [.Name x pos'] (.ListComp elt [⟨tg,iter,ifs,0⟩] scope pos) pos2) (yq (qe tgs.length caps ti g tc te) (bN i)):=⟨have hi:=hi.out;have hg:=fun v0 v1 v2 v3 v4 v5=>(hg v0 v1 v2 v3 v4 v5).out;have hq:=fun v0 v1 v2 v3 v4 v5=>(hq v0 v1 v2 v3 v4 v5).out;have he:=fun v0 v1 v2 v3 v4 v5=>(he v0 v1 v2 v3 v4 v5).out;(AY (Ff (wH (tgs:=tgs) (cps:=cps) (caps:=caps) hc hcell hkind hnames hfr hN hX hsc hi (fun cl s3 H3 C fp pins=>jY (hg cl s3 H3 C fp pins)) (fun cl s3 H3 C fp pins=>bH (hq cl s3 H3 C fp pins)) (fun cl s3 H3 C fp pins=>jZ (he cl s3 H3 C fp pins)) hNd hxi hx hf hs)) hsw).imp (by rintro E σ H ⟨e,M,F,ok,am,t,f⟩;exact⟨e,M,_,ok,am,t,fun ds stay M1 hW H1 k1 a1 J wk=>by
  intro D0 hD
  obtain⟨W,C⟩:=hW
  refine⟨fun i m H'=>CWH X.K H1 D0 ds.length W i m H',⟨ds.length,by simp,Oa _,M1,[],[],KT.alloc hD,a1.alloc hD,i6,a1.fresh hD,.nil,C.start⟩,fun j m H2 w=>bO (Qd:=fun H'=>∃ p xs,V.ref D0 = .ref p∧H' p=some (.lst xs)∧∀ o,E.nx (σ.set i (some (.ref D0))) (upd H' p (.frz o (.lst xs)))) (ok.mono k1) a1 wk hD C (fun ys M2 xs H' k2 a2 hx hM lx r=>?_) j m H2 w⟩
  exact⟨D0,xs,rfl,hx,fun o=>f.nx _ M2 r _ _ (k1.trans (k2.trans (KT.any hx))) (a2.at (KT.any hx).toKT0 hM) ((ok.mono (k1.trans (k2.trans (KT.any hx)))).set (.vl (.inl ⟨o,i6⟩) (lx.mono (KT.any hx))) i)⟩⟩)⟩
end
section
variable {X:Cx} {e:Expr} {te:DTE} {p1 p2 pos pos2:Pos}
theorem SqL.upd{K:Nd}{H:Hp}{a it:Addr}{xs:List V}{o:HO}(h:SqL K H a xs)(ne:a≠it):SqL K (upd H it o) a xs:=h.elim (fun z=>.inl (by unfold Rd at z ⊢;rw[g6 ne];exact z)) .inr
theorem SqK.upd{K:Nd}{k:Bool}{H:Hp}{a it:Addr}{xs:List V}{o:HO}(h:SqK K k H a xs)(ne:a≠it):SqK K k (L2.upd H it o) a xs:=by
 cases k with
 | true=>exact SqL.upd (show SqL K H a xs from h) ne
 | false=>exact(show SqT K H a xs from h).elim (fun z=>.inl (by unfold Rd at z ⊢;rw[g6 ne];exact z)) .inr
def yh(n:Nat)(t:W3):DTG:=fun d e M R=>∃ ds,D8 M d=some ds∧ds.length=n∧t ds e M R
theorem eZ{xs:List Expr}{k:Nat}{t:W3}{n:Nat}(hc:X.calm=true)(h:JGs X xs t)
  (hn:(assignEach xs X.env).length=n:=by rfl) (hst:(assignEach xs X.env).findIdx? (·.1)=none:=by rfl):JG X (.Tuple xs k pos) (yh n t):=⟨have h:=h.out;PG.imp (Bg hc h hn hst) (by
  rintro v σ H Q ⟨d,e,M,R,r,ok,am,⟨ds,hi,hl,g⟩,f⟩
  obtain⟨a,xs,e1,sq,lx⟩:=u9 am r hi
  exact⟨a,xs,e1,sq,by rw[lx.length];exact hl,ds,e,M,R,lx,ok,am,g,f⟩)⟩
end
end DL
namespace L2
open PySem PySem.Spec PyProof.Rows
section
variable {X:Cx} {pos:Pos}
end
end L2
namespace DL
open PySem PySem.Spec L2
open PyProof.Rows hiding St
section
variable {X:Cx}
end
section
variable {X:Cx}
end
section
variable {X:Cx} {a b c:Expr} {ta tb tc:DTE} {pos:Pos}
def qf(g g':DR2)(ta tb tc:DTE):DTE:=fun e M R=>ta e M fun x M1=>tb e M1 fun y M2=>g x y M2 fun z M3=>∃ k,z = .bl k∧(if k=true then tc e M3 fun w M4=>g' y w M4 R else R (.bl false) M3)
theorem yy{ta tb tc:DTE}{g g':DR2}{σ:St}{H:Hp}{Q:VK}(h:up X.K (qf g g' ta tb tc) σ H Q):vM (upR X.K g) (upR X.K g') (up X.K ta) (up X.K tb) (up X.K tc) σ H Q:=by
 obtain⟨e,M,R,ok,am,t,f⟩:=h
 refine⟨e,M,_,ok,am,t,fun x M1 h1 v H1 k1 a1 r1=>?_⟩
 refine⟨e,M1,_,ok.mono k1,a1,h1,fun y M2 h2 u H2 k2 a2 r2=>?_⟩
 refine⟨x,y,M2,_,r1.mono k2,r2,a2,h2,fun z M3 h3 v3 H3 k3 a3 r3=>?_⟩
 obtain⟨k,rfl,h3⟩:=h3
 cases r3
 refine⟨k,rfl,?_⟩
 have k13:=(k1.trans k2).trans k3
 cases k with
 | true =>
  refine⟨e,M3,_,ok.mono k13,a3,h3,fun q M4 h4 v4 H4 k4 a4 r4=>?_⟩
  exact⟨y,q,M4,R,r2.mono (k3.trans k4),r4,a4,h4,f.mono (k13.trans k4)⟩
 | false=>exact f _ M3 h3 _ H3 k13 a3 (.bl _)
theorem xC{op op':CmpOp}{g g':DR2}(ho:DOp X (compareOp op) g)(ho':DOp X (compareOp op') g')(ha:JE X a ta)(hb:JE X b tb)(hc:JE X c tc)(hm:lastMarks [op,op'] [b,c]=false:=by with_unfolding_all rfl):JE X (.Compare a [op,op'] [b,c] pos) (qf g g' ta tb tc):=⟨have ha:=ha.out;have hb:=hb.out;have hc:=hc.out;(wX ho ho' ha hb hc hm).imp fun _ _ _ h=>yy h⟩
end
section
variable {K:Nd}
end
section
variable {X:Cx} {x:Expr} {t:DTE}
end
theorem ir{P:Program}{w:World}{H:Hp}{h:Heap}{a:Addr}{o:HO}(x:B4 P w H h a o):∃ u,h.get? a=some u:=by
 cases o with
 | lst _=>obtain⟨_,_,_,_,e⟩:=x;exact⟨_,e⟩
 | tup _=>obtain⟨_,_,_,o,e,_⟩:=x;exact⟨_,e⟩
 | dK _=>obtain⟨_,_,_,_,o,_,_,e,_⟩:=x;exact⟨_,e⟩
 | dT _=>obtain⟨_,_,_,_,o,_,_,e,_⟩:=x;exact⟨_,e⟩
 | set _ _=>obtain⟨o,_,_,_,e,_⟩:=x;exact⟨_,e⟩
 | ins _ _ _=>obtain⟨_,_,_,e,_⟩:=x;exact⟨_,e⟩
 | own _=>exact x
 | xd _=>obtain⟨_,⟨_,_,_,e,_⟩,_⟩:=x;exact⟨_,e⟩
 | rng _ _=>obtain⟨_,_,_,e⟩:=x;exact⟨_,e⟩
 | frz _ _=>exact⟨_,x.1⟩
 | tbl _=>exact⟨_,show h.get? a=some _ from x⟩
 | met _ _=>exact⟨_,show h.get? a=some _ from x⟩
 | ext _=>exact x.2.1
noncomputable def Ic(X:Cx):St:=OS X.N.length none
def Cov(B s0:Heap)(H':Hp)(fs:List Addr)(h:Heap):Prop:=∀ b o,h.get? b=some o→((∃ u,H' b=some u) ∨ ∃ o0,s0.get? b=some o0)→b∉fs→B.get? b=some o
def Air(B:Heap)(l:List Env)(a:Addr)(cls a0:Value)(h:Heap):Prop:=Heap.FlyingW B l a cls a0 h ∨ ∃ env l' L,l=env :: l'∧env.frame=some L∧Heap.HeldW B l a cls a0 L h
section
variable {M:Model} {A:Around} {E:Value→Shared→Prop} {s:Shared} {B:Heap} {l outer:List Env} {env:Env} {L a:Addr} {cls a0:Value} {Q:Unit→Shared→Prop}
theorem Air.frames{h:Heap}(x:Air B l a cls a0 h):h.FunFrames B l:=by
 rcases x with x|⟨_,_,_,_,_,x⟩
 ·exact x.2.2.1
 ·exact x.2.2.1
theorem Air.base{h:Heap}(x:Air B l a cls a0 h):B.StaysIn h∧B.get? a=none:=by
 rcases x with x|⟨_,_,_,_,_,x⟩
 ·exact⟨x.1,x.2.1⟩
 ·exact⟨x.1,x.2.1⟩
theorem Air.data{h:Heap}(x:Air B l a cls a0 h):∃ oe vs,h.get? a=some oe∧oe.data = .fields vs:=by
 rcases x with⟨_,_,_,oe,vs,_,_,_,h1,_,h2,_⟩|⟨_,_,_,_,_,_,_,_,oe,vs,_,_,_,h1,_,h2,_⟩<;>exact⟨oe,vs,h1,h2⟩
end
noncomputable def XP(X:Cx)(mk:Bool)(EX:Value→Hp→Prop):Value→Shared→Prop:=fun e s' =>
 (mk=true∧∃ a cls h vs H',e = .ref a∧EX cls H'∧Heap.MadeExcOf h s'.heap a cls vs∧Inv X [] (Ic X) H' { s' with heap:=h }) ∨
 (∃ pins σ Hc sc a cls a0 H' B,Inv X pins σ Hc sc∧e = .ref a∧s'.os=sc.os∧AllBare s'.gens∧Un (frs X.stack) [] Hc H' sc.heap s'.heap∧HOk X.prog X.w H' s'.heap ∧
  X.base.StaysIn B∧Cov B sc.heap H' (frs X.stack) s'.heap∧Air B X.stack a cls a0 s'.heap∧EX cls H')
section
variable {P:Program} {w:World} {K:Nd} {mg:Str→Option Value} {base:Heap} {N:List Str} {qual:Str} {scope:Scope} {f:Addr} {cd:Value} {A:Around} {outer:List Env} {s:Shared} {H:Hp} {E:XK}
end
noncomputable def xN(x:Str):Value:=.str x 0
noncomputable def Km(X:Cx)(H₀:Hp)(Y:DXK):Value→Hp→Prop:=fun c H'=>KT H₀ H'∧∃(x:Str) (C:Addr) (M':Mem),c = .ref C∧X.mg x=some (.ref C)∧o9 X.K H' M'∧Y (xN x) M'
noncomputable abbrev Cx.ex'(X:Cx)(mk:Bool)(H₀:Hp)(Y:DXK):Cx:=X.wish (XP X mk (Km X H₀ Y))
section
variable {X:Cx} {mk:Bool} {H₀:Hp} {Y:DXK} {st:Stmt} {D9:List Stmt} {t u:DTS} {pos:Pos}
end
section
variable {P:Program} {w:World} {K:Nd} {mg:Str→Option Value} {base:Heap}
end
section
variable {X:Cx} {mk:Bool} {H₀:Hp} {Y:DXK} {pos cpos:Pos} {x:Str} {j:Nat} {ps:List Str} {sp:DSp} {p:Pos} {e:Expr} {es:List Expr} {t:DTA}
end
section
variable {X:Cx} {mk:Bool} {H₀:Hp} {Y:DXK} {pos:Pos} {e:Expr} {te:DTE}
end
section
variable {X:Cx} {mk:Bool} {EX:Value→Hp→Prop}
end
section
variable {X:Cx} {mk:Bool} {H₀:Hp} {Y:DXK} {pos:Pos} {c:Expr} {body:List Stmt} {tc:DTT} {tb:DTS}
end
section
variable {X:Cx} {H₀:Hp} {Y:DXK} {pos cpos np:Pos} {x:Str} {e₀:Expr} {te:DTE}
end
noncomputable abbrev Cx.pinned(X:Cx)(pn:List (Addr × Obj)):Cx:={ X with pn:=pn }
section
variable {X:Cx} {pins pn:List (Addr × Obj)} {σ:St} {H:Hp} {s:Shared}
end
section
variable {X:Cx} {body suite:List Stmt} {b0:Stmt} {c:Str} {np hpos pos:Pos} {tb:DXK→DTS} {ts:DTS}
end
section
variable {X:Cx} {body suite:List Stmt} {b0:Stmt} {c:Str} {np hpos pos:Pos} {tb:DXK→DTS} {ts:DTS}
end
end DL
namespace DL
open PySem PySem.Spec L2
def BlK(x:D)(M:Mem)(Q:Bool→Mem→Prop):Prop:=∃ k,x = .bl k∧Q k M
def IfK(c:Bool)(A B:Prop):Prop:=if c=true then A else B
def SzK(n:Nat)(A:Prop):Prop:=n≤sizeLine∧A
def Ji(i j:Nat)(ds:List D)(F:Y8)(e:Ev)(M:Mem):Prop:=∃ x y,ds=[x,y]∧F.nx ((e.set i (some x)).set j (some y)) M
def yR(x:D)(M:Mem)(Q:List D→(Mem→Prop)→Mem→Prop):Prop:=∃ ds,m9 M x ds∧Q ds (fun M'=>m9 M' x ds) M
def ze(xs:List D)(M:Mem)(Q:List D→(Mem→Prop)→Mem→Prop):Prop:=∃ x ds,xs=[x]∧m9 M x ds∧Q (P4 ds) (fun M'=>m9 M' x ds) M
def yP(xs:List D)(M:Mem)(Q:List D→(Mem→Prop)→Mem→Prop):Prop:=∃ x y ds es,xs=[x,y]∧m9 M x ds∧m9 M y es∧Q (bA ds es) (fun M'=>m9 M' x ds∧m9 M' y es) M
def Jh(xs:List D)(M:Mem)(Q:List D→(Mem→Prop)→Mem→Prop):Prop:=∃ j:Int,xs=[.int j]∧-(2 ^ 62)≤j∧j<2 ^ 62∧Q (G7 0 j.toNat) (fun _=>True) M
def Ed(xs:List D)(M:Mem)(Q:List D→(Mem→Prop)→Mem→Prop):Prop:=∃ i j:Int,xs=[.int i,.int j]∧(-(2 ^ 62)≤i∧i<2 ^ 62∧-(2 ^ 62)≤j∧j<2 ^ 62)∧Q (G7 i (j - i).toNat) (fun _=>True) M
def T1(g:DTG)(tb:DTS)(F:Y8)(ds:List D)(stay:Mem→Prop)(e:Ev)(M1:Mem):Prop:=∃ W:Nat→Ev→Mem→Prop,W 0 e M1∧(∀ i e M,i≤ds.length→W i e M→stay M) ∧
 (∀(i:Nat) (d:D) e M,ds[i]? = some d→W i e M→g d e M fun e2 M2=>tb { F with nx:=W (i+1),ct:=W (i+1),bk:=F.nx } e2 M2)∧∀ e M,W ds.length e M→F.nx e M
def yX(x:D)(M1:Mem)(R:DK):Prop:=∃ p ds,x = .ref p∧M1 p=some (.lst ds)∧R (.vl ds) (cH M1 p)
def Ee(x:D)(M:Mem)(Q:Option Int→Mem→Prop):Prop:=∃ i,x = .int i∧Q (some i) M
def GI(x:D)(M1:Mem)(R:DK):Prop:=∃ M2:Mem,(∀ b o,M2 b=some o→M1 b=some o)∧R x M2
def LMK(x:D)(M:Mem)(A:Prop):Prop:=(∃ l ds,x = .ref l∧M l=some (.lst ds))∧A
end DL
namespace DL
open PySem PySem.Spec L2
open PyProof.Rows hiding St
section
variable {e:Ev} {M:Mem} {R:DK} {F:Y8} {ta tb tc:DTE} {tA tB:DTT} {tr:DTA} {t u:DTS}
theorem z_C{d:D}:dC d e M R=R d M:=rfl
theorem Ho{g:DR2}:dOp g ta tb e M R=ta e M fun x M1=>tb e M1 fun y M2=>g x y M2 R:=rfl
theorem Hm{g:D→Mem→DK→Prop}:dUn g ta e M R=ta e M fun x M1=>g x M1 R:=rfl
theorem Hk{f:Int→Int→D}{i j:Int}:gF (fI f) (.int i) (.int j) M R=R (f i j) M:=propext ⟨fun zz=>by obtain⟨_,h,r⟩:=zz;cases h;exact r,fun r=>⟨_,rfl,r⟩⟩
theorem Hl{f:Bool→Bool→D}{i j:Bool}:gF (fB f) (.bl i) (.bl j) M R=R (f i j) M:=propext ⟨fun zz=>by obtain⟨_,h,r⟩:=zz;cases h;exact r,fun r=>⟨_,rfl,r⟩⟩
theorem Hj{f:Str→Str→D}{i j:Str}:gF (fS f) (.str i) (.str j) M R=R (f i j) M:=propext ⟨fun zz=>by obtain⟨_,h,r⟩:=zz;cases h;exact r,fun r=>⟨_,rfl,r⟩⟩
theorem Hi{C:Int→Int→Prop}{f:Int→Int→D}{i j:Int}:gI C f (.int i) (.int j) M R=(C i j∧R (f i j) M):=propext ⟨fun zz=>by obtain⟨_,_,h1,h2,c,r⟩:=zz;cases h1;cases h2;exact⟨c,r⟩,fun⟨c,r⟩=>⟨_,_,rfl,rfl,c,r⟩⟩
theorem Hh{f:Int→D}{i:Int}:gU f (.int i) M R=R (f i) M:=propext ⟨fun zz=>by obtain⟨_,h,r⟩:=zz;cases h;exact r,fun r=>⟨_,rfl,r⟩⟩
theorem uW{Q:Bool→Mem→Prop}:sN ta e M Q=ta e M fun x M'=>BlK x M' Q:=rfl
theorem Dt{b:Bool}{Q:Bool→Mem→Prop}:BlK (.bl b) M Q=Q b M:=propext ⟨fun zz=>by obtain⟨_,h,r⟩:=zz;cases h;exact r,fun r=>⟨_,rfl,r⟩⟩
theorem Dv{Q:Bool→Mem→Prop}:IT tA tB e M Q=tA e M fun c M1=>IfK c (tB e M1 Q) (Q false M1):=rfl
theorem Hn{Q:Bool→Mem→Prop}:dOr tA tB e M Q=tA e M fun c M1=>IfK c (Q true M1) (tB e M1 Q):=rfl
theorem Dc{Q:Bool→Mem→Prop}:IK tA e M Q=tA e M fun c M1=>Q (!c) M1:=rfl
theorem vy:DX ta tb e M R=ta e M fun x M1=>BlK x M1 fun c M1=>IfK c (tb e M1 R) (R (.bl false) M1):=rfl
theorem vg:DS ta e M R=ta e M fun x M1=>BlK x M1 fun c M1=>R (.bl (!c)) M1:=rfl
theorem Hr:dIf tA ta tb e M R=tA e M fun c M1=>IfK c (ta e M1 R) (tb e M1 R):=rfl
theorem Dk:IM tA t u F e M=tA e M fun c M1=>IfK c (t F e M1) (u F e M1):=rfl
theorem Dd{Q:List D→Mem→Prop}:Gp e M Q=Q [] M:=rfl
theorem vq{Q:List D→Mem→Prop}:sP ta tr e M Q=ta e M fun x M1=>tr e M1 fun xs M2=>Q (x :: xs) M2:=rfl
theorem CT:IF tr e M R=tr e M fun ds M1=>SzK ds.length (R (.tup ds) M1):=rfl
theorem Dh:IL tr e M R=tr e M fun ds M1=>SzK ds.length (∀ p,M1 p=none→R (.ref p) (C1 M1 p (.lst ds))):=rfl
theorem X9{x y z:D}(h:ixD M x y=some z):gIx x y M R=R z M:=propext ⟨fun zz=>by obtain⟨_,h',r⟩:=zz;rw[h]at h';cases h';exact r,fun r=>⟨_,h,r⟩⟩
theorem mz{neg:Bool}{x y:D}{b:Bool}(h:isD x y=some b):gIs neg x y M R=R (.bl (neg.xor b)) M:=propext ⟨fun zz=>by obtain⟨_,h',r⟩:=zz;rw[h]at h';cases h';exact r,fun r=>⟨_,h,r⟩⟩
theorem Ds{neg:Bool}{x y:D}:Gd neg x y M R=(cl 60 x=true∧cl 60 y=true∧R (.bl (neg.xor (@decide (x=y) (Classical.propDecidable _)))) M):=rfl
theorem vw{sp:DSp}{dds:List D}{Y:DXK}:oj sp dds Y tr e M R=tr e M fun ds M1=>sp (ds++dds) M1 R Y:=rfl
theorem Hs{g:DRC}:dCB g tr e M R=tr e M fun ds M1=>g ds M1 R:=rfl
theorem vh:DT F e M=F.nx e M:=rfl
theorem CV:Gm t u F e M=t { F with nx:=u F } e M:=rfl
theorem vn:DV ta F e M=ta e M fun _ M1=>F.nx e M1:=rfl
theorem CW:Gn ta F e M=ta e M F.rt:=rfl
theorem rn:yn F e M=False:=rfl
variable {Q:Ev→Mem→Prop}
theorem iR{i:Nat}{d:D}:bN i d e M Q=Q (e.set i (some d)) M:=rfl
theorem uV:DP [] e M Q=Q e M:=propext ⟨fun h=>h.2,fun h=>⟨rfl,h⟩⟩
theorem qT{g:DTG}{gs:W3}{d:D}{ds:List D}:yi g gs (d :: ds) e M Q=g d e M fun e' M'=>gs ds e' M' Q:=propext ⟨fun zz=>by obtain⟨_,_,h,r⟩:=zz;cases h;exact r,fun r=>⟨_,_,rfl,r⟩⟩
theorem mj{n:Nat}{gs:W3}{ds:List D}(h:ds.length=n):yh n gs (.vl ds) e M Q=gs ds e M Q:=propext ⟨fun zz=>by obtain⟨_,h',_,r⟩:=zz;cases h';exact r,fun r=>⟨_,rfl,h,r⟩⟩
theorem dZ{n:Nat}{gs:W3}{ds:List D}(h:ds.length=n):oi n gs (.tup ds) e M Q=gs ds e M Q:=propext ⟨fun zz=>by obtain⟨_,h',_,r⟩:=zz;cases h';exact r,fun r=>⟨_,rfl,h,r⟩⟩
theorem uU{to ti:DTE}{ts:zh}{d:D}:DO to ti ts d e M Q=to e M fun o M1=>ti e M1 fun i M2=>ts o i d M2 fun M3=>Q e M3:=rfl
theorem Du{g:DTG}:yq ta g F e M=ta e M fun x M1=>g x e M1 F.nx:=rfl
theorem CY{i j:Nat}:II i j tr F e M=tr e M fun ds M1=>Ji i j ds F e M1:=rfl
theorem vd{i j:Nat}{x y:D}:Ji i j [x,y] F e M=F.nx ((e.set i (some x)).set j (some y)) M:=propext ⟨fun zz=>by obtain⟨_,_,h,r⟩:=zz;cases h;exact r,fun r=>⟨_,_,rfl,r⟩⟩
theorem Dw{i:Int}:IB [.int i] M R=R (.int (i.natAbs:Int)) M:=propext ⟨fun zz=>by obtain⟨_,h,r⟩:=zz;cases h;exact r,fun r=>⟨_,rfl,r⟩⟩
theorem Dg{i j:Int}:Iy [.int i,.int j] M R=R (.int (max i j)) M:=propext ⟨fun zz=>by obtain⟨_,_,h,r⟩:=zz;cases h;exact r,fun r=>⟨_,_,rfl,r⟩⟩
theorem De{i j:Int}:Iw [.int i,.int j] M R=R (.int (min i j)) M:=propext ⟨fun zz=>by obtain⟨_,_,h,r⟩:=zz;cases h;exact r,fun r=>⟨_,_,rfl,r⟩⟩
theorem gZ{d:D}{n:Nat}(h:xr M d=some n):qc [d] M R=R (.int (n:Int)) M:=propext ⟨fun zz=>by obtain⟨_,_,h',h2,r⟩:=zz;cases h';rw[h]at h2;cases h2;exact r,fun r=>⟨_,_,rfl,h,r⟩⟩
theorem t4{d:D}{ty T:String}{b:Bool}(h1:tyD M d=some ty)(h2:Ay ty T=some b):B8 [d,.ty T] M R=R (.bl b) M:=propext ⟨fun zz=>by
 obtain⟨_,_,_,_,h,h1',h2',r⟩:=zz
 injection h with h h';subst h;injection h' with h';injection h' with h';subst h'
 rw[h1]at h1';cases h1';rw[h2]at h2';cases h2';exact r,fun r=>⟨_,_,_,_,rfl,h1,h2,r⟩⟩
theorem Dm{c:Bool}{A B:Prop}:IfK c A B=((c=true→A)∧(c=false→B)):=by cases c<;>simp[IfK]
theorem Dj{A B:Prop}:IfK true A B=A:=by simp[IfK]
theorem Dn{A B:Prop}:IfK false A B=B:=by simp[IfK]
theorem B3{n:Nat}{A:Prop}(h:n≤1000):SzK n A=A:=propext ⟨fun h=>h.2,fun a=>⟨sl n h,a⟩⟩
theorem GW{d:D}{r:Ev}:Y2 0 (some d :: r) M R=R d M:=propext ⟨fun zz=>by obtain⟨_,h,q⟩:=zz;cases h;exact q,fun q=>⟨_,rfl,q⟩⟩
theorem Hg{y z:Option D}{r:Ev}:(y :: r:Ev).set 0 z=z :: r:=rfl
theorem GV{x0:Option D}{d:D}{r:Ev}:Y2 1 (x0 :: some d :: r) M R=R d M:=propext ⟨fun zz=>by obtain⟨_,h,q⟩:=zz;cases h;exact q,fun q=>⟨_,rfl,q⟩⟩
theorem Ex{x0:Option D}{y z:Option D}{r:Ev}:(x0 :: y :: r:Ev).set 1 z=x0 :: z :: r:=rfl
theorem GU{x0 x1:Option D}{d:D}{r:Ev}:Y2 2 (x0 :: x1 :: some d :: r) M R=R d M:=propext ⟨fun zz=>by obtain⟨_,h,q⟩:=zz;cases h;exact q,fun q=>⟨_,rfl,q⟩⟩
theorem Hf{x0 x1:Option D}{y z:Option D}{r:Ev}:(x0 :: x1 :: y :: r:Ev).set 2 z=x0 :: x1 :: z :: r:=rfl
theorem GS{x0 x1 x2:Option D}{d:D}{r:Ev}:Y2 3 (x0 :: x1 :: x2 :: some d :: r) M R=R d M:=propext ⟨fun zz=>by obtain⟨_,h,q⟩:=zz;cases h;exact q,fun q=>⟨_,rfl,q⟩⟩
theorem He{x0 x1 x2:Option D}{y z:Option D}{r:Ev}:(x0 :: x1 :: x2 :: y :: r:Ev).set 3 z=x0 :: x1 :: x2 :: z :: r:=rfl
theorem GR{x0 x1 x2 x3:Option D}{d:D}{r:Ev}:Y2 4 (x0 :: x1 :: x2 :: x3 :: some d :: r) M R=R d M:=propext ⟨fun zz=>by obtain⟨_,h,q⟩:=zz;cases h;exact q,fun q=>⟨_,rfl,q⟩⟩
theorem Hd{x0 x1 x2 x3:Option D}{y z:Option D}{r:Ev}:(x0 :: x1 :: x2 :: x3 :: y :: r:Ev).set 4 z=x0 :: x1 :: x2 :: x3 :: z :: r:=rfl
theorem GQ{x0 x1 x2 x3 x4:Option D}{d:D}{r:Ev}:Y2 5 (x0 :: x1 :: x2 :: x3 :: x4 :: some d :: r) M R=R d M:=propext ⟨fun zz=>by obtain⟨_,h,q⟩:=zz;cases h;exact q,fun q=>⟨_,rfl,q⟩⟩
theorem Hb{x0 x1 x2 x3 x4:Option D}{y z:Option D}{r:Ev}:(x0 :: x1 :: x2 :: x3 :: x4 :: y :: r:Ev).set 5 z=x0 :: x1 :: x2 :: x3 :: x4 :: z :: r:=rfl
theorem GP{x0 x1 x2 x3 x4 x5:Option D}{d:D}{r:Ev}:Y2 6 (x0 :: x1 :: x2 :: x3 :: x4 :: x5 :: some d :: r) M R=R d M:=propext ⟨fun zz=>by obtain⟨_,h,q⟩:=zz;cases h;exact q,fun q=>⟨_,rfl,q⟩⟩
theorem Ha{x0 x1 x2 x3 x4 x5:Option D}{y z:Option D}{r:Ev}:(x0 :: x1 :: x2 :: x3 :: x4 :: x5 :: y :: r:Ev).set 6 z=x0 :: x1 :: x2 :: x3 :: x4 :: x5 :: z :: r:=rfl
theorem GO{x0 x1 x2 x3 x4 x5 x6:Option D}{d:D}{r:Ev}:Y2 7 (x0 :: x1 :: x2 :: x3 :: x4 :: x5 :: x6 :: some d :: r) M R=R d M:=propext ⟨fun zz=>by obtain⟨_,h,q⟩:=zz;cases h;exact q,fun q=>⟨_,rfl,q⟩⟩
theorem GZ{x0 x1 x2 x3 x4 x5 x6:Option D}{y z:Option D}{r:Ev}:(x0 :: x1 :: x2 :: x3 :: x4 :: x5 :: x6 :: y :: r:Ev).set 7 z=x0 :: x1 :: x2 :: x3 :: x4 :: x5 :: x6 :: z :: r:=rfl
theorem GN{x0 x1 x2 x3 x4 x5 x6 x7:Option D}{d:D}{r:Ev}:Y2 8 (x0 :: x1 :: x2 :: x3 :: x4 :: x5 :: x6 :: x7 :: some d :: r) M R=R d M:=propext ⟨fun zz=>by obtain⟨_,h,q⟩:=zz;cases h;exact q,fun q=>⟨_,rfl,q⟩⟩
theorem GY{x0 x1 x2 x3 x4 x5 x6 x7:Option D}{y z:Option D}{r:Ev}:(x0 :: x1 :: x2 :: x3 :: x4 :: x5 :: x6 :: x7 :: y :: r:Ev).set 8 z=x0 :: x1 :: x2 :: x3 :: x4 :: x5 :: x6 :: x7 :: z :: r:=rfl
theorem GL{x0 x1 x2 x3 x4 x5 x6 x7 x8:Option D}{d:D}{r:Ev}:Y2 9 (x0 :: x1 :: x2 :: x3 :: x4 :: x5 :: x6 :: x7 :: x8 :: some d :: r) M R=R d M:=propext ⟨fun zz=>by obtain⟨_,h,q⟩:=zz;cases h;exact q,fun q=>⟨_,rfl,q⟩⟩
theorem GX{x0 x1 x2 x3 x4 x5 x6 x7 x8:Option D}{y z:Option D}{r:Ev}:(x0 :: x1 :: x2 :: x3 :: x4 :: x5 :: x6 :: x7 :: x8 :: y :: r:Ev).set 9 z=x0 :: x1 :: x2 :: x3 :: x4 :: x5 :: x6 :: x7 :: x8 :: z :: r:=rfl
theorem CA{x0 x1 x2 x3 x4 x5 x6 x7 x8 x9:Option D}{d:D}{r:Ev}:Y2 10 (x0 :: x1 :: x2 :: x3 :: x4 :: x5 :: x6 :: x7 :: x8 :: x9 :: some d :: r) M R=R d M:=propext ⟨fun zz=>by obtain⟨_,h,q⟩:=zz;cases h;exact q,fun q=>⟨_,rfl,q⟩⟩
theorem CQ{x0 x1 x2 x3 x4 x5 x6 x7 x8 x9:Option D}{y z:Option D}{r:Ev}:(x0 :: x1 :: x2 :: x3 :: x4 :: x5 :: x6 :: x7 :: x8 :: x9 :: y :: r:Ev).set 10 z=x0 :: x1 :: x2 :: x3 :: x4 :: x5 :: x6 :: x7 :: x8 :: x9 :: z :: r:=rfl
theorem Cz{x0 x1 x2 x3 x4 x5 x6 x7 x8 x9 x10:Option D}{d:D}{r:Ev}:Y2 11 (x0 :: x1 :: x2 :: x3 :: x4 :: x5 :: x6 :: x7 :: x8 :: x9 :: x10 :: some d :: r) M R=R d M:=propext ⟨fun zz=>by obtain⟨_,h,q⟩:=zz;cases h;exact q,fun q=>⟨_,rfl,q⟩⟩
theorem CO{x0 x1 x2 x3 x4 x5 x6 x7 x8 x9 x10:Option D}{y z:Option D}{r:Ev}:(x0 :: x1 :: x2 :: x3 :: x4 :: x5 :: x6 :: x7 :: x8 :: x9 :: x10 :: y :: r:Ev).set 11 z=x0 :: x1 :: x2 :: x3 :: x4 :: x5 :: x6 :: x7 :: x8 :: x9 :: x10 :: z :: r:=rfl
theorem Cy{x0 x1 x2 x3 x4 x5 x6 x7 x8 x9 x10 x11:Option D}{d:D}{r:Ev}:Y2 12 (x0 :: x1 :: x2 :: x3 :: x4 :: x5 :: x6 :: x7 :: x8 :: x9 :: x10 :: x11 :: some d :: r) M R=R d M:=propext ⟨fun zz=>by obtain⟨_,h,q⟩:=zz;cases h;exact q,fun q=>⟨_,rfl,q⟩⟩
theorem CN{x0 x1 x2 x3 x4 x5 x6 x7 x8 x9 x10 x11:Option D}{y z:Option D}{r:Ev}:(x0 :: x1 :: x2 :: x3 :: x4 :: x5 :: x6 :: x7 :: x8 :: x9 :: x10 :: x11 :: y :: r:Ev).set 12 z=x0 :: x1 :: x2 :: x3 :: x4 :: x5 :: x6 :: x7 :: x8 :: x9 :: x10 :: x11 :: z :: r:=rfl
theorem v6{M:Mem}{ds es:List D}:m9 M (.tup ds) es=(es=ds):=by
 apply propext
 constructor
 ·intro h
  rcases h with h|⟨_,h,_⟩|h
  ·injection h with h;exact h.symm
  ·exact absurd h (by intro z;cases z)
  ·exact absurd h (by intro z;cases z)
 ·intro h;exact .inl (by rw[h])
theorem t7{M:Mem}{ds es:List D}:m9 M (.vl ds) es=(es=ds):=by
 apply propext
 constructor
 ·intro h
  rcases h with h|⟨_,h,_⟩|h
  ·exact absurd h (by intro z;cases z)
  ·exact absurd h (by intro z;cases z)
  ·injection h with h;exact h.symm
 ·intro h;exact .inr (.inr (by rw[h]))
theorem u8{ds:List D}{n:Nat}{d:D}(h:ds[n]? = some d):atI ds (n:Int)=some d:=by
 obtain⟨hl,_⟩:=Nw.mp h
 unfold atI ixN
 rw[if_pos (Int.natCast_nonneg n),if_pos (by omega)]
 simpa using h
theorem vj:DU tr e M R=tr e M fun ds M1=>SzK ds.length (R (.vl ds) M1):=rfl
theorem vt:DW ta tb e M R=ta e M fun x M1=>tb e M1 fun y M2=>xR x y M2 R:=rfl
theorem CU{tl th:DTO}:IG ta tl th e M R=ta e M fun x M1=>tl e M1 fun l M2=>th e M2 fun u M3=>xO x l u M3 R:=rfl
theorem my{Q:Option Int→Mem→Prop}:sO e M Q=Q none M:=rfl
theorem vc{Q:Option Int→Mem→Prop}:DR ta e M Q=ta e M fun x M1=>Ee x M1 Q:=rfl
theorem rk{i:Int}{Q:Option Int→Mem→Prop}:Ee (.int i) M Q=Q (some i) M:=propext ⟨fun zz=>by obtain⟨_,h,r⟩:=zz;cases h;exact r,fun r=>⟨_,rfl,r⟩⟩
theorem rp:yo tr e M R=tr e M fun ds M1=>kM ds M1 R:=rfl
theorem ml{ds:List D}:kM [.tup ds] M R=R (.vl ds) M:=propext ⟨fun zz=>by obtain⟨_,_,h,h2,r⟩:=zz;cases h;rw[v6]at h2;subst h2;exact r,fun r=>⟨_,_,rfl,.inl rfl,r⟩⟩
theorem gY{ds:List D}:kM [.vl ds] M R=R (.vl ds) M:=propext ⟨fun zz=>by obtain⟨_,_,h,h2,r⟩:=zz;cases h;rw[t7]at h2;subst h2;exact r,fun r=>⟨_,_,rfl,.inr (.inr rfl),r⟩⟩
theorem mi{ds:List D}:DG [.vl ds] M R=R (.tup ds) M:=propext ⟨fun zz=>by obtain⟨_,_,h,h2,r⟩:=zz;cases h;cases h2;exact r,fun r=>⟨_,_,rfl,rfl,r⟩⟩
theorem mq{xs ys:List D}:xR (.vl xs) (.vl ys) M R=SzK (xs.length+ys.length) (R (.vl (xs++ys)) M):=propext ⟨fun zz=>by obtain⟨_,_,h,h2,z,r⟩:=zz;cases h;cases h2;exact⟨z,r⟩,fun⟨z,r⟩=>⟨_,_,rfl,rfl,z,r⟩⟩
theorem qS{xs:List D}{lo hi:Option Int}:xO (.vl xs) lo hi M R=R (.vl (O4 xs lo hi)) M:=propext ⟨fun h=>by
 rcases h with⟨_,h,r⟩|⟨_,h,_⟩
 ·cases h;exact r
 ·exact(nomatch h),fun r=>.inl ⟨_,rfl,r⟩⟩
theorem qR{xs:List D}{lo hi:Option Int}:xO (.tup xs) lo hi M R=(¬ (HT.sIx xs.length 0 lo=0∧HT.sIx xs.length xs.length hi=xs.length)∧R (.tup (O4 xs lo hi)) M):=propext ⟨fun h=>by
 rcases h with⟨_,h,r⟩|⟨_,h,hw,r⟩
 ·cases h
 ·cases h;exact⟨hw,r⟩,fun⟨hw,r⟩=>.inr ⟨_,rfl,hw,r⟩⟩
theorem Dp:IP ta e M R=ta e M fun x M1=>yX x M1 R:=rfl
theorem iT{p:Addr}{ds:List D}(h:M p=some (.lst ds)):yX (.ref p) M R=R (.vl ds) (cH M p):=propext ⟨fun zz=>by obtain⟨_,_,e,h',r⟩:=zz;cases e;rw[h]at h';cases h';exact r,fun r=>⟨_,_,rfl,h,r⟩⟩
theorem rA{n:Nat}{caps:List Nat}{ti:DTI}{g:DTG}{tc:S9}{te:DTE}:qe n caps ti g tc te e M R=ti e M fun ds stay M1=>zk (gk n caps e) g tc te ds stay M1 R:=rfl
theorem rB{n:Nat}{caps:List Nat}{ti:DTI}{g:DTG}{tc:S9}{te:DTE}:yp n caps ti g tc te e M R=ti e M fun ds stay M1=>Ej (gk n caps e) g tc te ds stay M1 R:=rfl
theorem CS{Q:Bool→Mem→Prop}:Cg e M Q=Q true M:=rfl
section
variable {Q:List D→(Mem→Prop)→Mem→Prop}
theorem qV:DM ta e M Q=ta e M fun x M1=>yR x M1 Q:=rfl
theorem uY{ds:List D}:yR (.tup ds) M Q=Q ds (fun M'=>m9 M' (.tup ds) ds) M:=propext ⟨fun zz=>by obtain⟨_,h,r⟩:=zz;rw[v6]at h;subst h;exact r,fun r=>⟨_,.inl rfl,r⟩⟩
theorem uX{ds:List D}:yR (.vl ds) M Q=Q ds (fun M'=>m9 M' (.vl ds) ds) M:=propext ⟨fun zz=>by obtain⟨_,h,r⟩:=zz;rw[t7]at h;subst h;exact r,fun r=>⟨_,.inr (.inr rfl),r⟩⟩
theorem mx:yg tr e M Q=tr e M fun xs M1=>ze xs M1 Q:=rfl
theorem rz{ds:List D}:ze [.tup ds] M Q=Q (P4 ds) (fun M'=>m9 M' (.tup ds) ds) M:=propext ⟨fun zz=>by obtain⟨_,_,h,h2,r⟩:=zz;cases h;rw[v6]at h2;subst h2;exact r,fun r=>⟨_,_,rfl,.inl rfl,r⟩⟩
theorem rq{ds:List D}:ze [.vl ds] M Q=Q (P4 ds) (fun M'=>m9 M' (.vl ds) ds) M:=propext ⟨fun zz=>by obtain⟨_,_,h,h2,r⟩:=zz;cases h;rw[t7]at h2;subst h2;exact r,fun r=>⟨_,_,rfl,.inr (.inr rfl),r⟩⟩
theorem qU:DJ tr e M Q=tr e M fun xs M1=>yP xs M1 Q:=rfl
theorem rd{ds es:List D}:yP [.tup ds,.tup es] M Q=Q (bA ds es) (fun M'=>m9 M' (.tup ds) ds∧m9 M' (.tup es) es) M:=propext ⟨fun zz=>by obtain⟨_,_,_,_,h,h2,h3,r⟩:=zz;cases h;rw[v6]at h2 h3;subst h2;subst h3;exact r,fun r=>⟨_,_,_,_,rfl,.inl rfl,.inl rfl,r⟩⟩
theorem qX{ds es:List D}:yP [.vl ds,.vl es] M Q=Q (bA ds es) (fun M'=>m9 M' (.vl ds) ds∧m9 M' (.vl es) es) M:=propext ⟨fun zz=>by obtain⟨_,_,_,_,h,h2,h3,r⟩:=zz;cases h;rw[t7]at h2 h3;subst h2;subst h3;exact r,fun r=>⟨_,_,_,_,rfl,.inr (.inr rfl),.inr (.inr rfl),r⟩⟩
theorem qZ{ds es:List D}:yP [.tup ds,.vl es] M Q=Q (bA ds es) (fun M'=>m9 M' (.tup ds) ds∧m9 M' (.vl es) es) M:=propext ⟨fun zz=>by obtain⟨_,_,_,_,h,h2,h3,r⟩:=zz;cases h;rw[v6]at h2;rw[t7]at h3;subst h2;subst h3;exact r,fun r=>⟨_,_,_,_,rfl,.inl rfl,.inr (.inr rfl),r⟩⟩
theorem qY{ds es:List D}:yP [.vl ds,.tup es] M Q=Q (bA ds es) (fun M'=>m9 M' (.vl ds) ds∧m9 M' (.tup es) es) M:=propext ⟨fun zz=>by obtain⟨_,_,_,_,h,h2,h3,r⟩:=zz;cases h;rw[t7]at h2;rw[v6]at h3;subst h2;subst h3;exact r,fun r=>⟨_,_,_,_,rfl,.inr (.inr rfl),.inl rfl,r⟩⟩
theorem qW:DN tr e M Q=tr e M fun xs M1=>Jh xs M1 Q:=rfl
theorem uZ{j:Int}:Jh [.int j] M Q=((-(2 ^ 62)≤j∧j<2 ^ 62)∧Q (G7 0 j.toNat) (fun _=>True) M):=propext ⟨fun zz=>by obtain⟨_,h,a,b,r⟩:=zz;cases h;exact⟨⟨a,b⟩,r⟩,fun⟨⟨a,b⟩,r⟩=>⟨_,rfl,a,b,r⟩⟩
theorem mw:yf tr e M Q=tr e M fun xs M1=>Ed xs M1 Q:=rfl
theorem rj{i j:Int}:Ed [.int i,.int j] M Q=((-(2 ^ 62)≤i∧i<2 ^ 62∧-(2 ^ 62)≤j∧j<2 ^ 62)∧Q (G7 i (j - i).toNat) (fun _=>True) M):=propext ⟨fun zz=>by obtain⟨_,_,h,a,r⟩:=zz;cases h;exact⟨a,r⟩,fun⟨a,r⟩=>⟨_,_,rfl,a,r⟩⟩
end
theorem Dq{ti:DTI}{g:DTG}:IQ ti g t F e M=ti e M fun ds stay M1=>T1 g t F ds stay e M1:=rfl
theorem T1.by{g:DTG}{ds:List D}{stay:Mem→Prop}{M1:Mem}(W:Nat→Ev→Mem→Prop)(w0:W 0 e M1)(st:∀ i e M,i≤ds.length→W i e M→stay M)
  (turn:∀(i:Nat) (d:D) e M,ds[i]? = some d→W i e M→g d e M fun e2 M2=>t { F with nx:=W (i+1),ct:=W (i+1),bk:=F.nx } e2 M2) (done:∀ e M,W ds.length e M→F.nx e M):T1 g t F ds stay e M1:=⟨W,w0,st,turn,done⟩
theorem sV{F:Y8}(W:Nat→Ev→Mem→Prop)(m:Nat)(w0:W m e M)(turn:∀ m e M,W m e M→tA e M fun b M1=>IfK b (t { F with nx:=fun e' M'=>∃ m',m'<m∧W m' e' M',ct:=fun e' M'=>∃ m',m'<m∧W m' e' M',bk:=F.nx } e M1) (F.nx e M1)):yk tA t F e M:=⟨W,⟨m,w0⟩,turn⟩
theorem bR{F:Y8}(P:Ev→Mem→Prop)(h1:t { F with nx:=P } e M)(h2:∀ e' M',P e' M'→u F e' M'):DQ t u F e M:=⟨P,h1,h2⟩
theorem Hq{g:DRM}:dLM g ta tr e M R=ta e M fun x M1=>LMK x M1 (tr e M1 fun xs M2=>g x xs M2 R):=rfl
theorem Z0{x0:D}{r:List D}:gIx (.tup (x0 :: r)) (.int 0) M R=R x0 M:=X9 (u8 (n:=0) rfl)
theorem uO{x0:D}{r:List D}:gIx (.vl (x0 :: r)) (.int 0) M R=R x0 M:=X9 (u8 (n:=0) rfl)
theorem Y9{x0 x1:D}{r:List D}:gIx (.tup (x0 :: x1 :: r)) (.int 1) M R=R x1 M:=X9 (u8 (n:=1) rfl)
theorem uN{x0 x1:D}{r:List D}:gIx (.vl (x0 :: x1 :: r)) (.int 1) M R=R x1 M:=X9 (u8 (n:=1) rfl)
theorem iQ{x0 x1 x2:D}{r:List D}:gIx (.tup (x0 :: x1 :: x2 :: r)) (.int 2) M R=R x2 M:=X9 (u8 (n:=2) rfl)
theorem uM{x0 x1 x2:D}{r:List D}:gIx (.vl (x0 :: x1 :: x2 :: r)) (.int 2) M R=R x2 M:=X9 (u8 (n:=2) rfl)
theorem uT{x0 x1 x2 x3:D}{r:List D}:gIx (.tup (x0 :: x1 :: x2 :: x3 :: r)) (.int 3) M R=R x3 M:=X9 (u8 (n:=3) rfl)
theorem uL{x0 x1 x2 x3:D}{r:List D}:gIx (.vl (x0 :: x1 :: x2 :: x3 :: r)) (.int 3) M R=R x3 M:=X9 (u8 (n:=3) rfl)
theorem uS{x0 x1 x2 x3 x4:D}{r:List D}:gIx (.tup (x0 :: x1 :: x2 :: x3 :: x4 :: r)) (.int 4) M R=R x4 M:=X9 (u8 (n:=4) rfl)
theorem uK{x0 x1 x2 x3 x4:D}{r:List D}:gIx (.vl (x0 :: x1 :: x2 :: x3 :: x4 :: r)) (.int 4) M R=R x4 M:=X9 (u8 (n:=4) rfl)
theorem uR{x0 x1 x2 x3 x4 x5:D}{r:List D}:gIx (.tup (x0 :: x1 :: x2 :: x3 :: x4 :: x5 :: r)) (.int 5) M R=R x5 M:=X9 (u8 (n:=5) rfl)
theorem uJ{x0 x1 x2 x3 x4 x5:D}{r:List D}:gIx (.vl (x0 :: x1 :: x2 :: x3 :: x4 :: x5 :: r)) (.int 5) M R=R x5 M:=X9 (u8 (n:=5) rfl)
theorem uQ{x0 x1 x2 x3 x4 x5 x6:D}{r:List D}:gIx (.tup (x0 :: x1 :: x2 :: x3 :: x4 :: x5 :: x6 :: r)) (.int 6) M R=R x6 M:=X9 (u8 (n:=6) rfl)
theorem uI{x0 x1 x2 x3 x4 x5 x6:D}{r:List D}:gIx (.vl (x0 :: x1 :: x2 :: x3 :: x4 :: x5 :: x6 :: r)) (.int 6) M R=R x6 M:=X9 (u8 (n:=6) rfl)
theorem uP{x0 x1 x2 x3 x4 x5 x6 x7:D}{r:List D}:gIx (.tup (x0 :: x1 :: x2 :: x3 :: x4 :: x5 :: x6 :: x7 :: r)) (.int 7) M R=R x7 M:=X9 (u8 (n:=7) rfl)
theorem uH{x0 x1 x2 x3 x4 x5 x6 x7:D}{r:List D}:gIx (.vl (x0 :: x1 :: x2 :: x3 :: x4 :: x5 :: x6 :: x7 :: r)) (.int 7) M R=R x7 M:=X9 (u8 (n:=7) rfl)
theorem CM{A:Prop}:SzK (0) A=A:=B3 (by decide)
theorem CL{A:Prop}:SzK (0+1) A=A:=B3 (by decide)
theorem CK{A:Prop}:SzK (0+1+1) A=A:=B3 (by decide)
theorem CJ{A:Prop}:SzK (0+1+1+1) A=A:=B3 (by decide)
theorem CI{A:Prop}:SzK (0+1+1+1+1) A=A:=B3 (by decide)
theorem CH{A:Prop}:SzK (0+1+1+1+1+1) A=A:=B3 (by decide)
theorem CG{A:Prop}:SzK (0+1+1+1+1+1+1) A=A:=B3 (by decide)
theorem CF{A:Prop}:SzK (0+1+1+1+1+1+1+1) A=A:=B3 (by decide)
theorem CD{A:Prop}:SzK (0+1+1+1+1+1+1+1+1) A=A:=B3 (by decide)
theorem CC{A:Prop}:SzK (0+1+1+1+1+1+1+1+1+1) A=A:=B3 (by decide)
theorem Am{i:Int}:cl 60 (.int i)=true:=rfl
theorem Ag:cl 60 .non=true:=rfl
theorem zW{ds:List D}:cl 60 (.tup ds)=clL 59 ds:=rfl
theorem zQ{ds:List D}:cl 60 (.vl ds)=clL 59 ds:=rfl
theorem zx:clL 59 []=true:=rfl
theorem zK{d:D}{r:List D}:clL 59 (d :: r)=(cl 59 d && clL 59 r):=rfl
theorem An{i:Int}:cl 59 (.int i)=true:=rfl
theorem Ah:cl 59 .non=true:=rfl
theorem zX{ds:List D}:cl 59 (.tup ds)=clL 58 ds:=rfl
theorem zR{ds:List D}:cl 59 (.vl ds)=clL 58 ds:=rfl
theorem zy:clL 58 []=true:=rfl
theorem zL{d:D}{r:List D}:clL 58 (d :: r)=(cl 58 d && clL 58 r):=rfl
theorem Ao{i:Int}:cl 58 (.int i)=true:=rfl
theorem Ai:cl 58 .non=true:=rfl
theorem zY{ds:List D}:cl 58 (.tup ds)=clL 57 ds:=rfl
theorem zS{ds:List D}:cl 58 (.vl ds)=clL 57 ds:=rfl
theorem zF:clL 57 []=true:=rfl
theorem zM{d:D}{r:List D}:clL 57 (d :: r)=(cl 57 d && clL 57 r):=rfl
theorem Ap{i:Int}:cl 57 (.int i)=true:=rfl
theorem Aj:cl 57 .non=true:=rfl
theorem zZ{ds:List D}:cl 57 (.tup ds)=clL 56 ds:=rfl
theorem zT{ds:List D}:cl 57 (.vl ds)=clL 56 ds:=rfl
theorem zH:clL 56 []=true:=rfl
theorem zN{d:D}{r:List D}:clL 56 (d :: r)=(cl 56 d && clL 56 r):=rfl
theorem Aq{i:Int}:cl 56 (.int i)=true:=rfl
theorem Ak:cl 56 .non=true:=rfl
theorem Aa{ds:List D}:cl 56 (.tup ds)=clL 55 ds:=rfl
theorem zU{ds:List D}:cl 56 (.vl ds)=clL 55 ds:=rfl
theorem zI:clL 55 []=true:=rfl
theorem zO{d:D}{r:List D}:clL 55 (d :: r)=(cl 55 d && clL 55 r):=rfl
theorem Ar{i:Int}:cl 55 (.int i)=true:=rfl
theorem Al:cl 55 .non=true:=rfl
theorem Ab{ds:List D}:cl 55 (.tup ds)=clL 54 ds:=rfl
theorem zV{ds:List D}:cl 55 (.vl ds)=clL 54 ds:=rfl
theorem zJ:clL 54 []=true:=rfl
theorem zP{d:D}{r:List D}:clL 54 (d :: r)=(cl 54 d && clL 54 r):=rfl
theorem vk{xs:List D}:qc [.vl xs] M R=R (.int (xs.length:Int)) M:=gZ rfl
theorem vm{xs:List D}:qc [.tup xs] M R=R (.int (xs.length:Int)) M:=gZ rfl
theorem Ew{A:Prop}:SzK 1 A=A:=B3 (by decide)
theorem Eu{A:Prop}:SzK 2 A=A:=B3 (by decide)
theorem Et{A:Prop}:SzK 3 A=A:=B3 (by decide)
theorem Es{A:Prop}:SzK 4 A=A:=B3 (by decide)
theorem Er{A:Prop}:SzK 5 A=A:=B3 (by decide)
theorem Ep{A:Prop}:SzK 6 A=A:=B3 (by decide)
theorem Eo{A:Prop}:SzK 7 A=A:=B3 (by decide)
theorem En{A:Prop}:SzK 8 A=A:=B3 (by decide)
theorem Em{A:Prop}:SzK 9 A=A:=B3 (by decide)
theorem zw{A:Prop}:SzK 10 A=A:=B3 (by decide)
theorem zv{A:Prop}:SzK 11 A=A:=B3 (by decide)
theorem zu{A:Prop}:SzK 12 A=A:=B3 (by decide)
theorem vz{bs:List Bool}:xS [.vl (bs.map D.bl)] M R=R (.bl (bs.all id)) M:=propext ⟨fun zz=>by
 obtain⟨_,bs',e,h,r⟩:=zz
 cases e
 have e2:bs.map D.bl=bs'.map D.bl:=Option.some.inj h
 have e3:bs=bs':=(Oh (fun a b z=>by injection z)).mp e2
 subst e3;exact r,fun r=>⟨_,bs,rfl,rfl,r⟩⟩
theorem vx{bs:List Bool}:Ge [.vl (bs.map D.bl)] M R=R (.bl (bs.any id)) M:=propext ⟨fun zz=>by
 obtain⟨_,bs',e,h,r⟩:=zz
 cases e
 have e2:bs.map D.bl=bs'.map D.bl:=Option.some.inj h
 have e3:bs=bs':=(Oh (fun a b z=>by injection z)).mp e2
 subst e3;exact r,fun r=>⟨_,bs,rfl,rfl,r⟩⟩
theorem bZ:B8 [.dic,.ty "tuple"] M R=R (.bl false) M:=t4 rfl rfl
theorem dU:B8 [.dic,.ty "list"] M R=R (.bl false) M:=t4 rfl rfl
theorem gT:B8 [.dic,.ty "int"] M R=R (.bl false) M:=t4 rfl rfl
theorem dW:B8 [.dic,.ty "bool"] M R=R (.bl false) M:=t4 rfl rfl
theorem gR:B8 [.dic,.ty "str"] M R=R (.bl false) M:=t4 rfl rfl
theorem bV{ds:List D}:B8 [.tup ds,.ty "tuple"] M R=R (.bl true) M:=t4 rfl rfl
theorem dJ{ds:List D}:B8 [.tup ds,.ty "list"] M R=R (.bl false) M:=t4 rfl rfl
theorem gK{ds:List D}:B8 [.tup ds,.ty "int"] M R=R (.bl false) M:=t4 rfl rfl
theorem dM{ds:List D}:B8 [.tup ds,.ty "bool"] M R=R (.bl false) M:=t4 rfl rfl
theorem gJ{ds:List D}:B8 [.tup ds,.ty "str"] M R=R (.bl false) M:=t4 rfl rfl
theorem bU{ds:List D}:B8 [.vl ds,.ty "tuple"] M R=R (.bl false) M:=t4 rfl rfl
theorem dH{ds:List D}:B8 [.vl ds,.ty "list"] M R=R (.bl true) M:=t4 rfl rfl
theorem gH{ds:List D}:B8 [.vl ds,.ty "int"] M R=R (.bl false) M:=t4 rfl rfl
theorem dI{ds:List D}:B8 [.vl ds,.ty "bool"] M R=R (.bl false) M:=t4 rfl rfl
theorem gG{ds:List D}:B8 [.vl ds,.ty "str"] M R=R (.bl false) M:=t4 rfl rfl
theorem bY{i:Int}:B8 [.int i,.ty "tuple"] M R=R (.bl false) M:=t4 rfl rfl
theorem dR{i:Int}:B8 [.int i,.ty "list"] M R=R (.bl false) M:=t4 rfl rfl
theorem gQ{i:Int}:B8 [.int i,.ty "int"] M R=R (.bl true) M:=t4 rfl rfl
theorem dS{i:Int}:B8 [.int i,.ty "bool"] M R=R (.bl false) M:=t4 rfl rfl
theorem gP{i:Int}:B8 [.int i,.ty "str"] M R=R (.bl false) M:=t4 rfl rfl
theorem bX:B8 [.non,.ty "tuple"] M R=R (.bl false) M:=t4 rfl rfl
theorem dP:B8 [.non,.ty "list"] M R=R (.bl false) M:=t4 rfl rfl
theorem gO:B8 [.non,.ty "int"] M R=R (.bl false) M:=t4 rfl rfl
theorem dQ:B8 [.non,.ty "bool"] M R=R (.bl false) M:=t4 rfl rfl
theorem gN:B8 [.non,.ty "str"] M R=R (.bl false) M:=t4 rfl rfl
theorem bW{x:Str}:B8 [.str x,.ty "tuple"] M R=R (.bl false) M:=t4 rfl rfl
theorem dN{x:Str}:B8 [.str x,.ty "list"] M R=R (.bl false) M:=t4 rfl rfl
theorem gM{x:Str}:B8 [.str x,.ty "int"] M R=R (.bl false) M:=t4 rfl rfl
theorem dO{x:Str}:B8 [.str x,.ty "bool"] M R=R (.bl false) M:=t4 rfl rfl
theorem gL{x:Str}:B8 [.str x,.ty "str"] M R=R (.bl true) M:=t4 rfl rfl
theorem cf{b:Bool}:B8 [.bl b,.ty "tuple"] M R=R (.bl false) M:=t4 rfl rfl
theorem dX{b:Bool}:B8 [.bl b,.ty "list"] M R=R (.bl false) M:=t4 rfl rfl
theorem gX{b:Bool}:B8 [.bl b,.ty "int"] M R=R (.bl true) M:=t4 rfl rfl
theorem dY{b:Bool}:B8 [.bl b,.ty "bool"] M R=R (.bl true) M:=t4 rfl rfl
theorem gW{b:Bool}:B8 [.bl b,.ty "str"] M R=R (.bl false) M:=t4 rfl rfl
theorem Dr:IS ta e M R=ta e M fun x M1=>GI x M1 R:=rfl
theorem J2{x:D}{ds:List D}{Q:List D→(Mem→Prop)→Mem→Prop}(h:m9 M x ds)(r:Q ds (fun M'=>m9 M' x ds) M):yR x M Q:=⟨ds,h,r⟩
theorem fq{l:Addr}{ds:List D}{A:Prop}(h:M l=some (.lst ds))(a:A):LMK (.ref l) M A:=⟨⟨l,ds,rfl,h⟩,a⟩
theorem fA{l:Addr}{ds:List D}{v:D}(h:M l=some (.lst ds))(hz:ds.length<1000)(r:R .non (C1 M l (.lst (ds++[v])))):sF (.ref l) [v] M R:=⟨l,ds,v,rfl,rfl,h,Nf hz (by decide),r⟩
theorem Cu{p:Addr}{ds:List D}{j:Nat}{v:D}{Q:Mem→Prop}(h:M p=some (.lst ds))(hj:j<ds.length)(r:Q (C1 M p (.lst (ds.set j v)))):DH (.ref p) (.int (j:Int)) v M Q:=⟨p,ds,j,j,rfl,rfl,h,by unfold ixN;rw[if_pos (by omega),if_pos (by omega)];rfl,r⟩
theorem kG{α:Type}{xs ys:List α}(h:xs.map some=ys.map some):xs=ys:=(Oh (fun a b z=>Option.some.inj z)).mp h
theorem sv(a b c:Str):inV (.str a) [.str b,.str c]=(b == a || c == a):=by
 show((b == a) || ((c == a) || false))=_
 rw[RS]
theorem Di{neg:Bool}{a b c:Str}:gIn neg (.str a) (.vl [.str b,.str c]) M R=R (.bl (if neg then !(b == a || c == a)else(b == a || c == a))) M:=propext ⟨fun zz=>by
 obtain⟨v,ds,ws,e1,sq,e2,r⟩:=zz
 cases e1
 rw[t7]at sq
 subst sq
 have e3:ws=[.str b,.str c]:=(kG (xs:=[V.str b,V.str c]) e2).symm
 subst e3
 rw[sv]at r;exact r,fun r=>⟨.str a,_,[.str b,.str c],rfl,.inr (.inr rfl),rfl,by rw[sv];exact r⟩⟩
theorem yW{p:Addr}{ds:List D}(h:M p=none)(r:R (.vl ds) M):yX (.ref p) (C1 M p (.lst ds)) R:=⟨p,ds,rfl,g7,by rw[bo h];exact r⟩
theorem yZ{x:D}{M1 M2:Mem}(h:∀ b o,M2 b=some o→M1 b=some o)(r:R x M2):GI x M1 R:=⟨M2,h,r⟩
theorem rC{g g':DR2}{tc:DTE}:qf g g' ta tb tc e M R=ta e M fun x M1=>tb e M1 fun y M2=>g x y M2 fun z M3=>BlK z M3 fun k M4=>IfK k (tc e M4 fun w M5=>g' y w M5 R) (R (.bl false) M4):=rfl
end
theorem L8{p:Str→Prop}:∀ x∈([]:List Str),p x:=fun _ h=>nomatch h
section
variable {e0:Ev} {g:DTG} {te:DTE} {tc:S9} {ds:List D} {stay:Mem→Prop} {M1:Mem} {E:List D→Mem→Prop}
theorem t5{α:Type}{xs:List α}{enc:α→D}(f:α→D)(hn:xs.length≤1000)(hst:stay M1)(step:∀ x∈xs,∀ Q:DK,Q (f x) M1→g (enc x) e0 M1 fun e2 M2=>te e2 M2 Q)(h:E (xs.map f) M1):∃ W,oO e0 g Cg te (xs.map enc) stay M1 E W:=by
 refine⟨fun i ys M=>M=M1∧ys=(xs.take i).map f,⟨⟨rfl,rfl⟩,fun i ys M _ w=>by rw[w.1];exact hst,fun i d ys M hd w=>?_,fun ys M w=>?_⟩⟩
 ·obtain⟨rfl,rfl⟩:=w
  rw[ND]at hd
  cases hx:xs[i]? with
  | none=>rw[hx]at hd;cases hd
  | some x =>
   rw[hx]at hd
   obtain rfl:enc x=d:=by simpa using hd
   refine step x (Nq hx) _ ⟨?_,rfl,?_⟩
   ·rw[Nm,NU]
    exact NK (Nr (PC _ _) hn) (by decide)
   ·obtain⟨hl,he⟩:=Nw.mp hx
    rw[OJ hl,NF,he];rfl
 ·obtain⟨rfl,rfl⟩:=w
  rw[Nm,Ox];exact h
theorem bp{α:Type}{xs:List α}{enc:α→D}(p:α→Bool)(f:α→D)(hn:xs.length≤1000)(hst:stay M1)
  (step:∀ x∈xs,∀(Q:DK) (N:Prop),(p x=true→Q (f x) M1)→(p x=false→N)→g (enc x) e0 M1 fun e2 M2=>tc e2 M2 fun b M3=>IfK b (te e2 M3 Q) (M3=M1∧N)) (h:E ((xs.filter p).map f) M1):∃ W,oO e0 g tc te (xs.map enc) stay M1 E W:=by
 refine⟨fun i ys M=>M=M1∧ys=((xs.take i).filter p).map f,⟨⟨rfl,rfl⟩,fun i ys M _ w=>by rw[w.1];exact hst,fun i d ys M hd w=>?_,fun ys M w=>?_⟩⟩
 ·obtain⟨rfl,rfl⟩:=w
  rw[ND]at hd
  cases hx:xs[i]? with
  | none=>rw[hx]at hd;cases hd
  | some x =>
   rw[hx]at hd
   obtain rfl:enc x=d:=by simpa using hd
   obtain⟨hl,he⟩:=Nw.mp hx
   have hle:(((xs.take i).filter p).map f).length<sizeLine:=by
    rw[Nm]
    have h1:=OH p (xs.take i)
    rw[NU]at h1
    exact NK (Nr h1 (Nr (PC _ _) hn)) (by decide)
   have hs:=step x (Nq hx) (fun v M4=>(((xs.take i).filter p).map f).length<sizeLine∧M4=M∧((xs.take i).filter p).map f++[v]=((xs.take (i+1)).filter p).map f) (((xs.take i).filter p).map f=((xs.take (i+1)).filter p).map f)
    (fun hp=>⟨hle,rfl,by rw[OJ hl,Rc,NF,he];simp[hp]⟩)
    (fun hp=>by rw[OJ hl,Rc,NF,he];simp[hp])
   exact hs
 ·obtain⟨rfl,rfl⟩:=w
  rw[Nm,Ox];exact h
end
section
variable {X:Cx} {pos:Pos}
theorem jc{x:Str}{j k:Nat}{ps:List Str}{sp:DSp}{p:Pos}{e:Expr}{es:List Expr}{t:DTA}(G:Fn X.prog X.w X.K X.mg X.base x j ps sp)(hr:J8 k X.A)(ha:JA X (e :: es) t)(hk:j≤k:=by decide)(hg:Gl X x:=by rfl)
  (hdb:(x == ("__debug__" : Str))=false:=by decide) (he:starEach (e :: es) X.env=(false,eval e X.env) :: starEach es X.env:=by rfl) (hpl:(backTo pos (starEach es X.env)).any (·.1)=false:=by rfl):JE X (.Call (.Name x p) (e :: es) [] pos) (oj sp [] Y0 t):=xD G (hr.mono hk) hg ha hdb he hpl
theorem jx{a b:Expr}{ta tb:DTE}(ha:JE X a ta)(hb:JE X b tb)(hs:lA b:=by exact fun _ _=>rfl):JE X (.Subscript a b pos) (dOp gIx ta tb):=Ii Io ha hb hs
theorem jst(i:Nat){x:Str}{e:Expr}{tx:DTE}{q:Pos}(hN:X.N.Nodup)(he:JE X e tx)(hi:X.N[i]? = some x:=by rfl)(hx:Loc X.env.scope x:=by first|exact .inl rfl|exact .inr rfl)(hs:swapsWith e (some (.Name x q)) pos.line X.env=pure false:=by rfl)
  (hf:X.fn x=true∨X.env.scope.names.lookup x=some .local:=by first|exact .inl rfl|exact .inr rfl|assumption):JS X (.Assign [.Name x q] e pos) (yq tx (bN i)):=BQ hN hi hx he hs hf
theorem jn(i:Nat){x:Str}(hN:X.N.Nodup)(hi:X.N[i]? = some x:=by rfl)(hx:Loc X.env.scope x:=by first|exact .inl rfl|exact .inr rfl)(hf:X.fn x=true∨X.env.scope.names.lookup x=some .local:=by first|exact .inl rfl|exact .inr rfl|assumption):JG X (.Name x pos) (bN i):=xy hN hi hx hf
theorem jm{op:CmpOp}{g:DR2}{a b:Expr}{ta tb:DTE}(ho:DOp X (compareOp op) g)(ha:JE X a ta)(hb:JE X b tb)(hm:behindInMarks op b=false:=by first|exact xm _|with_unfolding_all rfl):JE X (.Compare a [op] [b] pos) (dOp g ta tb):=FY ho ha hb hm
theorem jtm{op:CmpOp}{g:DR2}{a b:Expr}{ta tb:DTE}(ho:DOp X (compareOp op) g)(ha:JE X a ta)(hb:JE X b tb)(hm:behindInMarks op b=false:=by first|exact xm _|with_unfolding_all rfl):JT X (.Compare a [op] [b] pos) (sN (dOp g ta tb)):=BS ho ha hb hm
end
end DL
namespace GM
open PySem PySem.Spec L2 DL
open PyProof.Rows hiding St
noncomputable def e8(q:Rat):D:=.tup [.int q.num,.int (q.den:Int)]
theorem L1{q r:Rat}(h:e8 q=e8 r):q=r:=by
 unfold e8 at h
 injection h with h
 injection h with h1 h2
 injection h1 with h1
 injection h2 with h2 _
 injection h2 with h2
 exact Rat.ext h1 (by omega)
theorem h7{q r:Rat}:e8 q=e8 r↔q=r:=⟨L1,fun h=>by rw[h]⟩
structure B9(M:Mem)(p:Addr):Prop where
 ex:∃ x y z:Int,M p=some (.lst [.int x,.int y,.int z])
def MK(M M':Mem):Prop:=∀ b o,M b=some o→M' b=some o
theorem MK.refl(M:Mem):MK M M:=fun _ _ h=>h
theorem MK.trans{M M1 M2:Mem}(a:MK M M1)(b:MK M1 M2):MK M M2:=fun c o h=>b c o (a c o h)
theorem MK.new{M:Mem}{p:Addr}{o:MO}(h:M p=none):MK M (C1 M p o):=fun b u e=>by
 have:b≠p:=by intro z;subst z;rw[h]at e;cases e
 rw[F0 this];exact e
theorem MK.pool{M M':Mem}(k:MK M M'){p:Addr}(h:B9 M p):B9 M' p:=let ⟨x,y,z,e⟩:=h.ex;⟨x,y,z,k _ _ e⟩
structure t6(p:Addr)(M M':Mem):Prop where
 keep:∀ b o,b≠p→M b=some o→M' b=some o
 pool:B9 M' p
theorem t6.refl{p:Addr}{M:Mem}(h:B9 M p):t6 p M M:=⟨fun _ _ _ h=>h,h⟩
theorem t6.trans{p:Addr}{M M1 M2:Mem}(a:t6 p M M1)(b:t6 p M1 M2):t6 p M M2:=⟨fun c o n h=>b.keep c o n (a.keep c o n h),b.pool⟩
theorem t6.mk'{p:Addr}{M M1:Mem}(h:B9 M p)(k:MK M M1):t6 p M M1:=⟨fun c o _ h=>k c o h,k.pool h⟩
theorem t6.upd{p:Addr}{M:Mem}(x y z:Int):t6 p M (C1 M p (.lst [.int x,.int y,.int z])):=⟨fun b o n h=>by rw[F0 n];exact h,⟨x,y,z,g7⟩⟩
theorem B9.ne{M:Mem}{p l:Addr}(h:B9 M p)(hl:M l=none):l≠p:=by
 intro e;subst e;obtain⟨x,y,z,q⟩:=h.ex;rw[hl]at q;cases q
def oZ:DSp:=fun ds M R _=>∃ c:Int,ds=[.int c]∧∀ p M',M p=none→MK M M'→B9 M' p→R (.ref p) M'
def N7:DSp:=fun ds M R _=>∃(p:Addr) (b:Int),ds=[.ref p,.int b]∧B9 M p∧0<b∧b.natAbs.log2<9000∧∀(r:Int) M',0≤r→r<b→t6 p M M'→R (.int r) M'
def J3:DSp:=fun ds M R _=>∃ a b:Int,ds=[.int a,.int b]∧b≠0∧b.natAbs.log2<9000∧R (e8 (NM a b)) M
def eA:DSp:=fun ds M R _=>∃ p:Addr,ds=[.ref p]∧B9 M p∧∀(q:Rat) M',RM.sz q≤41→t6 p M M'→R (e8 q) M'
theorem IU:zo 10 18:=⟨by decide,by decide,by decide⟩
theorem Kf:zo 10 12:=⟨by decide,by decide,by decide⟩
theorem cp6:zo 10 6:=⟨by decide,by decide,by decide⟩
theorem BI{a b:Int}(h1:-(2 ^ 64)<a)(h2:a<2 ^ 64):IntMulOk a b:=.of_left (intBits_le_64 h1 h2)
theorem JR{a b:Int}(h1:-(2 ^ 64)<b)(h2:b<2 ^ 64):IntMulOk a b:=.of_right (intBits_le_64 h1 h2)
theorem JQ{x m k b:Int}(hm:0<m)(hm2:m<2 ^ 60)(hk:0≤k)(hk2:k<2 ^ 60):IntMulOk (x % m+k) b:=by
 have h1:=OW x (show m≠0 by omega)
 have h2:=OI x hm
 exact BI (by omega) (by omega)
theorem Ie{x m b:Int}(hm:0<m)(hm2:m<2 ^ 60):IntMulOk (x % m) b:=by
 have h1:=OW x (show m≠0 by omega)
 have h2:=OI x hm
 exact BI (by omega) (by omega)
theorem Kg{i:Int}:CFd i 8:=⟨by decide,by decide⟩
theorem IV{i:Int}:CFd i 20:=⟨by decide,by decide⟩
theorem Co{b:Int}{k:Nat}(h:b.natAbs.log2<k):Builtin.Int.intBits b≤k:=by
 unfold Builtin.Int.intBits
 split<;>omega
theorem bj{a b:Int}(ha:0≤a)(hb:0≤b):a.fdiv b=a / b:=Int.fdiv_eq_ediv_of_nonneg a hb
theorem sD{a b:Int}(hb:b≠0)(h:b.natAbs.log2<9000):((Ow a.natAbs b.natAbs:Nat):Int).natAbs.log2<9000:=by
 have hp:0<b.natAbs:=RQ.mpr hb
 have hle:Ow a.natAbs b.natAbs≤b.natAbs:=Nat.gcd_le_right _ hp
 have h1:b.natAbs<2 ^ 9000:=(QS (by omega)).mp h
 rw[Np]
 exact L6 (NK hle h1) (by decide)
theorem xM{a b:Int}(hb:b≠0):((Ow a.natAbs b.natAbs:Nat):Int)≠0:=by
 have hp:0<b.natAbs:=RQ.mpr hb
 have:=Pf a.natAbs hp
 omega
theorem dk{a b s:Int}(hb:b≠0)(hs:s=if b<0 then -((Ow a.natAbs b.natAbs:Nat):Int)else((Ow a.natAbs b.natAbs:Nat):Int)){M:Mem}{R:DK}(k:R (e8 (NM a b)) M) :
  R (.tup [.int (a.fdiv s),.int (b.fdiv s)]) M:=by
 obtain⟨h1,h2⟩:=RM.FR a b hb s hs
 rw[h1,h2];exact k
theorem O2{a b:Int}{n:Nat}(hn:0<n)(h1:a.natAbs<2 ^ n)(h2:b.natAbs<2 ^ n)(hb:b≠0):RM.sz (NM a b)≤n :=
 Nr (RM.W4 a b hb) (QL.mpr ⟨RM.fk h1 hn,RM.fk h2 hn⟩)
def rF:DSp:=fun ds M R _=>∃ n:Int,ds=[.int n]∧R (.bl true) M
end GM
namespace GM
open PySem PySem.Spec L2 DL
def rH:DSp:=fun ds _ R _=>∃ ns:List Int,ds=[.vl (ns.map D.int)]∧ns.length≤63∧∀ M',R (.bl true) M'
end GM
namespace GM
open PySem PySem.Spec L2 DL
open RM (sz)
def O5:DSp:=fun ds M R _=>∃ a b:Nat,ds=[.int (a:Int),.int (b:Int)]∧R (.int ((Ow a b:Nat):Int)) M
def rG:DSp:=fun ds M R _=>∃ q:Rat,ds=[e8 q]∧R (e8 (-q)) M
def T5:DSp:=fun ds M R _=>∃ q r:Rat,ds=[e8 q,e8 r]∧sz q+sz r≤8900∧R (e8 (q+r)) M
def iZ:DSp:=fun ds M R _=>∃ q r:Rat,ds=[e8 q,e8 r]∧sz q+sz r≤8900∧R (e8 (q - r)) M
def K1:DSp:=fun ds M R _=>∃ q r:Rat,ds=[e8 q,e8 r]∧sz q+sz r≤8900∧R (e8 (q*r)) M
def iY:DSp:=fun ds M R _=>∃ q r:Rat,ds=[e8 q,e8 r]∧r≠0∧sz q+sz r≤8900∧R (e8 (q / r)) M
def pb:DSp:=fun ds M R _=>∃ q r:Rat,ds=[e8 q,e8 r]∧sz q+sz r≤8900∧R (.bl (decide (q<r))) M
theorem m8(q:Rat):q.num.natAbs<2 ^ sz q:=Nf (RM.aX _) (Nl (by decide) (RM.N6 q))
theorem i9(q:Rat):((q.den:Int)).natAbs<2 ^ sz q:=by rw[Np];exact Nf (RM.aX _) (Nl (by decide) (RM.G5 q))
theorem mNN{q r:Rat}(h:sz q+sz r≤8900):IntMulOk q.num r.num:=j5 _ _ (m8 q) (m8 r) (by omega)
theorem mND{q r:Rat}(h:sz q+sz r≤8900):IntMulOk q.num (r.den:Int):=j5 _ _ (m8 q) (i9 r) (by omega)
theorem mDD{q r:Rat}(h:sz q+sz r≤8900):IntMulOk (q.den:Int) (r.den:Int):=j5 _ _ (i9 q) (i9 r) (by omega)
theorem mDN{q r:Rat}(h:sz q+sz r≤8900):IntMulOk (q.den:Int) r.num:=j5 _ _ (i9 q) (m8 r) (by omega)
theorem lDD{q r:Rat}(h:sz q+sz r≤8900):((q.den:Int)*(r.den:Int)).natAbs.log2<9000:=by
 have h1:=RM.S6 q.den r.den
 have h2:=RM.G5 q
 have h3:=RM.G5 r
 rw[NQ,Np,Np]
 unfold RM.bl at *
 omega
theorem lDN{q r:Rat}(h:sz q+sz r≤8900):((q.den:Int)*r.num).natAbs.log2<9000:=by
 have h1:=RM.S6 q.den r.num.natAbs
 have h2:=RM.G5 q
 have h3:=RM.N6 r
 rw[NQ,Np]
 unfold RM.bl at *
 omega
theorem FP{r:Rat}(h:r≠0):r.num≠0:=fun z=>h (Pl.mp z)
noncomputable def j0(q:Rat):Rat:=if 0≤q then q else -q
theorem GC(q:Rat):e8 (j0 q) = .tup [.int (q.num.natAbs:Int),.int (q.den:Int)]:=by
 unfold j0 e8
 have hz:0≤q↔0≤q.num:=Qj.symm
 split
 ·rename_i h
  have:=hz.mp h
  rw[show q.num=(q.num.natAbs:Int)by omega];simp
 ·rename_i h
  have h':¬ 0≤q.num:=fun z=>h (hz.mpr z)
  rw[Qq,QU,show -q.num=(q.num.natAbs:Int)by omega]
theorem cm(t:Rat):t.num<0↔t<0:=by
 have:=Qj (q:=t)
 constructor
 ·intro h;have:¬ 0≤t:=fun z=>by have:=Qj.mpr z;omega
  grind
 ·intro h;have h':¬ 0≤t.num:=fun z=>by have:=Qj.mp z;grind
  omega
end GM
namespace GM
open RM (sz)
theorem N0(q:Rat){k:Nat}(h:sz q≤k):q.num.natAbs<2 ^ k:=Nf (RM.aX _) (Nl (by decide) (Nr (RM.N6 q) h))
theorem p8(q:Rat){k:Nat}(h:sz q≤k):q.den<2 ^ k:=Nf (RM.aX _) (Nl (by decide) (Nr (RM.G5 q) h))
theorem K3(q:Rat):q*(q.den:Rat)=(q.num:Rat):=by
 have h:(q.den:Rat)≠0:=by
  intro z;exact q.den_nz (by exact_mod_cast z)
 have e:=Od q
 rw[Rk,Ob]at e
 grind
theorem eV{a b m n:Nat}(h1:a<2 ^ m)(h2:b<2 ^ n):a*b<2 ^ (m+n):=by
 rw[Og];exact Ov h1 h2
theorem B7{a b:Int}{m n:Nat}(h1:a.natAbs<2 ^ m)(h2:b.natAbs<2 ^ n):(a*b).natAbs<2 ^ (m+n):=by
 rw[NQ];exact eV h1 h2
theorem V1{a m n:Nat}(h:a<2 ^ m)(hn:m≤n):a<2 ^ n:=Nf h (Nl (by decide) hn)
end GM
namespace GM
open PySem PySem.Spec L2 DL
open RM (sz)
noncomputable abbrev A5(y u:Rat):D:=.tup [e8 y,e8 u]
theorem aT(n:Int):e8 (n:Rat) = .tup [.int n,.int 1]:=by
 unfold e8
 rw[RD,RE];rfl
theorem iW{n:Int}{k:Nat}(hk:0<k)(h:n.natAbs<2 ^ k):sz (n:Rat)≤k:=by
 refine RM.vO _ hk ?_ ?_
 ·rw[RD];exact h
 ·rw[RE];exact Rf (by omega)
theorem Q0(q:Rat):sz (j0 q)=sz q:=by
 unfold j0;split
 ·rfl
 ·exact RM.T4 q
theorem Cs{q:Rat}(h:q≠0):0<j0 q:=by
 unfold j0;split
 ·grind
 ·grind
noncomputable def S7(x:Str × Rat):D:=.tup [.str x.1,e8 x.2]
def eB:DSp:=fun ds M R _=>∃ q:Rat,ds=[e8 q]∧R (e8 (j0 q)) M
theorem iq{x y:Str × Rat}(h:S7 x=S7 y):x=y:=by
 unfold S7 at h
 injection h with h
 injection h with h1 h2
 injection h1 with h1
 injection h2 with h2 _
 exact Prod.ext h1 (L1 h2)
theorem i0{x y:Str × Rat}:S7 x=S7 y↔x=y:=⟨iq,fun h=>by rw[h]⟩
theorem f9{xs ys:List (Str × Rat)}:xs.map S7=ys.map S7↔xs=ys:=Oh (fun _ _ h=>iq h)
noncomputable def e9(l:Rat × Rat × Rat):D:=.tup [e8 l.1,e8 l.2.1,e8 l.2.2]
theorem ix{x y:Rat × Rat × Rat}(h:e9 x=e9 y):x=y:=by
 unfold e9 at h
 injection h with h
 injection h with h1 h2
 injection h2 with h2 h3
 injection h3 with h3 _
 exact Prod.ext (L1 h1) (Prod.ext (L1 h2) (L1 h3))
theorem i3{x y:Rat × Rat × Rat}:e9 x=e9 y↔x=y:=⟨ix,fun h=>by rw[h]⟩
theorem g5{xs ys:List (Rat × Rat × Rat)}:xs.map e9=ys.map e9↔xs=ys:=Oh (fun _ _ h=>ix h)
theorem Fc{p q r:Rat}:D.tup [e8 p,e8 q,e8 r]=e9 (p,q,r):=rfl
theorem qN{gs:W3}{l:Rat × Rat × Rat}{e:Ev}{M:Mem}{Q:Ev→Mem→Prop}:oi 3 gs (e9 l) e M Q=gs [e8 l.1,e8 l.2.1,e8 l.2.2] e M Q:=dZ rfl
theorem qQ{l:Rat × Rat × Rat}{M:Mem}{R:DK}:gIx (e9 l) (.int 0) M R=R (e8 l.1) M:=Z0
theorem qP{l:Rat × Rat × Rat}{M:Mem}{R:DK}:gIx (e9 l) (.int 1) M R=R (e8 l.2.1) M:=Y9
theorem qO{l:Rat × Rat × Rat}{M:Mem}{R:DK}:gIx (e9 l) (.int 2) M R=R (e8 l.2.2) M:=iQ
theorem uG{q:Rat}{M:Mem}{R:DK}:gIx (e8 q) (.int 0) M R=R (.int q.num) M:=Z0
theorem uF{q:Rat}{M:Mem}{R:DK}:gIx (e8 q) (.int 1) M R=R (.int (q.den:Int)) M:=Y9
theorem uE{gs:W3}{q:Rat}{e:Ev}{M:Mem}{Q:Ev→Mem→Prop}:oi 2 gs (e8 q) e M Q=gs [.int q.num,.int (q.den:Int)] e M Q:=dZ rfl
theorem uD{q:Rat}{M:Mem}{R:DK}:qc [e8 q] M R=R (.int 2) M:=gZ rfl
theorem qM{x:Str × Rat}{M:Mem}{R:DK}:gIx (S7 x) (.int 0) M R=R (.str x.1) M:=Z0
theorem qL{x:Str × Rat}{M:Mem}{R:DK}:gIx (S7 x) (.int 1) M R=R (e8 x.2) M:=Y9
theorem qK{gs:W3}{x:Str × Rat}{e:Ev}{M:Mem}{Q:Ev→Mem→Prop}:oi 2 gs (S7 x) e M Q=gs [.str x.1,e8 x.2] e M Q:=dZ rfl
theorem mh{q:Rat}{M:Mem}{R:DK}:B8 [e8 q,.ty "tuple"] M R=R (.bl true) M:=t4 rfl rfl
theorem gE{x:Str × Rat}{M:Mem}{R:DK}:B8 [S7 x,.ty "tuple"] M R=R (.bl true) M:=t4 rfl rfl
theorem qJ{x:Str × Rat}{M:Mem}{R:DK}:qc [S7 x] M R=R (.int 2) M:=gZ rfl
theorem Ac{q:Rat}:cl 60 (e8 q)=true:=rfl
theorem Ad{q:Rat}:cl 59 (e8 q)=true:=rfl
theorem Ae{q:Rat}:cl 58 (e8 q)=true:=rfl
theorem Af{q:Rat}:cl 57 (e8 q)=true:=rfl
theorem r0:D.tup [.int 0,.int 1]=e8 0:=rfl
theorem r1:D.tup [.int 1,.int 1]=e8 1:=rfl
theorem r2:D.tup [.int 2,.int 1]=e8 2:=rfl
theorem r4:D.tup [.int 4,.int 1]=e8 4:=rfl
theorem HK{q:Rat}:D.tup [.int (q.num.natAbs:Int),.int (q.den:Int)]=e8 (j0 q):=(GC q).symm
theorem HJ{q:Rat}:D.tup [.int (-q.num),.int (q.den:Int)]=e8 (-q):=by unfold e8;rw[Qq,QU]
theorem Fb{q:Rat}:D.tup [.int q.num,.int (q.den:Int)]=e8 q:=rfl
theorem rm2:D.tup [.int (-2),.int 1]=e8 (-2):=rfl
theorem rm1:D.tup [.int (-1),.int 1]=e8 (-1):=rfl
end GM
local macro_rules|`(tactic| walk_at "inj")=>`(tactic| (rename_i e h;simp only[List.cons.injEq,and_true,true_and,GM.h7,GM.i0,GM.f9,GM.i3,GM.g5,DL.D.tup.injEq,DL.D.ref.injEq,DL.D.int.injEq,DL.D.str.injEq,DL.D.bl.injEq,DL.D.vl.injEq,NG,and_assoc]at e;(repeat(obtain⟨e1,e⟩:=e;subst e1));subst e;exact h))
local macro_rules|`(tactic| walk_at "injs")=>`(tactic| (rename_i e o h;rcases o with o|o<;>(subst o;first|(exfalso;simp only[DL.D.tup.injEq,List.cons.injEq,reduceCtorEq,false_and,and_false]at e;done)|(simp only[List.cons.injEq,and_true,true_and,GM.h7,GM.i0,GM.f9,GM.i3,GM.g5,DL.D.tup.injEq,DL.D.ref.injEq,DL.D.int.injEq,DL.D.str.injEq,DL.D.bl.injEq,DL.D.vl.injEq,NG,and_assoc]at e;(repeat(obtain⟨e1,e⟩:=e;subst e1));subst e;exact h))))
namespace GM
open PySem PySem.Spec L2 DL
open RM (sz)
theorem bT{a b:Nat}{M:Mem}{R:DK}{Y:DXK}:O5 [.int (a:Int),.int (b:Int)] M R Y=(R (.int ((Ow a b:Nat):Int)) M):=propext ⟨fun z=>by obtain⟨_,_,_,_⟩:=z;walk_at "inj",fun h=>⟨a,b,rfl,h⟩⟩
theorem qu{q:Rat}{M:Mem}{R:DK}{Y:DXK}:rG [e8 q] M R Y=(R (e8 (-q)) M):=propext ⟨fun z=>by obtain⟨_,_,_⟩:=z;walk_at "inj",fun h=>⟨q,rfl,h⟩⟩
theorem lG{q r:Rat}{M:Mem}{R:DK}{Y:DXK}:T5 [e8 q,e8 r] M R Y=(sz q+sz r≤8900∧R (e8 (q+r)) M):=propext ⟨fun z=>by obtain⟨_,_,_,_⟩:=z;walk_at "inj",fun h=>⟨q,r,rfl,h⟩⟩
theorem gr{q r:Rat}{M:Mem}{R:DK}{Y:DXK}:iZ [e8 q,e8 r] M R Y=(sz q+sz r≤8900∧R (e8 (q - r)) M):=propext ⟨fun z=>by obtain⟨_,_,_,_⟩:=z;walk_at "inj",fun h=>⟨q,r,rfl,h⟩⟩
theorem gq{q r:Rat}{M:Mem}{R:DK}{Y:DXK}:K1 [e8 q,e8 r] M R Y=(sz q+sz r≤8900∧R (e8 (q*r)) M):=propext ⟨fun z=>by obtain⟨_,_,_,_⟩:=z;walk_at "inj",fun h=>⟨q,r,rfl,h⟩⟩
theorem lH{q r:Rat}{M:Mem}{R:DK}{Y:DXK}:iY [e8 q,e8 r] M R Y=(r≠0∧sz q+sz r≤8900∧R (e8 (q / r)) M):=propext ⟨fun z=>by obtain⟨_,_,_,_⟩:=z;walk_at "inj",fun h=>⟨q,r,rfl,h⟩⟩
theorem lJ{q r:Rat}{M:Mem}{R:DK}{Y:DXK}:pb [e8 q,e8 r] M R Y=(sz q+sz r≤8900∧R (.bl (decide (q<r))) M):=propext ⟨fun z=>by obtain⟨_,_,_,_⟩:=z;walk_at "inj",fun h=>⟨q,r,rfl,h⟩⟩
theorem qv{a b:Int}{M:Mem}{R:DK}{Y:DXK}:J3 [.int a,.int b] M R Y=(b≠0∧b.natAbs.log2<9000∧R (e8 (NM a b)) M):=propext ⟨fun z=>by obtain⟨_,_,_,_⟩:=z;walk_at "inj",fun h=>⟨a,b,rfl,h⟩⟩
theorem lF{c:Int}{M:Mem}{R:DK}{Y:DXK}:oZ [.int c] M R Y=(∀ p M',M p=none→MK M M'→B9 M' p→R (.ref p) M'):=propext ⟨fun z=>by obtain⟨_,_,_⟩:=z;walk_at "inj",fun h=>⟨c,rfl,h⟩⟩
theorem lI{p:Addr}{b:Int}{M:Mem}{R:DK}{Y:DXK}:N7 [.ref p,.int b] M R Y=(B9 M p∧0<b∧b.natAbs.log2<9000∧∀(r:Int) M',0≤r→r<b→t6 p M M'→R (.int r) M'):=propext ⟨fun z=>by obtain⟨_,_,_,_⟩:=z;walk_at "inj",fun h=>⟨p,b,rfl,h⟩⟩
theorem dA{p:Addr}{M:Mem}{R:DK}{Y:DXK}:eA [.ref p] M R Y=(B9 M p∧∀(q:Rat) M',RM.sz q≤41→t6 p M M'→R (e8 q) M'):=propext ⟨fun z=>by obtain⟨_,_,_⟩:=z;walk_at "inj",fun h=>⟨p,rfl,h⟩⟩
theorem qw{q:Rat}{M:Mem}{R:DK}{Y:DXK}:eB [e8 q] M R Y=(R (e8 (j0 q)) M):=propext ⟨fun z=>by obtain⟨_,_,_⟩:=z;walk_at "inj",fun h=>⟨q,rfl,h⟩⟩
theorem kR{k:Nat}:∀{ds:List D},(∀ x∈ds,cl k x=true)→clL k ds=true
 | [],_=>rfl
 | d :: r,h=>by
  show(cl k d && clL k r)=true
  rw[h d Nk,kR (fun x hx=>h x (Nj _ hx))];rfl
theorem t6.put{p l:Addr}{M M':Mem}{o:MO}(h:t6 p M M')(hl:M l=none)(hp:l≠p):t6 p M (C1 M' l o):=⟨fun b u hb e=>by
  rw[F0 (by intro z;subst z;rw[hl]at e;cases e)];exact h.keep b u hb e,by
  obtain⟨x,y,z,e⟩:=h.pool.ex
  exact⟨x,y,z,by rw[F0 (Ne.symm hp)];exact e⟩⟩
theorem t6.del{p l:Addr}{M M':Mem}(h:t6 p M M')(hl:M l=none)(hp:l≠p):t6 p M (cH M' l):=⟨fun b u hb e=>by
  rw[kO (by intro z;subst z;rw[hl]at e;cases e)];exact h.keep b u hb e,by
  obtain⟨x,y,z,e⟩:=h.pool.ex
  exact⟨x,y,z,by rw[kO (Ne.symm hp)];exact e⟩⟩
theorem kP{ds:List D}{n:Nat}:O4 ds none (some (n:Int))=ds.take n:=by
 unfold O4 HT.sIx
 simp only[RP,Nat.sub_zero]
 rw[if_neg (by omega)]
 by_cases h:n≤ds.length
 ·congr 1;omega
 ·rw[OB (by omega),OB (by omega)]
theorem dn{xs:List D}{r:Int}{M:Mem}{R:DK}(h0:0≤r)(h1:r<xs.length)(h:∀ d∈xs,R d M):gIx (.vl xs) (.int r) M R:=by
 obtain⟨z,e,hz⟩:=sT h0 h1
 exact⟨z,e,h z hz⟩
end GM
set_option maxHeartbeats 1000000
namespace GM
open PySem PySem.Spec L2 DL
open RM (sz)
noncomputable def G0(l:Rat × Rat × Rat)(y u:Rat):Bool:=decide (j0 (l.1*y+l.2.1*u)≤l.2.2)
noncomputable def C6(ls:List (Rat × Rat × Rat))(y u:Rat):Bool:=ls.all fun l=>G0 l y u
structure LSz(n:Nat)(l:Rat × Rat × Rat):Prop where
 p:sz l.1≤n
 q:sz l.2.1≤n
 r:sz l.2.2≤n
structure LOk(n:Nat)(l:Rat × Rat × Rat):Prop extends LSz n l where
 ne:¬ (l.1=0∧l.2.1=0)
noncomputable def fD(p q y u:Rat):Int:=p.num*y.num*q.den*u.den+q.num*u.num*p.den*y.den
noncomputable def bu(p q y u:Rat):Int:=p.den*y.den*q.den*u.den
def CB(B m:Nat)(x:Rat):Prop:=∃ n:Int,x=NM n (B:Int)∧n.natAbs≤B*2 ^ m
def Col(k:Nat)(xs:List Rat):Prop:=∃ B:Nat,0<B∧B≤2 ^ (42*k)∧∀ x∈xs,CB B (41+2*k) x
theorem Col.nil:Col 0 []:=⟨1,by decide,by decide,fun x hx=>by cases hx⟩
theorem CB.mono{B m m':Nat}{x:Rat}(h:CB B m x)(hm:m≤m'):CB B m' x:=by
 obtain⟨n,e,h⟩:=h
 exact⟨n,e,Nr h (QW _ (Nl (by decide) hm))⟩
theorem CB.scale{B m:Nat}{x:Rat}(h:CB B m x)(hB:0<B){c:Nat}(hc:0<c):CB (B*c) m x:=by
 obtain⟨n,e,h⟩:=h
 refine⟨n*c,?_,?_⟩
 ·rw[e,Pn,PJ (by omega)]
 ·rw[NQ,Np]
  have:=Oc c h
  rw[Nat.mul_right_comm]at this
  exact this
theorem CB.sz{B m k:Nat}{x:Rat}(h:CB B m x)(hB:0<B)(hk:B≤2 ^ k):RM.sz x≤k+m+1:=by
 obtain⟨n,rfl,h⟩:=h
 refine O2 (by omega) ?_ ?_ (by omega)
 ·have h2:B*2 ^ m≤2 ^ (k+m):=by rw[Og];exact Oc _ hk
  exact NK (Nr h h2) (QO (by decide) (by omega))
 ·rw[Np]
  exact NK hk (QO (by decide) (by omega))
theorem Col.sz{k:Nat}{xs:List Rat}(h:Col k xs)(hk:k≤12){x:Rat}(hx:x∈xs):RM.sz x≤600:=by
 obtain⟨B,b0,b1,h⟩:=h
 have:=(h x hx).sz b0 b1
 omega
theorem Col.new{k:Nat}{xs:List Rat}(h:Col k xs){x:Rat}(hx:RM.sz x≤41):Col (k+1) (xs++[x]):=by
 obtain⟨B,b0,b1,h⟩:=h
 have hd:x.den<2 ^ 41:=p8 x hx
 have hn:x.num.natAbs<2 ^ 41:=N0 x hx
 have d0:=x.den_pos
 refine⟨B*x.den,RF b0 d0,?_,fun z hz=>?_⟩
 ·have:=QR b1 (Ou hd)
  rw[← Og]at this
  exact Nr this (Nl (by decide) (by omega))
 ·rcases NL.mp hz with hz|hz
  ·exact((h z hz).scale b0 d0).mono (by omega)
  ·obtain rfl:z=x:=by simpa using hz
   refine⟨z.num*B,?_,?_⟩
   ·rw[OX,Pn,PJ (by omega),Od]
   ·rw[NQ,Np,OX,Rg]
    refine QW _ (Nr (Ou hn) ?_)
    have h1:2 ^ 41≤2 ^ (41+2*(k+1)):=Nl (by decide) (by omega)
    exact Nr h1 (Nat.le_mul_of_pos_left _ d0)
theorem Col.add{k:Nat}{xs:List Rat}(h:Col k xs){x y:Rat}(hx:x∈xs)(hy:y∈xs):Col (k+1) (xs++[x+y]):=by
 obtain⟨B,b0,b1,h⟩:=h
 refine⟨B,b0,Nr b1 (Nl (by decide) (by omega)),fun z hz=>?_⟩
 rcases NL.mp hz with hz|hz
 ·exact(h z hz).mono (by omega)
 ·obtain rfl:z=x+y:=by simpa using hz
  obtain⟨n,rfl,hn⟩:=h x hx
  obtain⟨m,rfl,hm⟩:=h y hy
  refine⟨n+m,?_,?_⟩
  ·rw[QH _ _ (by omega) (by omega),← Int.add_mul,PJ (by omega)]
  ·have:=Pt n m
   have e:41+2*(k+1)=(41+2*k)+1+1:=by omega
   rw[e,Om,Om]
   generalize 2 ^ (41+2*k)=t at *
   have:B*(t*2*2)=4*(B*t):=by grind
   omega
theorem Col.again{k:Nat}{xs:List Rat}(h:Col k xs){x:Rat}(hx:x∈xs):Col (k+1) (xs++[x]):=by
 obtain⟨B,b0,b1,h⟩:=h
 refine⟨B,b0,Nr b1 (Nl (by decide) (by omega)),fun z hz=>?_⟩
 rcases NL.mp hz with hz|hz
 ·exact(h z hz).mono (by omega)
 ·obtain rfl:z=x:=by simpa using hz
  exact(h z hx).mono (by omega)
theorem Col.by{k:Nat}{xs:List Rat}(h:Col k xs){x w:Rat}(hx:x∈xs)(h1:w.num.natAbs≤4)(h2:w.den≤4):Col (k+1) (xs++[w*x]):=by
 obtain⟨B,b0,b1,h⟩:=h
 have d0:=w.den_pos
 refine⟨B*w.den,RF b0 d0,?_,fun z hz=>?_⟩
 ·have:=QR b1 (show w.den≤2 ^ 2 from h2)
  rw[← Og]at this
  exact Nr this (Nl (by decide) (by omega))
 ·rcases NL.mp hz with hz|hz
  ·exact((h z hz).scale b0 d0).mono (by omega)
  ·obtain rfl:z=w*x:=by simpa using hz
   obtain⟨n,rfl,hn⟩:=h x hx
   refine⟨w.num*n,?_,?_⟩
   ·rw[Pn,Int.mul_comm (B:Int),← Py,Od]
   ·rw[NQ]
    have e:41+2*(k+1)=(41+2*k)+2:=by omega
    rw[e,Og]
    have:=QR h1 hn
    generalize 2 ^ (41+2*k)=t at *
    have h3:B*w.den*(t*2 ^ 2)=4*(B*t)*w.den:=by grind
    rw[h3]
    exact Nr this (Nat.le_mul_of_pos_right _ d0)
theorem Y6{a b c d:Int}(hb:0<b)(hd:0<d):NM a b≤NM c d↔a*d≤c*b:=by
 rw[Rat.le_iff_sub_nonneg,Rat.divInt_sub_divInt _ _ (by omega) (by omega),Ph (Pd hd hb)]
 omega
theorem nU{l:Rat × Rat × Rat}{y u:Rat}:G0 l y u = !decide (l.2.2<j0 (l.1*y+l.2.1*u)):=by
 unfold G0
 by_cases h:j0 (l.1*y+l.2.1*u)≤l.2.2
 ·rw[decide_eq_true h,decide_eq_false (by grind)];rfl
 ·rw[decide_eq_false h,decide_eq_true (by grind)];rfl
theorem o8{a b:Int}{m n:Nat}(h1:a.natAbs<2 ^ m)(h2:b.natAbs<2 ^ n):(a*b).natAbs<2 ^ (m+n):=by
 rw[NQ,Og]
 exact Oj h1 (Ou h2) (Pu (by decide))
theorem EB(p q y u:Rat):(fD p q y u).natAbs<2 ^ (sz p+sz q+sz y+sz u+1):=by
 unfold fD
 have h1:=o8 (o8 (o8 (m8 p) (m8 y)) (i9 q)) (i9 u)
 have h2:=o8 (o8 (o8 (m8 q) (m8 u)) (i9 p)) (i9 y)
 rw[show sz p+sz y+sz q+sz u=sz p+sz q+sz y+sz u by omega]at h1
 rw[show sz q+sz u+sz p+sz y=sz p+sz q+sz y+sz u by omega]at h2
 have:=Pt (p.num*y.num*q.den*u.den) (q.num*u.num*p.den*y.den)
 rw[Om]
 omega
theorem yM(p q y u:Rat):(bu p q y u).natAbs<2 ^ (sz p+sz q+sz y+sz u):=by
 unfold bu
 have h1:=o8 (o8 (o8 (i9 p) (i9 y)) (i9 q)) (i9 u)
 rw[show sz p+sz y+sz q+sz u=sz p+sz q+sz y+sz u by omega]at h1
 exact h1
theorem tX{l:Rat × Rat × Rat}{y u:Rat}:((fD l.1 l.2.1 y u).natAbs:Int)*(l.2.2.den:Int)≤l.2.2.num*bu l.1 l.2.1 y u↔G0 l y u=true:=by
 have b0:0<bu l.1 l.2.1 y u:=by
  unfold bu
  exact Pd (Pd (Pd (by have:=l.1.den_pos;omega) (by have:=y.den_pos;omega)) (by have:=l.2.1.den_pos;omega)) (by have:=u.den_pos;omega)
 have e:l.1*y+l.2.1*u=NM (fD l.1 l.2.1 y u) (bu l.1 l.2.1 y u):=by
  conv=>lhs;rw[← Od l.1,← Od y,← Od l.2.1,← Od u]
  rw[Py,Py,QH _ _ (NY (RM.u6 _) (RM.u6 _)) (NY (RM.u6 _) (RM.u6 _))]
  unfold fD bu
  congr 1<;>grind
 unfold G0
 rw[e,decide_eq_true_iff]
 generalize bu l.1 l.2.1 y u=b at *
 generalize fD l.1 l.2.1 y u=t at *
 have ea:j0 (NM t b)=NM (t.natAbs:Int) b:=by
  unfold j0
  have hh:=Ph (a:=t) b0
  split
  ·rename_i h;have:=hh.mp h;rw[show(t.natAbs:Int)=t by omega]
  ·rename_i h;have:¬ 0≤t:=fun z=>h (hh.mpr z);rw[show(t.natAbs:Int) = -t by omega,← Rat.neg_divInt]
 rw[ea]
 conv=>rhs;rw[← Od l.2.2]
 exact(Y6 b0 (by have:=l.2.2.den_pos;omega)).symm
theorem pW{ls:List (Rat × Rat × Rat)}{y u:Rat}(h:∀(i:Nat) (l:Rat × Rat × Rat),ls[i]? = some l→G0 l y u=true):C6 ls y u=true:=by
 unfold C6
 rw[OF]
 intro x hx
 obtain⟨i,hi,e⟩:=QP.mp hx
 exact h i x (by rw[NB hi,e])
theorem xq{ls:List (Rat × Rat × Rat)}{y u:Rat}{l:Rat × Rat × Rat}(hl:l∈ls)(h:G0 l y u=false):C6 ls y u=false:=by
 unfold C6
 rw[List.all_eq_false]
 exact⟨l,hl,by rw[h];decide⟩
theorem iw{ls:List (Rat × Rat × Rat)}{i:Nat}{d:D}(h:(ls.map e9)[i]? = some d):∃ l,ls[i]? = some l∧d=e9 l:=by
 rw[ND]at h
 cases e:ls[i]? with
 | none=>rw[e]at h;cases h
 | some l=>rw[e]at h;exact⟨l,rfl,(Option.some.inj h).symm⟩
theorem fg{l:Addr}{xs:List D}{r:Int}{M:Mem}{R:DK}(hM:M l=some (.lst xs))(h0:0≤r)(h1:r<xs.length)(h:∀ d∈xs,R d M):gIx (.ref l) (.int r) M R:=by
 obtain⟨z,e,hz⟩:=sT h0 h1
 exact⟨z,F7 hM e,h z hz⟩
structure P7(k:Nat)(ls:List (Rat × Rat × Rat)):Prop where
 p:Col k (ls.map fun l=>l.1)
 q:Col k (ls.map fun l=>l.2.1)
 r:Col k (ls.map fun l=>l.2.2)
 ne:∀ l∈ls,¬ (l.1=0∧l.2.1=0)
theorem P7.nil:P7 0 []:=⟨Col.nil,Col.nil,Col.nil,fun _ h=>nomatch h⟩
theorem kF{ls:List (Rat × Rat × Rat)}{x:Rat × Rat × Rat}(h:∀ l∈ls,¬ (l.1=0∧l.2.1=0))(hx:¬ (x.1=0∧x.2.1=0)):∀ l∈ls++[x],¬ (l.1=0∧l.2.1=0):=fun l hl=>by
 rcases NL.mp hl with z|z
 ·exact h l z
 ·rw[NS.mp z];exact hx
theorem ah{ls:List (Rat × Rat × Rat)}{x:Rat × Rat × Rat}(h:x∈ls)(f:Rat × Rat × Rat→Rat):f x∈ls.map f:=Nu.mpr ⟨x,h,rfl⟩
theorem P7.new{k:Nat}{ls:List (Rat × Rat × Rat)}(h:P7 k ls){x:Rat × Rat × Rat}(hx:LOk 41 x):P7 (k+1) (ls++[x]) :=
 ⟨by rw[NF];exact h.p.new hx.p,by rw[NF];exact h.q.new hx.q,by rw[NF];exact h.r.new hx.r,kF h.ne hx.ne⟩
theorem P7.again{k:Nat}{ls:List (Rat × Rat × Rat)}(h:P7 k ls){x:Rat × Rat × Rat}(hx:x∈ls):P7 (k+1) (ls++[x]) :=
 ⟨by rw[NF];exact h.p.again (ah hx _),by rw[NF];exact h.q.again (ah hx _),by rw[NF];exact h.r.again (ah hx _),kF h.ne (h.ne x hx)⟩
theorem P7.sum{k:Nat}{ls:List (Rat × Rat × Rat)}(h:P7 k ls){x y:Rat × Rat × Rat}(hx:x∈ls)(hy:y∈ls)(hn:¬ (x.1+y.1=0∧x.2.1+y.2.1=0)):P7 (k+1) (ls++[(x.1+y.1,x.2.1+y.2.1,x.2.2+y.2.2)]) :=
 ⟨by rw[NF];exact h.p.add (ah hx _) (ah hy _),by rw[NF];exact h.q.add (ah hx (fun l=>l.2.1)) (ah hy (fun l=>l.2.1)),by rw[NF];exact h.r.add (ah hx (fun l=>l.2.2)) (ah hy (fun l=>l.2.2)),kF h.ne hn⟩
structure fo(w:Rat):Prop where
 n:w.num.natAbs≤4
 d:w.den≤4
 ne:w≠0
theorem P7.taken{k:Nat}{ls:List (Rat × Rat × Rat)}(h:P7 k ls){x:Rat × Rat × Rat}(hx:x∈ls){w r:Rat}(hw:fo w)(hr:r=x.2.2∨sz r≤41):P7 (k+1) (ls++[(w*x.1,w*x.2.1,r)]) :=
 ⟨by rw[NF];exact h.p.by (ah hx _) hw.n hw.d,by rw[NF];exact h.q.by (ah hx (fun l=>l.2.1)) hw.n hw.d,by
  rw[NF]
  rcases hr with rfl|hr
  ·exact h.r.again (ah hx (fun l=>l.2.2))
  ·exact h.r.new hr,kF h.ne fun z=>h.ne x hx (by
   have a:=hw.ne
   have b1:w*x.1=0:=z.1
   have b2:w*x.2.1=0:=z.2
   exact⟨by grind,by grind⟩)⟩
theorem P7.ok{k:Nat}{ls:List (Rat × Rat × Rat)}(h:P7 k ls)(hk:k≤12):∀ l∈ls,LOk 600 l:=fun l hl =>
 ⟨⟨h.p.sz hk (ah hl _),h.q.sz hk (ah hl (fun l=>l.2.1)),h.r.sz hk (ah hl (fun l=>l.2.2))⟩,h.ne l hl⟩
theorem ja{a b:Int}(h0:a.natAbs≤4)(h1:0<b)(h2:b≤4)(h3:NM a b≠0):fo (NM a b):=by
 have ha:a = -4∨a = -3∨a = -2∨a = -1∨a=0∨a=1∨a=2∨a=3∨a=4:=by omega
 have hb:b=1∨b=2∨b=3∨b=4:=by omega
 refine⟨?_,?_,h3⟩<;>(rcases ha with rfl|rfl|rfl|rfl|rfl|rfl|rfl|rfl|rfl<;>rcases hb with rfl|rfl|rfl|rfl<;>decide)
theorem small_one:fo 1:=⟨by decide,by decide,by decide⟩
theorem fo.sz{w:Rat}(h:fo w):RM.sz w≤3:=by
 rw[← Od w]
 exact O2 (by decide) (by have:=h.n;omega) (by have:=h.d;omega) (RM.u6 w)
noncomputable def rD(r:Rat × Rat):D:=A5 r.1 r.2
noncomputable def nT(l:Nat × Rat × Rat × Rat):D:=.tup [.int (l.1:Int),e8 l.2.1,e8 l.2.2.1,e8 l.2.2.2]
end GM
namespace DL
open PySem PySem.Spec L2
open PyProof.Rows hiding St
section
variable {X:Cx} {name:Str} {id:String} {o:Expr} {to:DTE} {apos cpos:Pos}
end
section
variable {e:Ev} {M:Mem} {R:DK} {to:DTE}
end
end DL
namespace L2
open PySem PySem.Spec PyProof.Rows
end L2
namespace DL
open PySem PySem.Spec L2
open PyProof.Rows hiding St
end DL
namespace L2
open PySem PySem.Spec PyProof.Rows
abbrev J1(h:Heap)(T:Addr)(a b c:Value):Prop:=h.get? T=some { cls:=.type "tuple",data:=.seq #[a,b,c] }
section
variable {prog:Program} {w:World} {A:Around} {E:Value→Shared→Prop} {s:Shared}
theorem jV{T:Addr}{a b c x:Value}{k:Nat}{Q:Unit→Shared→Prop}(hT:J1 s.heap T a b c)
  (q:∀ h',h'.get? T=some { cls:=.type "tuple",data:=.seq ((#[a,b,c]:Array Value).setIfInBounds k x) }→Heap.SameBut T s.heap h'→Q () { s with heap:=h' }) :
  wpAny (model prog w) A (updateSeq T (·.setIfInBounds k x)) Q E s:=by
 refine wpAny_updateSeq hT rfl (q _ ?_ (Heap.SameBut.update ..))
 rw[Oi _ hT rfl]
 simp[Obj.mapSeq]
structure Ct(k1 k2 k3:Bool)(n l1 l2 l3:Addr)(i:Nat)(h:Heap):Prop where
 z:IsZip h (n+5) (n+3) (n+4) .none
 I:J1 h (n+3) (.ref n) (.ref (n+1)) (.ref (n+2))
 O:∃ a b c,J1 h (n+4) a b c
 g1:SI k1 h n l1 i
 g2:SI k2 h (n+1) l2 i
 g3:SI k3 h (n+2) l3 i
theorem EA{n l1 l2 l3:Addr}{k1 k2 k3:Bool}{i:Nat}{xs ys zs:Array Value}{v1 v2 v3:Value}{Q:Option Value→Shared→Prop}(b1:l1<n)(b2:l2<n)(b3:l3<n)(Z:Ct k1 k2 k3 n l1 l2 l3 i s.heap)
  (m1:SS k1 s.heap l1 xs) (m2:SS k2 s.heap l2 ys) (m3:SS k3 s.heap l3 zs) (w1:xs[i]? = some v1) (w2:ys[i]? = some v2) (w3:zs[i]? = some v3)
  (q:∀ h',IsZip h' (n+5) (n+3) (n+4) (rawInt s.heap.objs.size)→J1 h' (n+3) (.ref n) (.ref (n+1)) (.ref (n+2))→J1 h' (n+4) v1 v2 v3→SI k1 h' n l1 (i+1)→SI k2 h' (n+1) l2 (i+1)→SI k3 h' (n+2) l3 (i+1)→J1 h' s.heap.objs.size v1 v2 v3→h'.objs.size=s.heap.objs.size+1 →
   (∀ b o,b∉[n,n+1,n+2,n+3,n+4,n+5]→s.heap.get? b=some o→h'.get? b=some o)→Q (some (.ref s.heap.objs.size)) { s with heap:=h' }):wpAny (model prog w) A (pyNext (.ref (n+5))) Q E s:=by
 obtain⟨iz,iI,⟨u1,u2,u3,iO⟩,g1,g2,g3⟩:=Z
 have c1:@LT.lt Nat instLTNat l1 n:=b1
 have c2:@LT.lt Nat instLTNat l2 n:=b2
 have c3:@LT.lt Nat instLTNat l3 n:=b3
 have ty:s.TypeIs (.ref (n+5)) "zip" := ⟨_,iz,rfl⟩
 unfold pyNext
 refine Nb (wpAny_attempt (wpAny_callSpecial?_slot (name:=Str.ofString "__next__") ty F.slot_zip_next (wpAny_call_entry F.slot_zip_next ty F.entry_zip_next ?_ (F.args_zip_next_1 _))))
 show wpAny _ _ (field (.ref (n+5)) 2 >>= _) _ _ _
 refine Nb (wpAny_field iz rfl (x:=.bool false) rfl ?_)
 show wpAny _ _ (field (.ref (n+5)) 3 >>= _) _ _ _
 refine Nb (wpAny_field iz rfl (x:=.ref (n+3)) rfl (Nb (wpAny_seqItems iI rfl ?_)))
 show wpAny _ _ (Builtin.SmallTypes.ownedTupleIsFree (.ref (n+5)) >>= _) _ _ _
 refine Nb ?_;unfold Builtin.SmallTypes.ownedTupleIsFree
 refine Nb (wpAny_field iz rfl (x:=.none) rfl (Ng ?_));simp only[if_true]
 refine Nb (wpAny_rule (Nb (wpAny_field iz rfl (x:=.ref (n+4)) rfl (Nb (wpAny_setField_rec iz (by simp) fun ha za sa=>?_)))))
 replace za:IsZip ha (n+5) (n+3) (n+4) .ellipsis:=za
 refine Nb ?_;simp only[OE,PQ,Pm,Qh]
 have ne:∀{x y:Nat},x<y→x≠y:=fun h=>NC h
 have ne':∀{x y:Nat},x<y→y≠x:=fun h=>NW h
 refine Nb (Nb (wpAny_onRaise ?_))
 show wpAny _ _ (Builtin.SmallTypes.nextOf (.ref n) >>= _) _ _ _
 refine Nb (Q2 (g1.but sa.extBut (ne (by omega))) (m1.but sa.extBut (ne (by omega))) w1 fun hb gb sb=>Ng ?_)
 have oB:J1 hb (n+4) u1 u2 u3:=sb.extBut _ _ (ne' (by omega)) (sa.extBut _ _ (ne (by omega)) iO)
 refine Nb (wpAny_seqItems oB rfl (Nb (jV oB fun hc oC sc=>?_)))
 replace oC:J1 hc (n+4) v1 u2 u3:=oC
 refine Nb (wpAny_letGo (Ng (Nb (Nb (wpAny_onRaise ?_)))))
 show wpAny _ _ (Builtin.SmallTypes.nextOf (.ref (n+1)) >>= _) _ _ _
 refine Nb (Q2 (((g2.but sa.extBut (ne (by omega))).but sb.extBut (ne' (by omega))).but sc.extBut (ne (by omega))) (((m2.but sa.extBut (ne (by omega))).but sb.extBut (ne (by omega))).but sc.extBut (ne (by omega))) w2 fun hd gd sd=>Ng ?_)
 have oD:J1 hd (n+4) v1 u2 u3:=sd.extBut _ _ (ne' (by omega)) oC
 refine Nb (wpAny_seqItems oD rfl (Nb (jV oD fun he oE se=>?_)))
 replace oE:J1 he (n+4) v1 v2 u3:=oE
 refine Nb (wpAny_letGo (Ng (Nb (Nb (wpAny_onRaise ?_)))))
 show wpAny _ _ (Builtin.SmallTypes.nextOf (.ref (n+2)) >>= _) _ _ _
 refine Nb (Q2 (((((g3.but sa.extBut (ne (by omega))).but sb.extBut (ne' (by omega))).but sc.extBut (ne (by omega))).but sd.extBut (ne' (by omega))).but se.extBut (ne (by omega))) (((((m3.but sa.extBut (ne (by omega))).but sb.extBut (ne (by omega))).but sc.extBut (ne (by omega))).but sd.extBut (ne (by omega))).but se.extBut (ne (by omega))) w3 fun hf gf sf=>Ng ?_)
 have oF:J1 hf (n+4) v1 v2 u3:=sf.extBut _ _ (ne' (by omega)) oE
 refine Nb (wpAny_seqItems oF rfl (Nb (jV oF fun hg oG sg=>?_)))
 replace oG:J1 hg (n+4) v1 v2 v3:=oG
 refine Nb (wpAny_letGo (Ng (Ng (Nb (wpAny_seqItems oG rfl (Nb (wpAny_newTuple ?_)))))))
 have sz:hg.objs.size=s.heap.objs.size:=by rw[sg.1,sf.1,se.1,sd.1,sc.1,sb.1,sa.1]
 have kp:∀ b o,b≠n+5→b≠n+4→b≠n→b≠n+1→b≠n+2→s.heap.get? b=some o→hg.get? b=some o:=fun b o c1 c2 c3 c4 c5 e=>sg.extBut _ _ c2 (sf.extBut _ _ c5 (se.extBut _ _ c2 (sd.extBut _ _ c4 (sc.extBut _ _ c2 (sb.extBut _ _ c3 (sa.extBut _ _ c1 e))))))
 have zG:IsZip hg (n+5) (n+3) (n+4) .ellipsis:=sg.extBut _ _ (ne' (by omega)) (sf.extBut _ _ (ne' (by omega)) (se.extBut _ _ (ne' (by omega)) (sd.extBut _ _ (ne' (by omega)) (sc.extBut _ _ (ne' (by omega)) (sb.extBut _ _ (ne' (by omega)) za)))))
 have e1:SI k1 hg n l1 (i+1):=((((gb.but sc.extBut (ne (by omega))).but sd.extBut (ne (by omega))).but se.extBut (ne (by omega))).but sf.extBut (ne (by omega))).but sg.extBut (ne (by omega))
 have e2:SI k2 hg (n+1) l2 (i+1):=((gd.but se.extBut (ne (by omega))).but sf.extBut (ne (by omega))).but sg.extBut (ne (by omega))
 have e3:SI k3 hg (n+2) l3 (i+1):=gf.but sg.extBut (ne (by omega))
 have ltz:n+5<hg.objs.size:=Nn zG
 show wpAny _ _ (Builtin.SmallTypes.ownedTupleHandOut (.ref (n+5)) (.ref hg.objs.size) >>= _) _ _ _
 refine Nb ?_;unfold Builtin.SmallTypes.ownedTupleHandOut
 refine Nb (wpAny_setField_rec (Nc _ zG) (by simp) fun hi zi si=>?_)
 replace zi:IsZip hi (n+5) (n+3) (n+4) (rawInt hg.objs.size):=zi
 refine wpAny_setField_rec zi (by simp) fun hj zj sj=>?_
 replace zj:IsZip hj (n+5) (n+3) (n+4) (rawInt hg.objs.size):=zj
 have lift:∀ b o,b≠n+5→hg.get? b=some o→hj.get? b=some o:=fun b o c e=>sj.extBut _ _ c (si.extBut _ _ c (Nc _ e))
 have tJ:J1 hj hg.objs.size v1 v2 v3:=sj.extBut _ _ (NW ltz) (si.extBut _ _ (NW ltz) (Ni _ rfl))
 have sz2:hj.objs.size=hg.objs.size+1:=by rw[sj.1,si.1,NT]
 rw[sz]at zj tJ sz2
 refine Ng ⟨_,rfl,Ng ?_⟩
 show Q (some (.ref hg.objs.size)) _
 rw[sz]
 refine q hj zj (lift _ _ (ne (by omega)) (kp _ _ (ne (by omega)) (ne (by omega)) (ne' (by omega)) (ne' (by omega)) (ne' (by omega)) iI)) (lift _ _ (ne (by omega)) oG) (e1.at fun o e=>lift _ o (ne (by omega)) e) (e2.at fun o e=>lift _ o (ne (by omega)) e) (e3.at fun o e=>lift _ o (ne (by omega)) e) tJ sz2 fun b o hb e=>?_
 simp only[Nh,Nv,or_false,not_or]at hb
 exact lift b o hb.2.2.2.2.2 (kp b o hb.2.2.2.2.2 hb.2.2.2.2.1 hb.1 hb.2.1 hb.2.2.1 e)
theorem ID{n l1 l2 l3:Addr}{k1 k2 k3:Bool}{i:Nat}{xs:Array Value}{Q:Option Value→Shared→Prop}(hA:A.handled=none)(b1:l1<n)(Z:Ct k1 k2 k3 n l1 l2 l3 i s.heap)
  (m1:SS k1 s.heap l1 xs) (w1:xs[i]? = none)
  (q:∀ h',(∀ b o,b∉[n,n+1,n+2,n+3,n+4,n+5]→s.heap.get? b=some o→h'.get? b=some o)→Q none { s with heap:=h' }):wpAny (model prog w) A (pyNext (.ref (n+5))) Q E s:=by
 obtain⟨iz,iI,⟨u1,u2,u3,iO⟩,g1,g2,g3⟩:=Z
 have c1:@LT.lt Nat instLTNat l1 n:=b1
 have ty:s.TypeIs (.ref (n+5)) "zip" := ⟨_,iz,rfl⟩
 unfold pyNext
 refine Nb (wpAny_attempt (wpAny_callSpecial?_slot (name:=Str.ofString "__next__") ty F.slot_zip_next (wpAny_call_entry F.slot_zip_next ty F.entry_zip_next ?_ (F.args_zip_next_1 _))))
 show wpAny _ _ (field (.ref (n+5)) 2 >>= _) _ _ _
 refine Nb (wpAny_field iz rfl (x:=.bool false) rfl ?_)
 show wpAny _ _ (field (.ref (n+5)) 3 >>= _) _ _ _
 refine Nb (wpAny_field iz rfl (x:=.ref (n+3)) rfl (Nb (wpAny_seqItems iI rfl ?_)))
 show wpAny _ _ (Builtin.SmallTypes.ownedTupleIsFree (.ref (n+5)) >>= _) _ _ _
 refine Nb ?_;unfold Builtin.SmallTypes.ownedTupleIsFree
 refine Nb (wpAny_field iz rfl (x:=.none) rfl (Ng ?_));simp only[if_true]
 refine Nb (wpAny_rule (Nb (wpAny_field iz rfl (x:=.ref (n+4)) rfl (Nb (wpAny_setField_rec iz (by simp) fun ha za sa=>?_)))))
 replace za:IsZip ha (n+5) (n+3) (n+4) .ellipsis:=za
 refine Nb ?_;simp only[OE,PQ,Pm,Qh]
 have ne:∀{x y:Nat},x<y→x≠y:=fun h=>NC h
 refine Nb (Nb (wpAny_onRaise ?_))
 show wpAny _ _ (Builtin.SmallTypes.nextOf (.ref n) >>= _) _ _ _
 refine Nb (je hA (g1.but sa.extBut (ne (by omega))) (m1.but sa.extBut (ne (by omega))) w1 fun hb e sb ⟨oe,oe1,oe2⟩=>?_)
 have zb:IsZip hb (n+5) (n+3) (n+4) .ellipsis:=sb _ _ (NW (by omega)) za
 have nz:e≠n+5:=fun y=>by subst y;rw[zb]at oe1;cases oe1;simp at oe2
 refine wpAny_setField_rec zb (by simp) fun hc _ sc=>?_
 refine Nb (wpAny_isInstance (T := "StopIteration") (b:=true) ⟨oe,sc.extBut _ _ nz oe1,oe2⟩ isSubtype_stop (Ng (q hc fun b o hb e=>?_)))
 simp only[Nh,Nv,or_false,not_or]at hb
 exact sc.extBut _ _ hb.2.2.2.2.2 (sb _ _ hb.1 (sa.extBut _ _ hb.2.2.2.2.2 e))
theorem pY{k:Bool}{a:Addr}{xs:Array Value}{Q:Value→Shared→Prop}(h:SS k s.heap a xs)(q:Q (.ref s.heap.objs.size) { s with heap:=s.heap.push (itO k a) }):wpAny (model prog w) A (pyIter (.ref a)) Q E s:=by
 cases k with
 | true=>exact wpAny_pyIter_list h q
 | false=>exact wpAny_pyIter_tuple h q
end
theorem Aw(a b c:Value):checkTypeCall "zip" ⟨[a,b,c],[]⟩=pure ():=by kernel_rfl
theorem BD(a b c:Value):checkBuiltinCall "zip.__new__" ⟨[.type "zip",a,b,c],[]⟩=pure ():=by kernel_rfl
noncomputable abbrev yA(k1:Bool)(h:Heap)(l1:Addr):Heap:=h.push (itO k1 l1)
noncomputable abbrev yB(k1 k2:Bool)(h:Heap)(l1 l2:Addr):Heap:=(yA k1 h l1).push (itO k2 l2)
noncomputable abbrev yC(k1 k2 k3:Bool)(h:Heap)(l1 l2 l3:Addr):Heap:=(yB k1 k2 h l1 l2).push (itO k3 l3)
noncomputable abbrev yD(k1 k2 k3:Bool)(h:Heap)(l1 l2 l3:Addr):Heap:=(yC k1 k2 k3 h l1 l2 l3).push { cls:=.type "tuple",data:=.seq #[.ref h.objs.size,.ref (yA k1 h l1).objs.size,.ref (yB k1 k2 h l1 l2).objs.size] }
noncomputable abbrev yE(k1 k2 k3:Bool)(h:Heap)(l1 l2 l3:Addr):Heap:=(yD k1 k2 k3 h l1 l2 l3).push { cls:=.type "tuple",data:=.seq #[.none,.none,.none] }
noncomputable abbrev yF(k1 k2 k3:Bool)(h:Heap)(l1 l2 l3:Addr):Heap:=(yE k1 k2 k3 h l1 l2 l3).push { cls:=.type "zip",data:=.fields #[.none,.bool false,.bool false,.ref (yC k1 k2 k3 h l1 l2 l3).objs.size,.ref (yD k1 k2 k3 h l1 l2 l3).objs.size] }
set_option maxHeartbeats 2000000 in
theorem zt(k1 k2 k3:Bool)(l1 l2 l3:Addr)(xs ys zs:Array Value) :
  Meets (Builtin.«zip.__new__» ⟨[.type "zip",.ref l1,.ref l2,.ref l3],[]⟩) (fun _ R s=>SS k1 s.heap l1 xs∧SS k2 s.heap l2 ys∧SS k3 s.heap l3 zs∧R (.ok (.ret (.ref (yE k1 k2 k3 s.heap l1 l2 l3).objs.size))) { s with heap:=yF k1 k2 k3 s.heap l1 l2 l3 }) :=
 .of_wp fun prog w A R s h=>by
  obtain⟨hp,g,d,tk,os⟩:=s
  obtain⟨ha,hb,hc,h⟩:=h
  have hsub:=sub_zip
  have a1:SS k1 (Shared.heap ⟨hp,g,d,tk,os⟩) l1 xs:=ha
  have a2:SS k2 (Shared.heap ⟨hp.push (itO k1 l1),g,d,tk,os⟩) l2 ys:=hb.at fun o e=>Nc _ e
  have a3:SS k3 (Shared.heap ⟨(hp.push (itO k1 l1)).push (itO k2 l2),g,d,tk,os⟩) l3 zs:=hc.at fun o e=>Nc _ (Nc _ e)
  wp_walk using pY a1,pY a2,pY a3
  exact⟨_,rfl,h⟩
theorem Cq(a b c d:Value):argsOk "object.__init__" ⟨[a,b,c,d],[]⟩:=by
 unfold argsOk
 rw[signature?_of (id := "object.__init__") (n:=['_','_','t','i','n','i','_','_']) (o:=['t','c','e','j','b','o']) (by kernel_rfl) F.owner_object]
 kernel_rfl
section
variable {prog:Program} {w:World} {A:Around} {E:Value→Shared→Prop} {s:Shared}
theorem Gq{k1 k2 k3:Bool}{l1 l2 l3:Addr}{xs ys zs:Array Value}{Q:Value→Shared→Prop}(ha:SS k1 s.heap l1 xs)(hb:SS k2 s.heap l2 ys)(hc:SS k3 s.heap l3 zs)
  (q:∀ h',Ct k1 k2 k3 s.heap.objs.size l1 l2 l3 0 h'→h'.objs.size=s.heap.objs.size+6→(∀ b o,s.heap.get? b=some o→h'.get? b=some o)→Q (.ref (s.heap.objs.size+5)) { s with heap:=h' }) :
  wpAny (model prog w) A (call (.type "zip") [.ref l1,.ref l2,.ref l3]) Q E s:=by
 refine callType_new F.called_zip (by decide) (Aw _ _ _) (BD _ _ _) (fun obj=>Cq obj _ _ _) F.entry_zip_new (zt k1 k2 k3 l1 l2 l3 xs ys zs) ⟨ha,hb,hc,?_⟩
 have s1:(yA k1 s.heap l1).objs.size=s.heap.objs.size+1:=NT ..
 have s2:(yB k1 k2 s.heap l1 l2).objs.size=s.heap.objs.size+2:=(NT ..).trans (by rw[s1])
 have s3:(yC k1 k2 k3 s.heap l1 l2 l3).objs.size=s.heap.objs.size+3:=(NT ..).trans (by rw[s2])
 have s4:(yD k1 k2 k3 s.heap l1 l2 l3).objs.size=s.heap.objs.size+4:=(NT ..).trans (by rw[s3])
 have s5:(yE k1 k2 k3 s.heap l1 l2 l3).objs.size=s.heap.objs.size+5:=(NT ..).trans (by rw[s4])
 have s6:(yF k1 k2 k3 s.heap l1 l2 l3).objs.size=s.heap.objs.size+6:=(NT ..).trans (by rw[s5])
 have o6:(yF k1 k2 k3 s.heap l1 l2 l3).get? (yE k1 k2 k3 s.heap l1 l2 l3).objs.size=some _:=Ni _ rfl
 have u5:∀ b o,(yE k1 k2 k3 s.heap l1 l2 l3).get? b=some o→(yF k1 k2 k3 s.heap l1 l2 l3).get? b=some o:=fun b o e=>Nc _ e
 have o5:(yF k1 k2 k3 s.heap l1 l2 l3).get? (yD k1 k2 k3 s.heap l1 l2 l3).objs.size=some _:=u5 _ _ (Ni _ rfl)
 have u4:∀ b o,(yD k1 k2 k3 s.heap l1 l2 l3).get? b=some o→(yF k1 k2 k3 s.heap l1 l2 l3).get? b=some o:=fun b o e=>u5 b o (Nc _ e)
 have o4:(yF k1 k2 k3 s.heap l1 l2 l3).get? (yC k1 k2 k3 s.heap l1 l2 l3).objs.size=some _:=u4 _ _ (Ni _ rfl)
 have u3:∀ b o,(yC k1 k2 k3 s.heap l1 l2 l3).get? b=some o→(yF k1 k2 k3 s.heap l1 l2 l3).get? b=some o:=fun b o e=>u4 b o (Nc _ e)
 have o3:(yF k1 k2 k3 s.heap l1 l2 l3).get? (yB k1 k2 s.heap l1 l2).objs.size=some (itO k3 l3):=u3 _ _ (Ni _ rfl)
 have u2:∀ b o,(yB k1 k2 s.heap l1 l2).get? b=some o→(yF k1 k2 k3 s.heap l1 l2 l3).get? b=some o:=fun b o e=>u3 b o (Nc _ e)
 have o2:(yF k1 k2 k3 s.heap l1 l2 l3).get? (yA k1 s.heap l1).objs.size=some (itO k2 l2):=u2 _ _ (Ni _ rfl)
 have u1:∀ b o,(yA k1 s.heap l1).get? b=some o→(yF k1 k2 k3 s.heap l1 l2 l3).get? b=some o:=fun b o e=>u2 b o (Nc _ e)
 have o1:(yF k1 k2 k3 s.heap l1 l2 l3).get? s.heap.objs.size=some (itO k1 l1):=u1 _ _ (Ni _ rfl)
 have mk:∀(k:Bool) (b a:Addr),(yF k1 k2 k3 s.heap l1 l2 l3).get? b=some (itO k a)→SI k (yF k1 k2 k3 s.heap l1 l2 l3) b a 0:=fun k b a e=>by cases k<;>exact⟨_,e,rfl,rfl⟩
 show _∧_
 rw[s3,s4,s5]at o6
 rw[s4]at o5
 rw[s1,s2,s3]at o4
 rw[s2]at o3
 rw[s1]at o2
 rw[s5]
 exact⟨⟨_,o6,rfl⟩,q _ ⟨o6,o4,⟨_,_,_,o5⟩,mk _ _ _ o1,mk _ _ _ o2,mk _ _ _ o3⟩ s6 fun b o e=>u1 b o (Nc _ e)⟩
end
noncomputable def It3(K:Nd)(k1 k2 k3:Bool)(l1 l2 l3:Addr):It :=
 ⟨fun i H=>∃ xs ys zs x y z,SqK K k1 H l1 xs∧SqK K k2 H l2 ys∧SqK K k3 H l3 zs∧xs[i]? = some x∧ys[i]? = some y∧zs[i]? = some z,
  fun i H v H'=>∃ T x y z,H T=none∧v = .ref T∧H'=upd H T (.tup [x,y,z])∧(∀ xs,SqK K k1 H l1 xs→xs[i]? = some x)∧(∀ ys,SqK K k2 H l2 ys→ys[i]? = some y)∧∀ zs,SqK K k3 H l3 zs→zs[i]? = some z,
  fun i H=>∃ xs,SqK K k1 H l1 xs∧xs.length≤i⟩
noncomputable abbrev J4(n:Addr):List Addr:=[n,n+1,n+2,n+3,n+4,n+5]
theorem tm{P:Program}{w:World}{K:Nd}{elts:List Expr}{kx:Nat}{tp:Pos}{k1 k2 k3:Bool}{n l1 l2 l3:Addr}(b1:l1<n)(b2:l2<n)(b3:l3<n) :
  oK P w K (.Tuple elts kx tp) (It3 K k1 k2 k3 l1 l2 l3) (J4 n) (n+5) (Ct k1 k2 k3 n l1 l2 l3) where
 mem:=by simp[J4]
 obj:=fun i h ⟨iz,iI,⟨a,b,c',iO⟩,g1,g2,g3⟩ c hc=>by
  simp only[J4,Nh,Nv,or_false]at hc
  rcases hc with rfl|rfl|rfl|rfl|rfl|rfl
  ·exact g1.obj
  ·exact g2.obj
  ·exact g3.obj
  ·exact⟨_,iI,fun v e=>by cases e⟩
  ·exact⟨_,iO,fun v e=>by cases e⟩
  ·exact⟨_,iz,fun v e=>by cases e⟩
 keep:=fun i h h' ⟨iz,iI,⟨a,b,c,iO⟩,g1,g2,g3⟩ k=>⟨k _ (by simp[J4]) _ iz,k _ (by simp[J4]) _ iI,⟨a,b,c,k _ (by simp[J4]) _ iO⟩,g1.at fun o e=>k _ (by simp[J4]) o e,g2.at fun o e=>k _ (by simp[J4]) o e,g3.at fun o e=>k _ (by simp[J4]) o e⟩
 item:=by
  intro X hP hw hK hc i pins s σ H E I hf st hg
  subst hP hw hK
  obtain⟨xs,ys,zs,x,y,z,q1,q2,q3,hx,hy,hz⟩:=hg
  obtain⟨is1,r1,m1⟩:=I.sqk q1
  obtain⟨is2,r2,m2⟩:=I.sqk q2
  obtain⟨is3,r3,m3⟩:=I.sqk q3
  obtain⟨u1,hu1,ru1⟩:=r1.get hx
  obtain⟨u2,hu2,ru2⟩:=r2.get hy
  obtain⟨u3,hu3,ru3⟩:=r3.get hz
  have lt:∀{c o},s.heap.get? c=some o→c≠s.heap.objs.size:=fun e=>NC (Nn e)
  have nfp:∀ c∈J4 n,c≠s.heap.objs.size:=fun c hc=>by
   obtain⟨iz,iI,⟨a,b,c',iO⟩,g1,g2,g3⟩:=st
   simp only[J4,Nh,Nv,or_false]at hc
   rcases hc with rfl|rfl|rfl|rfl|rfl|rfl
   ·obtain⟨o,e,_⟩:=g1.obj;exact lt e
   ·obtain⟨o,e,_⟩:=g2.obj;exact lt e
   ·obtain⟨o,e,_⟩:=g3.obj;exact lt e
   ·exact lt iI
   ·exact lt iO
   ·exact lt iz
  refine EA b1 b2 b3 st m1 m2 m3 (v1:=u1) (v2:=u2) (v3:=u3) (by simpa using hu1) (by simpa using hu2) (by simpa using hu3) fun h' a0 a1 a2 a3 a4 a5 a6 a7 kk=>?_
  refine⟨_,rfl,?_⟩
  refine wpAny_letOwnedTupleGo_zip (s:={ s with heap:=h' }) a0 fun h2 d1 d2=>?_
  have I1:Inv X pins σ (upd H s.heap.objs.size (.tup [x,y,z])) { s with heap:=s.heap.push { cls:=.type "tuple",data:=.seq #[u1,u2,u3] },toks:=s.toks } :=
   I.laid (o:=.tup [x,y,z]) (fun b ob q=>Nc _ q) (Ny _) ⟨(show 3≤sizeLine by decide),[u1,u2,u3],.cons ru1 (.cons ru2 (.cons ru3 .nil)),IsTup.new _ _⟩
  have hf':∀ c∈J4 n,Y3 X pins (upd H s.heap.objs.size (.tup [x,y,z])) c:=fun c hc=>by
   obtain⟨f0,f1⟩:=hf c hc
   exact⟨by rw[g6 (nfp c hc)];exact f0,f1⟩
  have n5:n+5∈J4 n:=by simp[J4]
  have I2:Inv X pins σ (upd H s.heap.objs.size (.tup [x,y,z])) { s with heap:=h2,toks:=s.toks }:=by
   refine Inv.turnedN (s:={ s with heap:=s.heap.push { cls:=.type "tuple",data:=.seq #[u1,u2,u3] },toks:=s.toks }) (t':=s.toks) (h':=h2) (ch:=J4 n) I1 (fun c o hcn e=>?_) hf'
   refine d2.extBut c o (fun e=>hcn (e▸n5)) ?_
   by_cases hcs:c=s.heap.objs.size
   ·subst hcs
    have e':(s.heap.push { cls:=.type "tuple",data:=.seq #[u1,u2,u3] }).get? s.heap.objs.size=some o:=e
    rw[Ni _ rfl]at e'
    cases e'
    exact a6
   ·have e':(s.heap.push { cls:=.type "tuple",data:=.seq #[u1,u2,u3] }).get? c=some o:=e
    refine kk c o hcn ?_
    rw[Qk _ _ _ hcs]at e'
    exact e'
  have lift:∀ c o,c≠n+5→h'.get? c=some o→h2.get? c=some o:=fun c o n e=>d2.extBut c o n e
  refine⟨.ref s.heap.objs.size,_,I2,rfl,⟨_,x,y,z,I.hok.fresh (Ny _),rfl,rfl,fun ws hw=>by rw[I.sqk_inj hw q1];exact hx,fun ws hw=>by rw[I.sqk_inj hw q2];exact hy,fun ws hw=>by rw[I.sqk_inj hw q3];exact hz⟩,?_,fun c hc=>(hf' c hc).1⟩
  have ne:∀{x y:Nat},x<y→x≠y:=fun h=>NC h
  exact⟨d1,lift _ _ (ne (by omega)) a1,⟨_,_,_,lift _ _ (ne (by omega)) a2⟩,a3.at fun o e=>lift _ o (ne (by omega)) e,a4.at fun o e=>lift _ o (ne (by omega)) e,a5.at fun o e=>lift _ o (ne (by omega)) e⟩
 done:=by
  intro X hP hw hK hc i pins s σ H E I hf st hg
  subst hP hw hK
  obtain⟨xs,q1,hx⟩:=hg
  obtain⟨is1,r1,m1⟩:=I.sqk q1
  have e1:=r1.length
  exact ID (I.ok.hd hc) b1 st m1 (by simp;omega) fun h' kk=>⟨rfl,I.turnedN (t':=s.toks) (ch:=J4 n) (fun c o hcn e=>kk c o hcn e) hf⟩
 self:=fun _ _ _ _ _ st h=>wpAny_pyIter_zip st.1 h
def Ip(K:Nd)(ta:TA):TI:=fun σ H R=>ta σ H fun vs H1=>∃ k1 k2 k3 l1 l2 l3,vs=[.ref l1,.ref l2,.ref l3]∧(∃ xs,SqK K k1 H1 l1 xs)∧(∃ ys,SqK K k2 H1 l2 ys)∧(∃ zs,SqK K k3 H1 l3 zs)∧R (It3 K k1 k2 k3 l1 l2 l3) H1
theorem Bd{X:Cx}{elts:List Expr}{kx:Nat}{tp:Pos}{a b c:Expr}{ta:TA}{p pos:Pos}(hg:Gl X "zip")(hm:X.mg "zip" = none)(ha:PA X [a,b,c] ta)
  (hs:starEach [a,b,c] X.env=[(false,eval a X.env),(false,eval b X.env),(false,eval c X.env)]:=by rfl) (hs2:starEach [b,c] X.env=[(false,eval b X.env),(false,eval c X.env)]:=by rfl):PI X (.Tuple elts kx tp) (.Call (.Name "zip" p) [a,b,c] [] pos) (Ip X.K ta):=by
 intro pins s σ H R I h
 refine Call_ (O3 I hg hm PyProof.Rows.boot_zip (PyProof.Rows.callWith_type1 (thn (ha pos pins s σ H _ I h) fun us s1 ⟨vs,H1,I1,r1,q1⟩=>?_) (by rw[hs,hs2]) (by rw[hs2];rfl)))
 obtain⟨k1,k2,k3,l1,l2,l3,e,⟨xs,q2⟩,⟨ys,q3⟩,⟨zs,q4⟩,q⟩:=q1
 subst e
 cases r1 with
 | cons r rr =>
 cases rr with
 | cons r' rr =>
 cases rr with
 | cons r2 rr =>
  cases rr
  cases r
  cases r'
  cases r2
  obtain⟨is1,_,m1⟩:=I1.sqk q2
  obtain⟨is2,_,m2⟩:=I1.sqk q3
  obtain⟨is3,_,m3⟩:=I1.sqk q4
  have lt1:l1<s1.heap.objs.size:=by obtain⟨o,e⟩:=m1.obj;exact Nn e
  have lt2:l2<s1.heap.objs.size:=by obtain⟨o,e⟩:=m2.obj;exact Nn e
  have lt3:l3<s1.heap.objs.size:=by obtain⟨o,e⟩:=m3.obj;exact Nn e
  refine Gq m1 m2 m3 fun h' a1 a6 kk=>?_
  refine wpAny_pyIter_zip (s:={ s1 with heap:=h' }) a1.z ?_
  refine⟨s1.heap.objs.size+5,_,_,_,H1,rfl,I1.kept (t':=s1.toks) kk,tm lt1 lt2 lt3,a1,fun c hc=>?_,q⟩
  have hge:s1.heap.objs.size≤c:=by
   simp only[J4,Nh,Nv,or_false]at hc
   rcases hc with rfl|rfl|rfl|rfl|rfl|rfl
   ·exact Ny _
   all_goals exact OQ _ _
  exact I1.fpOk hge (I1.hok.fresh hge)
end L2
namespace DL
open PySem PySem.Spec L2
noncomputable def gp(ds es fs:List D):List D:=List.zipWith (fun a bc=>.tup [a,bc.1,bc.2]) ds (es.zip fs)
theorem sX{ds es fs:List D}{i:Nat}{a b c:D}(h1:ds[i]? = some a)(h2:es[i]? = some b)(h3:fs[i]? = some c):(gp ds es fs)[i]? = some (.tup [a,b,c]):=by
 unfold gp
 rw[QG,h1]
 have:(es.zip fs)[i]? = some (b,c):=by
  rw[List.getElem?_zip_eq_some]
  exact⟨h2,h3⟩
 rw[this]
theorem gn{ds es fs:List D}(h2:ds.length≤es.length)(h3:ds.length≤fs.length):(gp ds es fs).length=ds.length:=by
 unfold gp
 rw[List.length_zipWith,RG]
 omega
theorem sZ{K:Nd}{H1:Hp}{x y z:D}{l1 l2 l3:Addr}{ds es fs:List D}(g2:ds.length≤es.length)(g3:ds.length≤fs.length)(h1:Has K H1 (.ref l1) x)(h2:Has K H1 (.ref l2) y)(h3:Has K H1 (.ref l3) z) :
  lu K H1 (It3 K (aZ x) (aZ y) (aZ z) l1 l2 l3) (gp ds es fs) (fun M'=>m9 M' x ds∧m9 M' y es∧m9 M' z fs) where
 go:=fun i H' M' hi k am ⟨s1,s2,s3⟩=>by
  rw[gn g2 g3]at hi
  obtain⟨a,xs,e1,q1,m1⟩:=j7 s1 am (h1.mono k)
  obtain⟨b,ys,e2,q2,m2⟩:=j7 s2 am (h2.mono k)
  obtain⟨c,zs,e3,q3,m3⟩:=j7 s3 am (h3.mono k)
  cases e1;cases e2;cases e3
  exact⟨xs,ys,zs,_,_,_,q1,q2,q3,NB (by rw[m1.length];omega),NB (by rw[m2.length];omega),NB (by rw[m3.length];omega)⟩
 yld:=fun i H' M' v H'' hi k am ⟨s1,s2,s3⟩ ⟨T,a,b,c,hT,ev,eH,u1,u2,u3⟩=>by
  subst ev;subst eH
  obtain⟨a',xs,e1,q1,m1⟩:=j7 s1 am (h1.mono k)
  obtain⟨b',ys,e2,q2,m2⟩:=j7 s2 am (h2.mono k)
  obtain⟨c',zs,e3,q3,m3⟩:=j7 s3 am (h3.mono k)
  cases e1;cases e2;cases e3
  obtain⟨d1,g1,r1⟩:=m1.getV (u1 xs q1)
  obtain⟨d2,g2,r2⟩:=m2.getV (u2 ys q2)
  obtain⟨d3,g3,r3⟩:=m3.getV (u3 zs q3)
  have kt:KT H' (upd H' T (.tup [a,b,c])):=KT.alloc hT
  exact⟨_,sX g1 g2 g3,kt,am.alloc hT,.tup (SqT.of i6) (.cons (r1.mono kt) (.cons (r2.mono kt) (.cons (r3.mono kt) .nil)))⟩
 stop:=fun i H' M' hi k am ⟨s1,s2,s3⟩=>by
  rw[gn g2 g3]at hi
  obtain⟨a,xs,e1,q1,m1⟩:=j7 s1 am (h1.mono k)
  cases e1
  exact⟨xs,q1,by rw[m1.length];omega⟩
 up:=fun _ _ _ st hq=>⟨K2 st.1 hq,K2 st.2.1 hq,K2 st.2.2 hq⟩
def Ec(xs:List D)(M:Mem)(Q:List D→(Mem→Prop)→Mem→Prop):Prop:=∃ x y z ds es fs,xs=[x,y,z]∧m9 M x ds∧m9 M y es∧m9 M z fs∧ds.length≤es.length∧ds.length≤fs.length∧Q (gp ds es fs) (fun M'=>m9 M' x ds∧m9 M' y es∧m9 M' z fs) M
def ye(ta:DTA):DTI:=fun e M R=>ta e M fun xs M1=>Ec xs M1 R
theorem mr{ta:DTA}{e:Ev}{M:Mem}{R:List D→(Mem→Prop)→Mem→Prop}:ye ta e M R=ta e M fun xs M1=>Ec xs M1 R:=rfl
theorem xw{X:Cx}{ta:DTA}{elts:List Expr}{kx:Nat}{tp:Pos}{a b c:Expr}{p pos:Pos}(hg:Gl X "zip")(hm:X.mg "zip" = none)(ha:JA X [a,b,c] ta)
  (hs:starEach [a,b,c] X.env=[(false,eval a X.env),(false,eval b X.env),(false,eval c X.env)]:=by rfl) (hs2:starEach [b,c] X.env=[(false,eval b X.env),(false,eval c X.env)]:=by rfl):JI X (.Tuple elts kx tp) (.Call (.Name "zip" p) [a,b,c] [] pos) (ye ta):=⟨have ha:=ha.out;PI.imp (Bd hg hm ha hs hs2) fun σ H R ⟨e,M,R',ok,am,t,f⟩=>⟨e,M,_,ok,am,t,fun xs M1 ⟨x,y,z,ds,es,fs,z',s1,s2,s3,g2,g3,r⟩ vs H1 k1 a1 r1=>by
  subst z'
  cases r1 with
  | cons hv rr =>
  cases rr with
  | cons hv' rr =>
  cases rr with
  | cons hv'' rr =>
  cases rr
  obtain⟨a,zs,rfl,q1,m1⟩:=j7 s1 a1 hv
  obtain⟨b,ws,rfl,q2,m2⟩:=j7 s2 a1 hv'
  obtain⟨c,us,rfl,q3,m3⟩:=j7 s3 a1 hv''
  exact⟨_,_,_,a,b,c,rfl,⟨zs,q1⟩,⟨ws,q2⟩,⟨us,q3⟩,f _ _ M1 r H1 k1 a1 _ (sZ g2 g3 hv hv' hv'')⟩⟩⟩
end DL
namespace GM
noncomputable abbrev T3:=Rat × Rat × Rat
noncomputable def ve(a b:T3):Rat:=a.1*b.2.1 - a.2.1*b.1
noncomputable def tn(a b c:T3):Rat:=a.2.2*ve b c - b.2.2*ve a c+c.2.2*ve a b
noncomputable def dt(a:T3)(z:Rat × Rat):Rat:=a.1*z.1+a.2.1*z.2
noncomputable def ry(a b:T3):Rat × Rat:=((a.2.2*b.2.1 - b.2.2*a.2.1) / ve a b,(a.1*b.2.2 - b.1*a.2.2) / ve a b)
noncomputable def ng(a:T3):T3:=(-a.1,-a.2.1,a.2.2)
noncomputable def ngZ(z:Rat × Rat):Rat × Rat:=(-z.1,-z.2)
def Sup(ss:List T3)(z:Rat × Rat):Prop:=∀ s∈ss,dt s z≤s.2.2
structure GK(ss:List T3)(a b:T3):Prop where
 ve:0<ve a b
 mem:b∈ss
 hull:∀ s∈ss,0<GM.ve a s→0≤tn a b s
theorem Dz{a b:T3}(h:ve a b≠0):ve a b*(ry a b).1=a.2.2*b.2.1 - b.2.2*a.2.1∧ve a b*(ry a b).2=a.1*b.2.2 - b.1*a.2.2:=by
 unfold ry
 constructor
 ·show ve a b*((a.2.2*b.2.1 - b.2.2*a.2.1) / ve a b)=_
  rw[Pz,NZ h]
 ·show ve a b*((a.1*b.2.2 - b.1*a.2.2) / ve a b)=_
  rw[Pz,NZ h]
theorem D2{x:Rat}(h:0<x):x≠0:=by grind
theorem R9{x:Rat}(h:0<x):0≤x:=by grind
theorem tot(x y:Rat):x≤y∨y≤x:=by grind
theorem cn{v x y:Rat}(hv:v≠0)(h:v*x=v*y):x=y:=by grind
theorem wx{a b:T3}(h:ve a b≠0)(s:T3):ve a b*(s.2.2 - dt s (ry a b))=tn a b s:=by
 obtain⟨e1,e2⟩:=Dz h
 unfold dt tn
 have:ve a b*(s.2.2 - (s.1*(ry a b).1+s.2.1*(ry a b).2))=ve a b*s.2.2 - s.1*(ve a b*(ry a b).1) - s.2.1*(ve a b*(ry a b).2):=by grind
 rw[this,e1,e2]
 unfold ve
 grind
theorem AM{a b:T3}(h:ve a b≠0):dt a (ry a b)=a.2.2:=by
 have:=wx h a
 have e:tn a b a=0:=by unfold tn ve;grind
 rw[e]at this
 grind
theorem wB{a b:T3}(h:ve a b≠0):dt b (ry a b)=b.2.2:=by
 have:=wx h b
 have e:tn a b b=0:=by unfold tn ve;grind
 rw[e]at this
 grind
theorem AL{a b:T3}{z:Rat × Rat}(h:ve a b≠0)(h1:dt a z=a.2.2)(h2:dt b z=b.2.2):z=ry a b:=by
 obtain⟨e1,e2⟩:=Dz h
 have z1:ve a b*z.1=ve a b*(ry a b).1:=by
  rw[e1,← h1,← h2];unfold ve dt;grind
 have z2:ve a b*z.2=ve a b*(ry a b).2:=by
  rw[e2,← h1,← h2];unfold ve dt;grind
 exact Prod.ext (cn h z1) (cn h z2)
theorem wy(a b:T3):ry (ng a) (ng b)=ngZ (ry a b):=by
 have e:ve (ng a) (ng b)=ve a b:=by unfold ve ng;grind
 unfold ry ngZ
 rw[e]
 show((a.2.2*(-b.2.1) - b.2.2*(-a.2.1)) / ve a b,((-a.1)*b.2.2 - (-b.1)*a.2.2) / ve a b)=_
 exact Prod.ext (by show _ / _ = -(_ / _);grind) (by show _ / _ = -(_ / _);grind)
theorem Ht(a b s:T3)(z:Rat × Rat):tn a b s=(a.2.2 - dt a z)*ve b s - (b.2.2 - dt b z)*ve a s+(s.2.2 - dt s z)*ve a b:=by
 unfold tn ve dt;grind
theorem L3{v x:Rat}(hv:0<v)(h:0≤v*x):0≤x:=by
 rcases tot 0 x with z|z
 ·exact z
 ·by_cases e:x=0
  ·grind
  ·have:0<v * -x:=OY hv (by grind)
   grind
theorem EI{a b:T3}{ss:List T3}(h:0<ve a b)(ht:∀ s∈ss,0≤tn a b s):Sup ss (ry a b):=fun s hs=>by
 have:=wx (D2 h) s
 have h2:=ht s hs
 rw[← this]at h2
 have:=L3 h h2
 grind
theorem mG{ss:List T3}{a b:T3}{z:Rat × Rat}(hz:Sup ss z)(ha:dt a z=a.2.2)(e:GK ss a b):Sup ss (ry a b):=by
 refine EI e.ve fun s hs=>?_
 by_cases h:0<ve a s
 ·exact e.hull s hs h
 ·rw[Ht a b s z,ha]
  have h1:0≤(b.2.2 - dt b z)*(-ve a s):=NH (by have:=hz b e.mem;grind) (by grind)
  have h2:0≤(s.2.2 - dt s z)*ve a b:=NH (by have:=hz s hs;grind) (by have:=e.ve;grind)
  grind
theorem iX{ss:List T3}(sy:∀ s∈ss,ng s∈ss){z:Rat × Rat}(h:Sup ss z):Sup ss (ngZ z):=fun s hs=>by
 have:=h _ (sy s hs)
 have e:dt (ng s) z=dt s (ngZ z):=by unfold dt ng ngZ;grind
 rw[← e];exact this
theorem X7{a b w:T3}(h:0<ve a b)(z:Rat × Rat):ve a b*dt w z=ve w b*dt a z+ve a w*dt b z:=by
 unfold ve dt;grind
theorem oP{w:T3}:∀(x:T3) (l:List T3) (y:T3),0≤ve x w→0<ve w y→∃ ab∈(x :: l).zip (l++[y]),0≤ve ab.1 w∧0<ve w ab.2
 | x,[],y,h1,h2=>⟨(x,y),Nk,h1,h2⟩
 | x,x' :: l,y,h1,h2=>by
  by_cases h:0<ve w x'
  ·exact⟨(x,x'),Nk,h1,h⟩
  ·have e:ve x' w = -ve w x':=by unfold ve;grind
   obtain⟨ab,hm,q⟩:=oP x' l y (by rw[e];grind) h2
   exact⟨ab,Nj _ hm,q⟩
structure Rim(ss:List T3)(h0:T3)(l:List T3):Prop where
 ne:l≠[]
 sy:∀ s∈ss,ng s∈ss
 pos:∀ s∈ss,0<s.2.2
 all:∀ ab∈(h0 :: l).zip (l++[ng h0]),ab.1∈ss∧ab.2∈ss∧0<ve ab.1 ab.2∧Sup ss (ry ab.1 ab.2)
noncomputable def fh(h0:T3)(l:List T3):List (T3 × T3):=(h0 :: l).zip (l++[ng h0])
noncomputable def gh(h0:T3)(l:List T3):List (Rat × Rat):=(fh h0 l).map (fun ab=>ry ab.1 ab.2)++(fh h0 l).map (fun ab=>ngZ (ry ab.1 ab.2))
theorem K7{α β:Type}(f:α→β):∀(l m:List α),(l.map f).zip (m.map f)=(l.zip m).map fun p=>(f p.1,f p.2)
 | [],_=>rfl
 | _ :: _,[]=>rfl
 | a :: l,b :: m=>by rw[NO,NO,List.zip_cons_cons,K7 f l m];rfl
theorem DD(a:T3):ng (ng a)=a:=by
 obtain⟨p,q,r⟩:=a
 unfold ng
 show(- -p,- -q,r)=(p,q,r)
 rw[RH,RH]
theorem Rim.around{ss:List T3}{h0:T3}{l:List T3}(R:Rim ss h0 l)(w:T3)(hw:¬ (w.1=0∧w.2.1=0)) :
  ∃ a b,a∈ss∧b∈ss∧0<ve a b∧Sup ss (ry a b)∧ry a b∈gh h0 l∧0≤ve a w∧0<ve w b:=by
 have fromE:∀ ab∈fh h0 l,0≤ve ab.1 w→0<ve w ab.2→∃ a b,a∈ss∧b∈ss∧0<ve a b∧Sup ss (ry a b)∧ry a b∈gh h0 l∧0≤ve a w∧0<ve w b:=fun ab hm h1 h2=>by
  obtain⟨q1,q2,q3,q4⟩:=R.all ab hm
  exact⟨ab.1,ab.2,q1,q2,q3,q4,Oq _ (Nu.mpr ⟨ab,hm,rfl⟩),h1,h2⟩
 have fromN:∀ ab∈fh h0 l,0≤ve (ng ab.1) w→0<ve w (ng ab.2)→∃ a b,a∈ss∧b∈ss∧0<ve a b∧Sup ss (ry a b)∧ry a b∈gh h0 l∧0≤ve a w∧0<ve w b:=fun ab hm h1 h2=>by
  obtain⟨q1,q2,q3,q4⟩:=R.all ab hm
  refine⟨ng ab.1,ng ab.2,R.sy _ q1,R.sy _ q2,?_,?_,?_,h1,h2⟩
  ·have:ve (ng ab.1) (ng ab.2)=ve ab.1 ab.2:=by unfold ve ng;grind
   rw[this];exact q3
  ·rw[wy];exact iX R.sy q4
  ·rw[wy];exact NJ _ (Nu.mpr ⟨ab,hm,rfl⟩)
 have e0:ve w (ng h0)=ve h0 w:=by unfold ve ng;grind
 have e1:ve (ng h0) w = -ve h0 w:=by unfold ve ng;grind
 by_cases c1:0<ve h0 w
 ·obtain⟨ab,hm,k1,k2⟩:=oP h0 l (ng h0) (R9 c1) (by rw[e0];exact c1)
  exact fromE ab hm k1 k2
 by_cases c2:ve h0 w<0
 ·have e2:ve w h0 = -ve h0 w:=by unfold ve;grind
  obtain⟨ab,hm,k1,k2⟩:=oP (w:=w) (ng h0) (l.map ng) h0 (by rw[e1];clear fromE fromN;grind) (by rw[e2];clear fromE fromN;grind)
  have em:ab∈((h0 :: l).map ng).zip ((l++[ng h0]).map ng):=by
   rw[NF,NO,NO,OU,DD];exact hm
  rw[K7]at em
  obtain⟨cd,hcd,rfl⟩:=Nu.mp em
  exact fromN cd hcd k1 k2
 ·have c0:ve h0 w=0:=by clear fromE fromN;grind
  cases l with
  | nil=>exact absurd rfl R.ne
  | cons x l =>
   have hm:(h0,x)∈fh h0 (x :: l):=Nk
   obtain⟨q1,q2,q3,q4⟩:=R.all _ hm
   have q3:0<ve h0 x:=q3
   by_cases k:0<ve w x
   ·exact fromE _ hm (by show 0≤ve h0 w;rw[c0];exact PV) k
   ·refine fromN _ hm (by show 0≤ve (ng h0) w;rw[e1,c0];exact PV) ?_
    show 0<ve w (ng x)
    have ex:ve w (ng x) = -ve w x:=by unfold ve ng;grind
    rw[ex]
    clear fromE fromN
    have hne:ve w x≠0:=fun z=>hw (by
     unfold ve at c0 z q3
     have i1:w.1*(h0.1*x.2.1 - h0.2.1*x.1)=0:=by
      have:w.1*(h0.1*x.2.1 - h0.2.1*x.1)=h0.1*(w.1*x.2.1 - w.2.1*x.1)+x.1*(h0.1*w.2.1 - h0.2.1*w.1):=by grind
      rw[this,z,c0];grind
     have i2:w.2.1*(h0.1*x.2.1 - h0.2.1*x.1)=0:=by
      have:w.2.1*(h0.1*x.2.1 - h0.2.1*x.1)=h0.2.1*(w.1*x.2.1 - w.2.1*x.1)+x.2.1*(h0.1*w.2.1 - h0.2.1*w.1):=by grind
      rw[this,z,c0];grind
     have hv:h0.1*x.2.1 - h0.2.1*x.1≠0:=by grind
     exact⟨by grind,by grind⟩)
    grind
theorem Rim.most{ss:List T3}{h0:T3}{l:List T3}(R:Rim ss h0 l)(w:T3)(hw:¬ (w.1=0∧w.2.1=0)):∃ c∈gh h0 l,Sup ss c∧∀ z,Sup ss z→dt w z≤dt w c:=by
 obtain⟨a,b,ha,hb,hv,hs,hc,k1,k2⟩:=R.around w hw
 refine⟨_,hc,hs,fun z hz=>?_⟩
 have e1:=X7 (w:=w) hv z
 have e2:=X7 (w:=w) hv (ry a b)
 rw[AM (D2 hv),wB (D2 hv)]at e2
 have h1:0≤ve w b*(a.2.2 - dt a z):=NH (R9 k2) (by have:=hz a ha;grind)
 have h2:0≤ve a w*(b.2.2 - dt b z):=NH k1 (by have:=hz b hb;grind)
 have h3:0≤ve a b*(dt w (ry a b) - dt w z):=by grind
 have:=L3 hv h3
 grind
theorem DY{ss:List T3}{h0 hm f:T3}{z0 z:Rat × Rat}(sy:∀ s∈ss,ng s∈ss)(m0:h0∈ss)(mm:hm∈ss)(s0:Sup ss z0)(t0:dt h0 z0=h0.2.2)(sz:Sup ss z)(tz:dt hm z=hm.2.2)(e:GK ss hm f)(h1:0<ve h0 hm)(h2:ve h0 f≤0) :
  Sup ss (ry hm (ng h0)):=by
 have sf:=mG sz tz e
 have v1:0<ve hm (ng h0):=by
  have:ve hm (ng h0)=ve h0 hm:=by unfold ve ng;grind
  rw[this];exact h1
 have v2:0≤ve (ng h0) f:=by
  have:ve (ng h0) f = -ve h0 f:=by unfold ve ng;grind
  rw[this];grind
 have tf:=AM (a:=hm) (b:=f) (D2 e.ve)
 have tg:=wB (a:=hm) (b:=f) (D2 e.ve)
 have e1:=X7 (w:=ng h0) e.ve (ngZ z0)
 have e2:=X7 (w:=ng h0) e.ve (ry hm f)
 rw[tf,tg]at e2
 have sn:=iX sy s0
 have q1:=sn hm mm
 have q2:=sn f e.mem
 have g0:dt (ng h0) (ngZ z0)=(ng h0).2.2:=by
  have:dt (ng h0) (ngZ z0)=dt h0 z0:=by unfold dt ng ngZ;grind
  rw[this,t0];rfl
 rw[g0]at e1
 have q3:=sf (ng h0) (sy h0 m0)
 have p1:0≤ve (ng h0) f*(hm.2.2 - dt hm (ngZ z0)):=NH v2 (by grind)
 have p2:0≤ve hm (ng h0)*(f.2.2 - dt f (ngZ z0)):=NH (by grind) (by grind)
 have p3:0≤ve hm f*(dt (ng h0) (ry hm f) - (ng h0).2.2):=by grind
 have p4:=L3 e.ve p3
 have t3:dt (ng h0) (ry hm f)=(ng h0).2.2:=by grind
 rw[← AL (a:=hm) (b:=ng h0) (D2 v1) tf t3]
 exact sf
end GM
namespace GM
open PySem PySem.Spec L2 DL
open RM (sz)
noncomputable abbrev Sd:=Int × Int × Int × Int × Int
noncomputable def sdD(s:Sd):D:=.tup [.int s.1,.int s.2.1,.int s.2.2.1,.int s.2.2.2.1,.int s.2.2.2.2]
noncomputable def tri(s:Sd):T3:=((s.1:Rat),(s.2.1:Rat),(s.2.2.1:Rat))
noncomputable def veZ(a b:Sd):Int:=a.1*b.2.1 - a.2.1*b.1
noncomputable def tnZ(a b c:Sd):Int:=a.2.2.1*veZ b c - b.2.2.1*veZ a c+c.2.2.1*veZ a b
noncomputable def j4(s:Sd):Sd:=(-s.1,-s.2.1,s.2.2.1,s.2.2.2.1,-s.2.2.2.2)
noncomputable def F6(a b:Sd):Bool:=if a.1*b.2.2.1 - b.1*a.2.2.1=0 then decide (0<a.2.1*b.2.2.1 - b.2.1*a.2.2.1)else decide (0<a.1*b.2.2.1 - b.1*a.2.2.1)
noncomputable def D4(ss:List Sd)(f:Sd):Sd:=ss.foldl (fun f s=>if F6 s f=true then s else f) f
noncomputable def Cp(h:Sd)(f:Option Sd)(s:Sd):Bool:=match f with
 | none=>true
 | some g=>decide (tnZ h g s<0) || (decide (tnZ h g s=0) && decide (0<veZ g s))
noncomputable def R8(h:Sd)(f:Option Sd)(s:Sd):Option Sd:=if 0<veZ h s then(if Cp h f s=true then some s else f)else f
noncomputable def L5(h:Sd)(ss:List Sd):Option Sd:=ss.foldl (R8 h) none
noncomputable def R7(h0:Sd)(ss:List Sd):Nat→Option Sd→List Sd
 | 0,_=>[]
 | _+1,none=>[]
 | k+1,some h=>if 0<veZ h0 h then h :: R7 h0 ss k (L5 h ss)else[]
noncomputable def C3:List Sd→List Sd
 | []=>[]
 | s :: r=>D4 (s :: r) s :: R7 (D4 (s :: r) s) (s :: r) (s :: r).length (L5 (D4 (s :: r) s) (s :: r))
theorem w6(a b:Sd):ve (tri a) (tri b)=(veZ a b:Rat):=by
 unfold ve tri veZ
 rw[ON,Nx,Nx]
theorem EC(a b c:Sd):tn (tri a) (tri b) (tri c)=(tnZ a b c:Rat):=by
 unfold tn tnZ
 rw[w6,w6,w6,Po,ON,Nx,Nx,Nx]
 rfl
theorem A4{n:Int}:(0:Rat)<(n:Rat)↔0<n:=by
 have:=Rat.intCast_lt_intCast (a:=0) (b:=n)
 rw[← this];rfl
theorem oz{n:Int}:(0:Rat)≤(n:Rat)↔0≤n:=by
 have:=QA (a:=0) (b:=n)
 rw[← this];rfl
theorem D3(s:Sd):tri (j4 s)=ng (tri s):=by
 unfold tri j4 ng
 rw[Pp,Pp]
theorem ag{a b:Int}(ha:0<a)(h:0≤a*b):0≤b:=by
 rcases Rq b 0 with z|z
 ·have:=Int.mul_lt_mul_of_pos_left z ha
  omega
 ·exact z
theorem nR{a b:Int}(ha:0<a)(h:0<a*b):0<b:=by
 rcases Rq 0 b with z|z
 ·exact z
 ·have:=Int.mul_le_mul_of_nonneg_left z (Rr ha)
  omega
theorem plu(h g s t:Sd):veZ h g*tnZ h s t=veZ h s*tnZ h g t - veZ h t*tnZ h g s:=by unfold tnZ veZ;grind
theorem JL(h g s t:Sd):veZ h g*tnZ g s t=tnZ h g s*veZ t g - tnZ h g t*veZ s g:=by unfold tnZ veZ;grind
theorem JK(o h g s:Sd):veZ o g*veZ h s=veZ o h*veZ g s+veZ o s*veZ h g:=by unfold veZ;grind
structure yS(h:Sd)(pre:List Sd)(f:Option Sd):Prop where
 no:f=none→∀ s∈pre,¬ 0<veZ h s
 yes:∀ g,f=some g→g∈pre∧0<veZ h g∧∀ s∈pre,0<veZ h s→0≤tnZ h g s∧(tnZ h g s=0→veZ g s≤0)
theorem xk{h:Sd}{pre:List Sd}{f:Option Sd}{s:Sd}(hp:∀ s∈pre,0<s.2.2.1)(hs:0<s.2.2.1)(I:yS h pre f):yS h (pre++[s]) (R8 h f s):=by
 unfold R8
 by_cases c:0<veZ h s
 ·rw[if_pos c]
  by_cases b:Cp h f s=true
  ·rw[if_pos b]
   refine⟨fun z=>(by cases z),fun g e=>?_⟩
   cases e
   refine⟨by simp,c,fun t ht hv=>?_⟩
   have self:tnZ h s s=0∧veZ s s=0:=by unfold tnZ veZ;grind
   rcases NL.mp ht with ht|ht
   ·cases f with
    | none=>exact absurd hv (I.no rfl t ht)
    | some g =>
     obtain⟨g1,g2,g3⟩:=I.yes g rfl
     obtain⟨k1,k2⟩:=g3 t ht hv
     have b':tnZ h g s<0∨(tnZ h g s=0∧0<veZ g s):=by
      have b:(decide (tnZ h g s<0) || (decide (tnZ h g s=0) && decide (0<veZ g s)))=true:=b
      simpa using b
     have pl:=plu h g s t
     have n1:0≤veZ h s*tnZ h g t:=Pw (by omega) k1
     have n2:0≤veZ h t * -tnZ h g s:=Pw (by omega) (by omega)
     rw[RI]at n2
     refine⟨ag g2 (by omega),fun z=>?_⟩
     rw[z,Int.mul_zero]at pl
     have m1:veZ h s*tnZ h g t=0:=by omega
     have m2:veZ h t*tnZ h g s=0:=by omega
     have e1:tnZ h g t=0:=(PX.mp m1).resolve_left (by omega)
     have e2:tnZ h g s=0:=(PX.mp m2).resolve_left (by omega)
     have gs:0<veZ g s:=by omega
     have gt:=k2 e1
     have p2:=JL h g s t
     rw[e1,e2,Rt,Rt]at p2
     have e3:tnZ g s t=0:=(PX.mp (by omega:veZ h g*tnZ g s t=0)).resolve_left (by omega)
     have e4:g.2.2.1*veZ s t - s.2.2.1*veZ g t+t.2.2.1*veZ g s=0:=e3
     have rg:=hp g g1
     have rt:=hp t ht
     have q1:0≤s.2.2.1 * -veZ g t:=Pw (by omega) (by omega)
     have q2:0≤t.2.2.1*veZ g s:=Pw (by omega) (by omega)
     rw[RI]at q1
     have q3:0≤g.2.2.1 * -veZ s t:=by rw[RI];omega
     have:=ag rg q3
     omega
   ·rw[NS.mp ht,self.1,self.2]
    exact⟨Int.le_refl _,fun _=>Int.le_refl _⟩
  ·rw[if_neg b]
   cases f with
   | none=>exact absurd rfl b
   | some g =>
    obtain⟨g1,g2,g3⟩:=I.yes g rfl
    refine⟨fun z=>(by cases z),fun g' e=>?_⟩
    cases e
    refine⟨Oq _ g1,g2,fun t ht hv=>?_⟩
    rcases NL.mp ht with ht|ht
    ·exact g3 t ht hv
    ·rw[NS.mp ht]
     have b':¬ (tnZ h g s<0∨(tnZ h g s=0∧0<veZ g s)):=by
      intro z
      apply b
      show(decide (tnZ h g s<0) || (decide (tnZ h g s=0) && decide (0<veZ g s)))=true
      simpa using z
     exact⟨by omega,fun z=>by omega⟩
 ·rw[if_neg c]
  refine⟨fun z t ht=>?_,fun g e=>?_⟩
  ·rcases NL.mp ht with ht|ht
   ·exact I.no z t ht
   ·rw[NS.mp ht];exact c
  ·obtain⟨g1,g2,g3⟩:=I.yes g e
   refine⟨Oq _ g1,g2,fun t ht hv=>?_⟩
   rcases NL.mp ht with ht|ht
   ·exact g3 t ht hv
   ·rw[NS.mp ht]at hv;exact absurd hv c
theorem nP{h:Sd}:∀(l pre:List Sd) (f:Option Sd),(∀ s∈pre,0<s.2.2.1)→(∀ s∈l,0<s.2.2.1)→yS h pre f→yS h (pre++l) (l.foldl (R8 h) f)
 | [],pre,f,_,_,I=>by rw[Pk];exact I
 | s :: l,pre,f,h1,h2,I=>by
  have h3:=h2 s Nk
  have:=nP l (pre++[s]) (R8 h f s) (fun t ht=>by
   rcases NL.mp ht with ht|ht
   ·exact h1 t ht
   ·rw[NS.mp ht];exact h3) (fun t ht=>h2 t (Nj _ ht)) (xk h1 h3 I)
  rwa [Ql]at this
theorem di{h:Sd}{ss:List Sd}(hp:∀ s∈ss,0<s.2.2.1):yS h ss (L5 h ss):=by
 have:=nP (h:=h) ss [] none (fun _ z=>nomatch z) hp ⟨fun _ _ z=>(nomatch z),fun _ z=>(nomatch z)⟩
 rwa [RJ]at this
theorem K6{h f:Sd}{ss:List Sd}(hp:∀ s∈ss,0<s.2.2.1)(e:L5 h ss=some f):f∈ss∧0<veZ h f∧GK (ss.map tri) (tri h) (tri f):=by
 obtain⟨h1,h2,h3⟩:=(di hp).yes f e
 refine⟨h1,h2,by rw[w6];exact A4.mpr h2,Nu.mpr ⟨f,h1,rfl⟩,fun s hs hv=>?_⟩
 obtain⟨t,ht,rfl⟩:=Nu.mp hs
 rw[w6]at hv
 rw[EC]
 exact oz.mpr (h3 t ht (A4.mp hv)).1
theorem aU:∀(ss:List Sd) (f:Sd),D4 ss f=f∨D4 ss f∈ss
 | [],f=>.inl rfl
 | s :: r,f=>by
  show D4 r (if F6 s f=true then s else f)=f∨_
  rcases aU r (if F6 s f=true then s else f)with h|h
  ·rw[h]
   split
   ·rename_i c;right;show D4 r (if F6 s f=true then s else f)∈_;rw[h,if_pos c];exact Nk
   ·exact .inl rfl
  ·exact .inr (Nj _ h)
theorem BN{s f:Sd}(h:F6 s f=true):f.1*s.2.2.1≤s.1*f.2.2.1:=by
 unfold F6 at h
 split at h
 ·omega
 ·have:=of_decide_eq_true h;omega
theorem BO{s f:Sd}(h:¬ F6 s f=true):s.1*f.2.2.1≤f.1*s.2.2.1:=by
 unfold F6 at h
 split at h
 ·omega
 ·have:¬ 0<s.1*f.2.2.1 - f.1*s.2.2.1:=fun z=>h (decide_eq_true z)
  omega
theorem Ih{a b c x y z:Int}(hy:0<y)(hx:0<x)(hz:0<z)(h1:a*y≤b*x)(h2:b*z≤c*y):a*z≤c*x:=by
 have e1:=PB h1 (Rr hz)
 have e2:=PB h2 (Rr hx)
 have e3:0≤y*(c*x - a*z):=by
  have:y*(c*x - a*z)=c*y*x - a*y*z:=by grind
  have e4:b*x*z=b*z*x:=by grind
  omega
 have:=ag hy e3
 omega
theorem rR:∀(ss:List Sd) (f:Sd) (t:Sd),(∀ s∈ss,0<s.2.2.1)→0<f.2.2.1→0<t.2.2.1→(t∈ss∨t.1*f.2.2.1≤f.1*t.2.2.1)→t.1*(D4 ss f).2.2.1≤(D4 ss f).1*t.2.2.1
 | [],f,t,_,_,_,h=>by
  rcases h with h|h
  ·cases h
  ·exact h
 | s :: r,f,t,hp,hf,ht,h=>by
  have hs:=hp s Nk
  show t.1*(D4 r (if F6 s f=true then s else f)).2.2.1≤(D4 r (if F6 s f=true then s else f)).1*t.2.2.1
  refine rR r _ t (fun s hs=>hp s (Nj _ hs)) (by split<;>assumption) ht ?_
  rcases h with h|h
  ·rcases Nh.mp h with rfl|h
   ·right
    split
    ·omega
    ·rename_i c;exact BO c
   ·exact .inl h
  ·right
   split
   ·rename_i c
    exact Ih hf ht hs h (BN c)
   ·exact h
theorem oq{α:Type}{p q:α→Bool}{x:α}:∀{l:List α},(∀ y∈l,q y=true→p y=true)→x∈l→p x=true→q x=false→(l.filter q).length<(l.filter p).length
 | [],_,h,_,_=>nomatch h
 | y :: l,h1,h2,h3,h4=>by
  have le:∀(l:List α),(∀ y∈l,q y=true→p y=true)→(l.filter q).length≤(l.filter p).length:=fun l=>by
   induction l with
   | nil=>intro _;exact Ny _
   | cons a l ih =>
    intro h
    have:=ih fun y hy=>h y (Nj _ hy)
    by_cases qa:q a=true
    ·rw[NN qa,NN (h a Nk qa),NV,NV];omega
    ·rw[Oe qa]
     by_cases pa:p a=true
     ·rw[NN pa,NV];omega
     ·rw[Oe pa];exact this
  have hl:=le l fun y hy=>h1 y (Nj _ hy)
  rcases Nh.mp h2 with rfl|h2
  ·rw[NN h3,Oe (by rw[h4];decide),NV];omega
  ·have ih:=oq (fun y hy=>h1 y (Nj _ hy)) h2 h3 h4
   by_cases qa:q y=true
   ·rw[NN qa,NN (h1 y Nk qa),NV,NV];omega
   ·rw[Oe qa]
    by_cases pa:p y=true
    ·rw[NN pa,NV];omega
    ·rw[Oe pa];exact ih
noncomputable def ue(h0:Sd)(ss:List Sd)(h:Sd):Nat:=(ss.filter fun s=>decide (0<veZ h s) && decide (0<veZ h0 s)).length
theorem yv(h0:Sd)(ss:List Sd)(h:Sd):ue h0 ss h≤ss.length:=OH _ _
theorem bq{h0 h f:Sd}{ss:List Sd}(hp:∀ s∈ss,0<s.2.2.1)(e:L5 h ss=some f)(h1:h=h0∨0<veZ h0 h)(h2:0<veZ h0 f):ue h0 ss f<ue h0 ss h:=by
 obtain⟨m,v,_⟩:=K6 hp e
 unfold ue
 refine oq (x:=f) (fun s _ hq=>?_) m (by rw[decide_eq_true v,decide_eq_true h2];rfl) ?_
 ·rw[NP,decide_eq_true_eq,decide_eq_true_eq]at hq ⊢
  refine⟨?_,hq.2⟩
  rcases h1 with rfl|h1
  ·exact hq.2
  ·have i:=JK h0 h f s
   have a1:=Pd h1 hq.1
   have a2:=Pd hq.2 v
   exact nR h2 (by omega)
 ·have:veZ f f=0:=by unfold veZ;grind
  rw[this];rfl
theorem AS{h0:Sd}{ss:List Sd}(hp:∀ s∈ss,0<s.2.2.1)(sy:∀ s∈ss,j4 s∈ss)(m0:h0∈ss){z0:Rat × Rat}(s0:Sup (ss.map tri) z0)(t0:dt (tri h0) z0=(tri h0).2.2):∀(k:Nat) (a:Sd) (z:Rat × Rat),a∈ss→Sup (ss.map tri) z→dt (tri a) z=(tri a).2.2 →
  (a=h0∨0<veZ h0 a)→(a=h0→∃ f,L5 h0 ss=some f)→(∀ f,L5 a ss=some f→0<veZ h0 f→ue h0 ss f<k) →
  ∀ ab∈(a :: R7 h0 ss k (L5 a ss)).zip (R7 h0 ss k (L5 a ss)++[j4 h0]),ab.1∈ss∧ab.2∈ss∧0<veZ ab.1 ab.2∧Sup (ss.map tri) (ry (tri ab.1) (tri ab.2)):=by
 have syT:∀ s∈ss.map tri,ng s∈ss.map tri:=fun s hs=>by
  obtain⟨t,ht,rfl⟩:=Nu.mp hs
  rw[← D3];exact Nu.mpr ⟨_,sy t ht,rfl⟩
 intro k
 induction k with
 | zero =>
  intro a z ha hz ta h1 h2 h3 ab hab
  cases e:L5 a ss with
  | none =>
   exfalso
   rcases h1 with rfl|h1
   ·obtain⟨f,hf⟩:=h2 rfl;rw[e]at hf;cases hf
   ·have:=(di (h:=a) hp).no e (j4 h0) (sy h0 m0)
    exact this (by rw[show veZ a (j4 h0)=veZ h0 a by unfold veZ j4;grind];exact h1)
  | some f =>
   obtain⟨mf,vf,ef⟩:=K6 hp e
   by_cases c:0<veZ h0 f
   ·exact absurd (h3 f e c) (RK _)
   ·rw[e]at hab
    have hab:ab∈[(a,j4 h0)]:=hab
    rw[NS.mp hab]
    have hv:0<veZ h0 a:=by
     rcases h1 with rfl|h1
     ·exact absurd vf c
     ·exact h1
    have ev:veZ a (j4 h0)=veZ h0 a:=by unfold veZ j4;grind
    refine⟨ha,sy h0 m0,by show 0<veZ a (j4 h0);rw[ev];exact hv,?_⟩
    show Sup _ (ry (tri a) (tri (j4 h0)))
    rw[D3]
    exact DY syT (Nu.mpr ⟨h0,m0,rfl⟩) (Nu.mpr ⟨a,ha,rfl⟩) s0 t0 hz ta ef (by rw[w6];exact A4.mpr hv) (by rw[w6];have:=A4 (n:=veZ h0 f);grind)
 | succ k ih =>
  intro a z ha hz ta h1 h2 h3 ab hab
  cases e:L5 a ss with
  | none =>
   exfalso
   rcases h1 with rfl|h1
   ·obtain⟨f,hf⟩:=h2 rfl;rw[e]at hf;cases hf
   ·have:=(di (h:=a) hp).no e (j4 h0) (sy h0 m0)
    exact this (by rw[show veZ a (j4 h0)=veZ h0 a by unfold veZ j4;grind];exact h1)
  | some f =>
   obtain⟨mf,vf,ef⟩:=K6 hp e
   rw[e]at hab
   by_cases c:0<veZ h0 f
   ·have er:R7 h0 ss (k+1) (some f)=f :: R7 h0 ss k (L5 f ss):=if_pos c
    rw[er]at hab
    have sf:=mG hz ta ef
    rcases Nh.mp hab with rfl|hab
    ·exact⟨ha,mf,vf,sf⟩
    ·refine ih f (ry (tri a) (tri f)) mf sf (wB (D2 ef.ve)) (.inr c) (fun z=>?_) (fun g hg hc=>?_) ab hab
     ·subst z
      have:veZ f f=0:=by unfold veZ;grind
      omega
     ·have:=bq hp hg (.inr c) hc
      have:=h3 f e c
      omega
   ·have er:R7 h0 ss (k+1) (some f)=[]:=if_neg c
    rw[er]at hab
    have hab:ab∈[(a,j4 h0)]:=hab
    rw[NS.mp hab]
    have hv:0<veZ h0 a:=by
     rcases h1 with rfl|h1
     ·exact absurd vf c
     ·exact h1
    have ev:veZ a (j4 h0)=veZ h0 a:=by unfold veZ j4;grind
    refine⟨ha,sy h0 m0,by show 0<veZ a (j4 h0);rw[ev];exact hv,?_⟩
    show Sup _ (ry (tri a) (tri (j4 h0)))
    rw[D3]
    exact DY syT (Nu.mpr ⟨h0,m0,rfl⟩) (Nu.mpr ⟨a,ha,rfl⟩) s0 t0 hz ta ef (by rw[w6];exact A4.mpr hv) (by rw[w6];have:=A4 (n:=veZ h0 f);grind)
noncomputable def B0(c d:Nat):Nat:=c / Ow c d*d
theorem S0(c d:Nat):B0 c d=RT c d:=by
 unfold B0 RT
 rw[OX,← Nat.mul_div_assoc _ (Nat.gcd_dvd_left c d),OX]
noncomputable def cbL(l:T3):Nat:=B0 (B0 (B0 1 l.1.den) l.2.1.den) l.2.2.den
theorem kT(l:T3):cbL l=RT (RT l.1.den l.2.1.den) l.2.2.den:=by
 unfold cbL
 rw[S0,S0,S0,Nat.lcm_one_left]
theorem Cj(l:T3):0<cbL l:=by
 rw[kT]
 exact Qr (Qr l.1.den_pos l.2.1.den_pos) l.2.2.den_pos
theorem IZ(l:T3):l.1.den ∣ cbL l:=by rw[kT];exact Nat.dvd_trans (PD _ _) (PD _ _)
theorem IY(l:T3):l.2.1.den ∣ cbL l:=by rw[kT];exact Nat.dvd_trans (Qm _ _) (PD _ _)
theorem IX(l:T3):l.2.2.den ∣ cbL l:=by rw[kT];exact Qm _ _
noncomputable def P9(q:Rat)(c:Nat):Int:=q.num*((c / q.den:Nat):Int)
theorem ar{q:Rat}{c:Nat}(h:q.den ∣ c):(P9 q c:Rat)=q*(c:Rat):=by
 obtain⟨k,rfl⟩:=h
 unfold P9
 rw[Nat.mul_div_cancel_left _ q.den_pos,Nx,← K3 q,Rat.natCast_mul,Ob]
 grind
noncomputable def h9(l:T3)(i:Nat):Sd:=(P9 l.1 (cbL l),P9 l.2.1 (cbL l),P9 l.2.2 (cbL l),(i:Int),(cbL l:Int))
noncomputable def N8:Nat→List T3→List Sd
 | _,[]=>[]
 | i,l :: r=>h9 l i :: j4 (h9 l i) :: N8 (i+1) r
noncomputable abbrev f7(ls:List T3):List Sd:=N8 0 ls
theorem C8(l:T3)(i:Nat):tri (h9 l i)=(l.1*(cbL l:Rat),l.2.1*(cbL l:Rat),l.2.2*(cbL l:Rat)):=by
 unfold tri h9
 rw[ar (IZ l),ar (IY l),ar (IX l)]
theorem sH(s:Sd):j4 (j4 s)=s:=by
 obtain⟨a,b,c,d,e⟩:=s
 unfold j4
 show(- -a,- -b,c,d,- -e)=_
 rw[RL,RL,RL]
theorem F3{s:Sd}:∀{ls:List T3} {i:Nat},s∈N8 i ls→∃ l∈ls,∃ j,s=h9 l j∨s=j4 (h9 l j)
 | [],_,h=>nomatch h
 | l :: r,i,h=>by
  rcases Nh.mp h with h|h
  ·exact⟨l,Nk,i,.inl h⟩
  ·rcases Nh.mp h with h|h
   ·exact⟨l,Nk,i,.inr h⟩
   ·obtain⟨l',h1,j,h2⟩:=F3 h
    exact⟨l',Nj _ h1,j,h2⟩
theorem cQ{l:T3}:∀{ls:List T3} {i:Nat},l∈ls→∃ j,h9 l j∈N8 i ls∧j4 (h9 l j)∈N8 i ls
 | [],_,h=>nomatch h
 | m :: r,i,h=>by
  rcases Nh.mp h with rfl|h
  ·exact⟨i,Nk,Nj _ Nk⟩
  ·obtain⟨j,h1,h2⟩:=cQ (i:=i+1) h
   exact⟨j,Nj _ (Nj _ h1),Nj _ (Nj _ h2)⟩
theorem jd:∀{ls:List T3} {i:Nat},∀ s∈N8 i ls,j4 s∈N8 i ls
 | [],_,_,h=>nomatch h
 | l :: r,i,s,h=>by
  rcases Nh.mp h with rfl|h
  ·exact Nj _ Nk
  ·rcases Nh.mp h with rfl|h
   ·rw[sH];exact Nk
   ·exact Nj _ (Nj _ (jd s h))
structure LineOk(l:T3):Prop where
 ne:¬ (l.1=0∧l.2.1=0)
 pos:0<l.2.2
theorem F8(l:T3):(0:Rat)<(cbL l:Rat):=by
 exact Rat.natCast_pos.mpr (Cj l)
theorem cN{ls:List T3}(h:∀ l∈ls,LineOk l){i:Nat}:∀ s∈N8 i ls,0<s.2.2.1:=fun s hs=>by
 obtain⟨l,hl,j,e⟩:=F3 hs
 have hr:s.2.2.1=(h9 l j).2.2.1:=by rcases e with rfl|rfl<;>rfl
 rw[hr]
 have e2:((h9 l j).2.2.1:Rat)=l.2.2*(cbL l:Rat):=congrArg (fun t:T3=>t.2.2) (C8 l j)
 refine A4.mp ?_
 rw[e2]
 exact OY (h l hl).pos (F8 l)
theorem E3(l:T3)(y u:Rat):G0 l y u=true↔l.1*y+l.2.1*u≤l.2.2∧-(l.1*y+l.2.1*u)≤l.2.2:=by
 unfold G0 j0
 rw[decide_eq_true_iff]
 split<;>grind
theorem aY{c x r:Rat}(hc:0<c):x*c≤r*c↔x≤r:=by
 constructor
 ·intro h
  have:0≤c*(r - x):=by grind
  have:=L3 hc this
  grind
 ·intro h
  have:0≤(r - x)*c:=NH (by grind) (R9 hc)
  grind
theorem dq(l:T3)(j:Nat)(z:Rat × Rat):dt (tri (h9 l j)) z=(l.1*z.1+l.2.1*z.2)*(cbL l:Rat):=by
 rw[C8];unfold dt;grind
theorem qd(s:Sd)(z:Rat × Rat):dt (tri (j4 s)) z = -dt (tri s) z:=by rw[D3];unfold dt ng;grind
theorem cM(ls:List T3)(z:Rat × Rat):Sup ((f7 ls).map tri) z↔C6 ls z.1 z.2=true:=by
 unfold C6
 rw[OF]
 constructor
 ·intro h l hl
  obtain⟨j,h1,h2⟩:=cQ (i:=0) hl
  have a1:=h _ (Nu.mpr ⟨_,h1,rfl⟩)
  have a2:=h _ (Nu.mpr ⟨_,h2,rfl⟩)
  rw[qd]at a2
  have e:(tri (j4 (h9 l j))).2.2=(tri (h9 l j)).2.2:=rfl
  rw[e]at a2
  rw[dq,C8]at a1 a2
  rw[E3]
  refine⟨(aY (F8 l)).mp a1,(aY (F8 l)).mp ?_⟩
  rw[PY];exact a2
 ·intro h s hs
  obtain⟨t,ht,rfl⟩:=Nu.mp hs
  obtain⟨l,hl,j,e⟩:=F3 ht
  obtain⟨b1,b2⟩:=(E3 l z.1 z.2).mp (h l hl)
  rcases e with rfl|rfl
  ·rw[dq,C8];exact(aY (F8 l)).mpr b1
  ·rw[qd]
   show -dt (tri (h9 l j)) z≤(tri (h9 l j)).2.2
   rw[dq,C8,← PY]
   exact(aY (F8 l)).mpr b2
theorem E9{ls:List T3}(hok:∀ l∈ls,LineOk l)(hne:ls≠[]):∃ h0 l,C3 (f7 ls)=h0 :: l∧h0∈f7 ls ∧
  ((l=[]∧∀ s∈f7 ls,veZ h0 s=0)∨(l≠[]∧Rim ((f7 ls).map tri) (tri h0) (l.map tri)∧∀ ab∈(h0 :: l).zip (l++[j4 h0]),ab.1∈f7 ls∧ab.2∈f7 ls∧0<veZ ab.1 ab.2)):=by
 have hp:∀ s∈f7 ls,0<s.2.2.1:=cN hok (i:=0)
 have sy:∀ s∈f7 ls,j4 s∈f7 ls:=jd (ls:=ls) (i:=0)
 have nn:f7 ls≠[]:=by
  cases ls with
  | nil=>exact absurd rfl hne
  | cons a b=>exact fun z=>nomatch z
 generalize f7 ls=ss at *
 obtain⟨s1,r,rfl⟩:∃ s1 r,ss=s1 :: r:=by
  cases ss with
  | nil=>exact absurd rfl nn
  | cons a b=>exact⟨_,_,rfl⟩
 refine⟨D4 (s1 :: r) s1,_,rfl,?_⟩
 have m0:D4 (s1 :: r) s1∈s1 :: r:=by
  rcases aU (s1 :: r) s1 with h|h
  ·rw[h];exact Nk
  ·exact h
 have le:=fun t ht=>rR (s1 :: r) s1 t hp (hp s1 Nk) (hp t ht) (.inl ht)
 generalize D4 (s1 :: r) s1=h0 at *
 generalize s1 :: r=ss at *
 refine⟨m0,?_⟩
 cases e:L5 h0 ss with
 | none =>
  left
  have no:=(di (h:=h0) hp).no e
  refine⟨by cases ss.length<;>rfl,fun s hs=>?_⟩
  have a1:=no s hs
  have a2:=no _ (sy s hs)
  have:veZ h0 (j4 s) = -veZ h0 s:=by unfold veZ j4;grind
  omega
 | some f =>
  right
  obtain⟨mf,vf,ef⟩:=K6 hp e
  have hl:ss.length≠0:=fun z=>by rw[PF z]at m0;cases m0
  have r0:=hp h0 m0
  have p0:0<h0.1:=by
   rcases Rq 0 h0.1 with z|z
   ·exact z
   ·exfalso
    have L8:∀ s∈ss,s.1=0:=fun s hs=>by
     have q1:=le s hs
     have q2:=le _ (sy s hs)
     have rs:=hp s hs
     have q2:-s.1*h0.2.2.1≤h0.1*s.2.2.1:=q2
     have q3:0 ≤ -h0.1*s.2.2.1:=Pw (by omega) (by omega)
     rw[Int.neg_mul]at q2 q3
     have q4:s.1*h0.2.2.1=0:=by omega
     exact(PX.mp q4).resolve_right (by omega)
    have:veZ h0 f=0:=by
     unfold veZ;rw[L8 h0 m0,L8 f mf,Rt,Int.mul_zero];rfl
    omega
  have p0R:(0:Rat)<(h0.1:Rat):=A4.mpr p0
  have s0:Sup (ss.map tri) ((h0.2.2.1:Rat) / (h0.1:Rat),0):=fun s hs=>by
   obtain⟨t,ht,rfl⟩:=Nu.mp hs
   have q:=le t ht
   have q':((t.1*h0.2.2.1:Int):Rat)≤((h0.1*t.2.2.1:Int):Rat):=QA.mpr q
   rw[Nx,Nx]at q'
   unfold dt tri
   show(t.1:Rat)*((h0.2.2.1:Rat) / (h0.1:Rat))+(t.2.1:Rat)*0≤(t.2.2.1:Rat)
   have e1:(h0.1:Rat)*((h0.2.2.1:Rat) / (h0.1:Rat))=(h0.2.2.1:Rat):=by rw[Pz,NZ (D2 p0R)]
   have:0≤(h0.1:Rat)*((t.2.2.1:Rat) - (t.1:Rat)*((h0.2.2.1:Rat) / (h0.1:Rat))):=by
    generalize (h0.2.2.1:Rat) / (h0.1:Rat)=w at *
    generalize (h0.1:Rat)=A at *
    generalize (h0.2.2.1:Rat)=B at *
    generalize (t.1:Rat)=C at *
    generalize (t.2.2.1:Rat)=E at *
    subst e1
    clear le hp sy
    grind
   have:=L3 p0R this
   rw[QI,Qc]
   generalize (t.1:Rat)*((h0.2.2.1:Rat) / (h0.1:Rat))=w at *
   generalize (t.2.2.1:Rat)=E at *
   clear le hp sy
   grind
  have t0:dt (tri h0) ((h0.2.2.1:Rat) / (h0.1:Rat),0)=(tri h0).2.2:=by
   unfold dt tri
   show(h0.1:Rat)*((h0.2.2.1:Rat) / (h0.1:Rat))+(h0.2.1:Rat)*0=(h0.2.2.1:Rat)
   rw[Pz,NZ (D2 p0R),QI,Qc]
  have all:=AS hp sy m0 s0 t0 ss.length h0 _ m0 s0 t0 (.inl rfl) (fun _=>⟨f,e⟩) (fun g hg hv=>Nf (bq hp hg (.inl rfl) hv) (yv h0 ss h0))
  rw[e]at all
  refine⟨?_,⟨?_,fun s hs=>?_,fun s hs=>?_,fun ab hab=>?_⟩,fun ab hab=>?_⟩
  ·obtain⟨k,hk⟩:∃ k,ss.length=k+1:=⟨ss.length - 1,by omega⟩
   rw[hk]
   show(if 0<veZ h0 f then _ else _)≠[]
   rw[if_pos vf];exact fun z=>nomatch z
  ·obtain⟨k,hk⟩:∃ k,ss.length=k+1:=⟨ss.length - 1,by omega⟩
   rw[hk]
   show(if 0<veZ h0 f then _ else _:List Sd).map tri≠[]
   rw[if_pos vf];exact fun z=>nomatch z
  ·obtain⟨t,ht,rfl⟩:=Nu.mp hs
   rw[← D3];exact Nu.mpr ⟨_,sy t ht,rfl⟩
  ·obtain⟨t,ht,rfl⟩:=Nu.mp hs
   exact A4.mpr (hp t ht)
  ·have em:ab∈((h0 :: R7 h0 ss ss.length (some f)).map tri).zip ((R7 h0 ss ss.length (some f)++[j4 h0]).map tri):=by
    rw[NF,NO,NO,OU,D3];exact hab
   rw[K7]at em
   obtain⟨cd,hcd,rfl⟩:=Nu.mp em
   obtain⟨q1,q2,q3,q4⟩:=all cd hcd
   exact⟨Nu.mpr ⟨_,q1,rfl⟩,Nu.mpr ⟨_,q2,rfl⟩,by show 0<ve (tri cd.1) (tri cd.2);rw[w6];exact A4.mpr q3,q4⟩
  ·obtain⟨q1,q2,q3,q4⟩:=all ab hab
   exact⟨q1,q2,q3⟩
noncomputable def JU(a b:Rat × Rat):Bool:=if a.1=b.1 then decide (a.2<b.2)else decide (a.1<b.1)
noncomputable def Bc(rs:List (Rat × Rat)):Nat→Nat
 | 0=>0
 | i+1=>if JU (rs.getD i (0,0)) (rs.getD (Bc rs i) (0,0))=true then i else Bc rs i
noncomputable def EY(rs:List (Rat × Rat)):List (Rat × Rat):=rs.drop (Bc rs rs.length)++rs.take (Bc rs rs.length)
noncomputable def nu(h0:Sd)(l:List Sd):List (Rat × Rat):=((h0 :: l).zip (l++[j4 h0])).map fun ab=>ry (tri ab.1) (tri ab.2)
noncomputable def yu(ls:List T3):Option (List (Rat × Rat)):=match C3 (f7 ls)with
 | []=>none
 | [_]=>none
 | h0 :: x :: l=>some (EY (nu h0 (x :: l)++(nu h0 (x :: l)).map ngZ))
theorem AN{rs:List (Rat × Rat)}{z:Rat × Rat}:z∈EY rs↔z∈rs:=by
 unfold EY
 rw[NL,Or.comm,← NL,List.take_append_drop]
theorem wD(h0:Sd)(l:List Sd):nu h0 l++(nu h0 l).map ngZ=gh (tri h0) (l.map tri):=by
 unfold nu gh fh
 have e:(tri h0 :: l.map tri).zip (l.map tri++[ng (tri h0)])=((h0 :: l).zip (l++[j4 h0])).map fun ab=>(tri ab.1,tri ab.2):=by
  rw[← K7,NO,NF,NO,OU,D3]
 rw[e,Of,Of,Of]
 rfl
def P8(ls:List T3):Prop:=∀ a∈ls,∀ b∈ls,a.1*b.2.1=b.1*a.2.1
theorem mD(a b:T3)(i j:Nat):ve (tri (h9 a i)) (tri (h9 b j))=(a.1*b.2.1 - b.1*a.2.1)*((cbL a:Rat)*(cbL b:Rat)):=by
 rw[C8,C8];unfold ve;grind
theorem yt{ls:List T3}(hok:∀ l∈ls,LineOk l) :
  (yu ls=none∧P8 ls) ∨ ∃ cs,yu ls=some cs∧¬ P8 ls∧(∃ h0 l,Rim ((f7 ls).map tri) h0 l∧∀ z,z∈cs↔z∈gh h0 l):=by
 by_cases hne:ls=[]
 ·subst hne
  exact .inl ⟨rfl,fun a ha=>nomatch ha⟩
 obtain⟨h0,l,e,m0,h⟩:=E9 hok hne
 rcases h with⟨rfl,h⟩|⟨hl,R,h⟩
 ·left
  refine⟨by unfold yu;rw[e],fun a ha b hb=>?_⟩
  obtain⟨i,ha,_⟩:=cQ (i:=0) ha
  obtain⟨j,hb,_⟩:=cQ (i:=0) hb
  have e1:=h _ ha
  have e2:=h _ hb
  obtain⟨c,hc,k,ec⟩:=F3 m0
  have hc0:¬ ((tri h0).1=0∧(tri h0).2.1=0):=fun⟨z1,z2⟩=>by
   have cp:=F8 c
   have:(tri (h9 c k)).1=0∧(tri (h9 c k)).2.1=0:=by
    rcases ec with rfl|rfl
    ·exact⟨z1,z2⟩
    ·rw[D3]at z1 z2
     unfold ng at z1 z2
     exact⟨by grind,by grind⟩
   rw[C8]at this
   have t1:c.1*(cbL c:Rat)=0:=this.1
   have t2:c.2.1*(cbL c:Rat)=0:=this.2
   exact(hok c hc).ne ⟨by grind,by grind⟩
  have f1:ve (tri h0) (tri (h9 a i))=0:=by rw[w6,e1];rfl
  have f2:ve (tri h0) (tri (h9 b j))=0:=by rw[w6,e2];rfl
  have f3:ve (tri (h9 a i)) (tri (h9 b j))=0:=by
   generalize tri (h9 a i)=x at *
   generalize tri (h9 b j)=y at *
   generalize tri h0=w at *
   unfold ve at *
   have i1:w.1*(x.1*y.2.1 - x.2.1*y.1)=0:=by
    have:w.1*(x.1*y.2.1 - x.2.1*y.1)=x.1*(w.1*y.2.1 - w.2.1*y.1) - y.1*(w.1*x.2.1 - w.2.1*x.1):=by grind
    rw[this,f1,f2];grind
   have i2:w.2.1*(x.1*y.2.1 - x.2.1*y.1)=0:=by
    have:w.2.1*(x.1*y.2.1 - x.2.1*y.1)=x.2.1*(w.1*y.2.1 - w.2.1*y.1) - y.2.1*(w.1*x.2.1 - w.2.1*x.1):=by grind
    rw[this,f1,f2];grind
   by_cases c1:w.1=0
   ·have c2:w.2.1≠0:=fun z=>hc0 ⟨c1,z⟩
    grind
   ·grind
  rw[mD]at f3
  have q1:=D2 (OY (F8 a) (F8 b))
  generalize (cbL a:Rat)*(cbL b:Rat)=k at *
  generalize a.1*b.2.1=u at *
  generalize b.1*a.2.1=v at *
  clear h e m0 hc0 f1 f2 e1 e2 hok
  grind
 ·right
  obtain⟨x,l,rfl⟩:∃ x l',l=x :: l':=by
   cases l with
   | nil=>exact absurd rfl hl
   | cons x l=>exact⟨x,l,rfl⟩
  refine⟨_,by unfold yu;rw[e],fun al=>?_,_,_,R,fun z=>?_⟩
  ·obtain⟨q1,q2,q3⟩:=h (h0,x) Nk
   obtain⟨a,ha,i,ea⟩:=F3 q1
   obtain⟨b,hb,j,eb⟩:=F3 q2
   have hv:=al a ha b hb
   have z0:ve (tri (h9 a i)) (tri (h9 b j))=0:=by rw[mD,hv];grind
   have q3:0<veZ h0 x:=q3
   have q4:(0:Rat)<ve (tri h0) (tri x):=by rw[w6];exact A4.mpr q3
   have ea':tri h0=tri (h9 a i)∨tri h0=ng (tri (h9 a i)):=by
    rcases ea with h|h
    ·have h:h0=_:=h;left;rw[h]
    ·have h:h0=_:=h;right;rw[h,D3]
   have eb':tri x=tri (h9 b j)∨tri x=ng (tri (h9 b j)):=by
    rcases eb with h|h
    ·have h:x=_:=h;left;rw[h]
    ·have h:x=_:=h;right;rw[h,D3]
   have z1:ve (tri h0) (tri x)=0:=by
    rcases ea' with h|h<;>rcases eb' with h'|h'<;>(rw[h,h'];clear q4;generalize tri (h9 a i)=A at *;generalize tri (h9 b j)=B at *;unfold ve at *;first|exact z0|(unfold ng;grind))
   grind
  ·rw[AN,wD]
theorem A1{a b:Sd}:sdD a=sdD b↔a=b:=by
 constructor
 ·intro h
  unfold sdD at h
  injection h with h
  injection h with h1 h
  injection h with h2 h
  injection h with h3 h
  injection h with h4 h
  injection h with h5 h
  injection h1 with h1;injection h2 with h2;injection h3 with h3;injection h4 with h4;injection h5 with h5
  exact Prod.ext h1 (Prod.ext h2 (Prod.ext h3 (Prod.ext h4 h5)))
 ·rintro rfl;rfl
theorem v7{xs ys:List Sd}:xs.map sdD=ys.map sdD↔xs=ys:=Oh (fun _ _ h=>A1.mp h)
theorem D1{a b:Rat × Rat}:rD a=rD b↔a=b:=by
 constructor
 ·intro h
  unfold rD A5 at h
  injection h with h
  injection h with h1 h
  injection h with h2 h
  exact Prod.ext (h7.mp h1) (h7.mp h2)
 ·rintro rfl;rfl
theorem A7{xs ys:List (Rat × Rat)}:xs.map rD=ys.map rD↔xs=ys:=Oh (fun _ _ h=>D1.mp h)
structure SzS(s:Sd):Prop where
 p:s.1.natAbs<2 ^ 1200
 q:s.2.1.natAbs<2 ^ 1200
 r:s.2.2.1.natAbs<2 ^ 1200
noncomputable def nD:Option Sd→D
 | none=>.non
 | some s=>sdD s
structure LnOk(l:T3):Prop extends LineOk l where
 p:sz l.1≤1300
 q:sz l.2.1≤1300
 r:sz l.2.2≤1300
 s:SzS (h9 l 0)
def yT(ls:List T3):Prop:=ls.length≤12∧∀ l∈ls,LnOk l
local macro_rules|`(tactic| walk_at "inj")=>`(tactic| (rename_i e h;simp only[List.cons.injEq,GM.A1,GM.v7,GM.D1,GM.A7,and_true,true_and,GM.h7,GM.i0,GM.f9,GM.i3,GM.g5,D.tup.injEq,D.ref.injEq,D.int.injEq,D.str.injEq,D.bl.injEq,D.vl.injEq,NG,and_assoc]at e;(repeat(obtain⟨e1,e⟩:=e;subst e1));subst e;exact h))
local macro_rules|`(tactic| walk_at "injs")=>`(tactic| (rename_i e o h;rcases o with o|o<;>(subst o;first|(exfalso;simp only[D.tup.injEq,List.cons.injEq,reduceCtorEq,false_and,and_false]at e;done)|(simp only[List.cons.injEq,GM.A1,GM.v7,GM.D1,GM.A7,and_true,true_and,GM.h7,GM.i0,GM.f9,GM.i3,GM.g5,D.tup.injEq,D.ref.injEq,D.int.injEq,D.str.injEq,D.bl.injEq,D.vl.injEq,NG,and_assoc]at e;(repeat(obtain⟨e1,e⟩:=e;subst e1));subst e;exact h))))
abbrev jS(l:T3)(M:Mem)(R:DK)(Y:DXK):Prop:=LnOk l∧R (.int ((cbL l:Nat):Int)) M
def ET:DSp:=fun ds M R Y=>∃(l:T3),ds=[e9 l]∧jS l M R Y
theorem uA{l:T3}{M:Mem}{R:DK}{Y:DXK}:ET [e9 l] M R Y=(jS l M R Y):=propext ⟨fun z=>by obtain⟨_,_,_⟩:=z;walk_at "inj",fun h=>⟨l,rfl,h⟩⟩
abbrev aC(l:T3)(c:Int)(M:Mem)(R:DK)(Y:DXK):Prop:=(LnOk l∧c=((cbL l:Nat):Int))∧R (.vl [.int (h9 l 0).1,.int (h9 l 0).2.1,.int (h9 l 0).2.2.1]) M
def pC:DSp:=fun ds M R Y=>∃(l:T3) (c:Int),ds=[e9 l,.int c]∧aC l c M R Y
theorem lM{l:T3}{c:Int}{M:Mem}{R:DK}{Y:DXK}:pC [e9 l,.int c] M R Y=(aC l c M R Y):=propext ⟨fun z=>by obtain⟨_,_,_,_⟩:=z;walk_at "inj",fun h=>⟨l,c,rfl,h⟩⟩
abbrev U7(ls:List T3)(M:Mem)(R:DK)(Y:DXK):Prop:=yT ls∧R (.vl ((f7 ls).map sdD)) M
def jF:DSp:=fun ds M R Y=>∃(x0:D) (ls:List T3),ds=[x0]∧(x0 = .vl (ls.map e9)∨x0 = .tup (ls.map e9))∧U7 ls M R Y
theorem lO{ls:List T3}{M:Mem}{R:DK}{Y:DXK}:jF [.vl (ls.map e9)] M R Y=(U7 ls M R Y):=propext ⟨fun z=>by obtain⟨_,_,_,_,_⟩:=z;walk_at "injs",fun h=>⟨_,ls,rfl,.inl rfl,h⟩⟩
theorem dB{ls:List T3}{M:Mem}{R:DK}{Y:DXK}:jF [.tup (ls.map e9)] M R Y=(U7 ls M R Y):=propext ⟨fun z=>by obtain⟨_,_,_,_,_⟩:=z;walk_at "injs",fun h=>⟨_,ls,rfl,.inr rfl,h⟩⟩
abbrev jP(a:Sd)(M:Mem)(R:DK)(Y:DXK):Prop:=R (sdD (j4 a)) M
def AK:DSp:=fun ds M R Y=>∃(a:Sd),ds=[sdD a]∧jP a M R Y
theorem uz{a:Sd}{M:Mem}{R:DK}{Y:DXK}:AK [sdD a] M R Y=(jP a M R Y):=propext ⟨fun z=>by obtain⟨_,_,_⟩:=z;walk_at "inj",fun h=>⟨a,rfl,h⟩⟩
abbrev cT(a b:Sd)(M:Mem)(R:DK)(Y:DXK):Prop:=(SzS a∧SzS b)∧R (.int (veZ a b)) M
def eK:DSp:=fun ds M R Y=>∃(a b:Sd),ds=[sdD a,sdD b]∧cT a b M R Y
theorem qx{a b:Sd}{M:Mem}{R:DK}{Y:DXK}:eK [sdD a,sdD b] M R Y=(cT a b M R Y):=propext ⟨fun z=>by obtain⟨_,_,_,_⟩:=z;walk_at "inj",fun h=>⟨a,b,rfl,h⟩⟩
abbrev cV(a b c:Sd)(M:Mem)(R:DK)(Y:DXK):Prop:=(SzS a∧SzS b∧SzS c)∧R (.int (tnZ a b c)) M
def we:DSp:=fun ds M R Y=>∃(a b c:Sd),ds=[sdD a,sdD b,sdD c]∧cV a b c M R Y
theorem qz{a b c:Sd}{M:Mem}{R:DK}{Y:DXK}:we [sdD a,sdD b,sdD c] M R Y=(cV a b c M R Y):=propext ⟨fun z=>by obtain⟨_,_,_,_,_⟩:=z;walk_at "inj",fun h=>⟨a,b,c,rfl,h⟩⟩
abbrev df(a b:Sd)(M:Mem)(R:DK)(Y:DXK):Prop:=(SzS a∧SzS b)∧R (.bl (F6 a b)) M
def wq:DSp:=fun ds M R Y=>∃(a b:Sd),ds=[sdD a,sdD b]∧df a b M R Y
theorem qG{a b:Sd}{M:Mem}{R:DK}{Y:DXK}:wq [sdD a,sdD b] M R Y=(df a b M R Y):=propext ⟨fun z=>by obtain⟨_,_,_,_⟩:=z;walk_at "inj",fun h=>⟨a,b,rfl,h⟩⟩
abbrev cX(ss:List Sd)(M:Mem)(R:DK)(Y:DXK):Prop:=(∃ s r,ss=s :: r)∧(∀ s∈ss,SzS s)∧R (sdD (D4 ss (ss.headD (0,0,0,0,0)))) M
def wg:DSp:=fun ds M R Y=>∃(ss:List Sd),ds=[.vl (ss.map sdD)]∧cX ss M R Y
theorem qA{ss:List Sd}{M:Mem}{R:DK}{Y:DXK}:wg [.vl (ss.map sdD)] M R Y=(cX ss M R Y):=propext ⟨fun z=>by obtain⟨_,_,_⟩:=z;walk_at "inj",fun h=>⟨ss,rfl,h⟩⟩
abbrev jH(ss:List Sd)(g:Sd)(M:Mem)(R:DK)(Y:DXK):Prop:=(SzS g∧∀ s∈ss,SzS s)∧R (nD (L5 g ss)) M
def EO:DSp:=fun ds M R Y=>∃(ss:List Sd) (g:Sd),ds=[.vl (ss.map sdD),sdD g]∧jH ss g M R Y
theorem ux{ss:List Sd}{g:Sd}{M:Mem}{R:DK}{Y:DXK}:EO [.vl (ss.map sdD),sdD g] M R Y=(jH ss g M R Y):=propext ⟨fun z=>by obtain⟨_,_,_,_⟩:=z;walk_at "inj",fun h=>⟨ss,g,rfl,h⟩⟩
abbrev aO(ls:List T3)(M:Mem)(R:DK)(Y:DXK):Prop:=yT ls∧R (.vl ((C3 (f7 ls)).map sdD)) M
def rO:DSp:=fun ds M R Y=>∃(x0:D) (ls:List T3),ds=[x0]∧(x0 = .vl (ls.map e9)∨x0 = .tup (ls.map e9))∧aO ls M R Y
theorem qI{ls:List T3}{M:Mem}{R:DK}{Y:DXK}:rO [.vl (ls.map e9)] M R Y=(aO ls M R Y):=propext ⟨fun z=>by obtain⟨_,_,_,_,_⟩:=z;walk_at "injs",fun h=>⟨_,ls,rfl,.inl rfl,h⟩⟩
theorem gA{ls:List T3}{M:Mem}{R:DK}{Y:DXK}:rO [.tup (ls.map e9)] M R Y=(aO ls M R Y):=propext ⟨fun z=>by obtain⟨_,_,_,_,_⟩:=z;walk_at "injs",fun h=>⟨_,ls,rfl,.inr rfl,h⟩⟩
abbrev jI(a b:Sd)(M:Mem)(R:DK)(Y:DXK):Prop:=(SzS a∧SzS b∧veZ a b≠0)∧R (rD (ry (tri a) (tri b))) M
def ER:DSp:=fun ds M R Y=>∃(a b:Sd),ds=[sdD a,sdD b]∧jI a b M R Y
theorem uy{a b:Sd}{M:Mem}{R:DK}{Y:DXK}:ER [sdD a,sdD b] M R Y=(jI a b M R Y):=propext ⟨fun z=>by obtain⟨_,_,_,_⟩:=z;walk_at "inj",fun h=>⟨a,b,rfl,h⟩⟩
theorem uu{a:Sd}{M:Mem}{R:DK}:gIx (sdD a) (.int 0) M R=R (.int a.1) M:=Z0
theorem ur{a:Sd}{M:Mem}{R:DK}:gIx (sdD a) (.int 1) M R=R (.int a.2.1) M:=Y9
theorem uq{a:Sd}{M:Mem}{R:DK}:gIx (sdD a) (.int 2) M R=R (.int a.2.2.1) M:=iQ
theorem uw{a:Rat × Rat}{M:Mem}{R:DK}:gIx (rD a) (.int 0) M R=R (e8 a.1) M:=Z0
theorem uv{a:Rat × Rat}{M:Mem}{R:DK}:gIx (rD a) (.int 1) M R=R (e8 a.2) M:=Y9
theorem SzS.ve{a b:Sd}(ha:SzS a)(hb:SzS b):(veZ a b).natAbs<2 ^ 2401:=by
 have h1:=B7 ha.p hb.q
 have h2:=B7 ha.q hb.p
 unfold veZ
 have:=Pa (a.1*b.2.1) (a.2.1*b.1)
 rw[show 2401=1200+1200+1 from rfl,Om]
 omega
theorem D5(c d:Nat):B0 c d≤c*d:=by
 unfold B0
 exact Oc _ (OV _ _)
theorem kS:∀(xs:List Rat) (c m:Nat),(∀ x∈xs,sz x≤1300)→c<2 ^ m→xs.foldl (fun c q=>B0 c q.den) c<2 ^ (m+1300*xs.length)
 | [],c,m,_,h=>by simpa using h
 | x :: xs,c,m,hx,h=>by
  have h1:B0 c x.den<2 ^ (m+1300):=NK (D5 c x.den) (eV h (p8 x (hx x Nk)))
  have:=kS xs _ _ (fun y hy=>hx y (Nj _ hy)) h1
  rw[PZ,NV]
  rwa [show m+1300*(xs.length+1)=m+1300+1300*xs.length by omega]
theorem LnOk.all{l:T3}(h:LnOk l):∀ x∈[l.1,l.2.1,l.2.2],sz x≤1300:=fun x hx=>by
 simp only[Nh,Nv,or_false]at hx
 rcases hx with rfl|rfl|rfl
 ·exact h.p
 ·exact h.q
 ·exact h.r
theorem LnOk.cb{l:T3}(h:LnOk l):cbL l<2 ^ 3901:=kS [l.1,l.2.1,l.2.2] 1 1 h.all (by decide)
theorem tE{ls:List T3}(h:yT ls){i:Nat}:∀ s∈N8 i ls,SzS s:=fun s hs=>by
 obtain⟨l,hl,j,e⟩:=F3 hs
 obtain⟨a,b,c⟩:=(h.2 l hl).s
 rcases e with rfl|rfl
 ·exact⟨a,b,c⟩
 ·exact⟨by show(-(h9 l j).1).natAbs<_;rw[Oo];exact a,by show(-(h9 l j).2.1).natAbs<_;rw[Oo];exact b,c⟩
theorem mN:∀(ls:List T3) (i j:Nat) (l:T3),ls[j]? = some l→N8 i (ls.take (j+1))=N8 i (ls.take j)++[h9 l (i+j),j4 (h9 l (i+j))]
 | [],_,_,_,h=>nomatch h
 | a :: r,i,0,l,h=>by
  obtain rfl:=Option.some.inj h
  rfl
 | a :: r,i,j+1,l,h=>by
  have:=mN r (i+1) j l h
  rw[PR,PR]
  show _ :: _ :: N8 (i+1) (r.take (j+1))=_ :: _ :: (N8 (i+1) (r.take j)++_)
  rw[this,show i+1+j=i+(j+1)by omega]
theorem cO:∀(ls:List T3) (i:Nat),(N8 i ls).length=2*ls.length
 | [],_=>rfl
 | a :: r,i=>by
  show(N8 (i+1) r).length+1+1=2*(r.length+1)
  rw[cO r (i+1)];omega
theorem t9(a b:Int):NM a b=(a:Rat) / (b:Rat):=Rk a b
theorem wA(a b:Sd):(NM (a.2.2.1*b.2.1 - b.2.2.1*a.2.1) (veZ a b),NM (a.1*b.2.2.1 - b.1*a.2.2.1) (veZ a b))=ry (tri a) (tri b):=by
 unfold ry
 rw[w6,t9,t9,ON,ON,Nx,Nx,Nx,Nx]
 rfl
theorem HI{n:Nat}{a b:Sd}(ha:a.1.natAbs<2 ^ n∧a.2.1.natAbs<2 ^ n∧a.2.2.1.natAbs<2 ^ n)(hb:b.1.natAbs<2 ^ n∧b.2.1.natAbs<2 ^ n∧b.2.2.1.natAbs<2 ^ n)(hv:veZ a b≠0):sz (ry (tri a) (tri b)).1≤2*n+1∧sz (ry (tri a) (tri b)).2≤2*n+1:=by
 have sub:∀{x y z w:Int},x.natAbs<2 ^ n→y.natAbs<2 ^ n→z.natAbs<2 ^ n→w.natAbs<2 ^ n→(x*y - z*w).natAbs<2 ^ (2*n+1):=fun{x y z w} h1 h2 h3 h4=>by
  have e1:=B7 h1 h2
  have e2:=B7 h3 h4
  have:=Pa (x*y) (z*w)
  rw[show 2*n+1=n+n+1 by omega,Om]
  omega
 rw[← wA]
 have hve:(veZ a b).natAbs<2 ^ (2*n+1):=sub ha.1 hb.2.1 ha.2.1 hb.1
 exact⟨O2 (by omega) (sub ha.2.2 hb.2.1 hb.2.2 ha.2.1) hve hv,O2 (by omega) (sub ha.1 hb.2.2 hb.1 ha.2.2) hve hv⟩
theorem xJ{ls:List T3}(hok:∀ l∈ls,LineOk l):(C3 (f7 ls)).length≤2*ls.length+1:=by
 have:∀(h0:Sd) (ss:List Sd) (k:Nat) (o:Option Sd),(R7 h0 ss k o).length≤k:=fun h0 ss k=>by
  induction k with
  | zero=>intro o;exact Ny _
  | succ k ih =>
   intro o
   cases o with
   | none=>exact Oa _
   | some h =>
    show(if 0<veZ h0 h then h :: R7 h0 ss k (L5 h ss)else[]).length≤k+1
    split
    ·rw[NV];have:=ih (L5 h ss);omega
    ·exact Oa _
 have e:=cO ls 0
 unfold f7
 cases es:N8 0 ls with
 | nil=>exact Oa _
 | cons s r =>
  rw[es]at e
  show(R7 _ _ _ _).length+1≤_
  have:=this (D4 (s :: r) s) (s :: r) (s :: r).length (L5 (D4 (s :: r) s) (s :: r))
  omega
theorem Ci{ds:List D}{n:Nat}:DL.O4 ds (some (n:Int)) none=ds.drop n:=by
 unfold DL.O4 HT.sIx
 have h1:¬ ((n:Int)<0):=by omega
 simp only[h1,if_false]
 rw[show((n:Int)).toNat=n from rfl]
 by_cases h:n≤ds.length
 ·rw[RN h,OB (by rw[OD];exact Ny _)]
 ·rw[Ry (by omega),QB (Ny _),QB (by omega)]
  simp
theorem uk:∀(a b:List Sd),bA (a.map sdD) (b.map sdD)=(a.zip b).map fun ab=>D.tup [sdD ab.1,sdD ab.2]
 | [],_=>rfl
 | _ :: _,[]=>rfl
 | x :: a,y :: b=>by
  show D.tup [sdD x,sdD y] :: bA (a.map sdD) (b.map sdD)=_
  rw[uk a b];rfl
end GM
namespace GM
open PySem PySem.Spec L2 DL
open RM (sz)
theorem IE{a q:Rat}(h:q≠0):a / q*q=a:=NZ h
theorem Rim.neg{ss:List T3}{h0:T3}{l:List T3}{z:Rat × Rat}(h:z∈gh h0 l):ngZ z∈gh h0 l:=by
 have nn:∀ z:Rat × Rat,ngZ (ngZ z)=z:=fun z=>by
  unfold ngZ;exact Prod.ext (by show - -z.1=z.1;grind) (by show - -z.2=z.2;grind)
 rcases NL.mp h with h|h
 ·obtain⟨ab,hab,rfl⟩:=Nu.mp h
  exact NJ _ (Nu.mpr ⟨ab,hab,rfl⟩)
 ·obtain⟨ab,hab,rfl⟩:=Nu.mp h
  rw[nn]
  exact Oq _ (Nu.mpr ⟨ab,hab,rfl⟩)
theorem above{ls:List T3}{h0:T3}{r:List T3}(R:Rim ((f7 ls).map tri) h0 r)(hok:∀ l∈ls,LineOk l):∃ z∈gh h0 r,0<z.1:=by
 have eps:∀(l:List T3),(∀ x∈l,LineOk x)→∃ e:Rat,0<e∧∀ x∈l,G0 x e 0=true:=fun l=>by
  induction l with
  | nil=>exact fun _=>⟨1,by decide,fun _ h=>nomatch h⟩
  | cons x l ih =>
   intro h
   obtain⟨e,e0,he⟩:=ih fun y hy=>h y (Nj _ hy)
   have hr:=(h x Nk).pos
   have small:∀{y:T3} {e e':Rat},G0 y e 0=true→0≤e'→e'≤e→0<e→G0 y e' 0=true:=fun{y e e'} k z1 z2 z3=>by
    rw[E3]at k ⊢
    rw[QI,Qc]at k ⊢
    obtain⟨k1,k2⟩:=k
    have m1:0≤e'*(y.2.2 - y.1*e):=NH z1 (by grind)
    have m2:0≤e'*(y.2.2+y.1*e):=NH z1 (by grind)
    have r0:0≤y.2.2:=by grind
    have m3:0≤y.2.2*(e - e'):=NH r0 (by grind)
    have u1:0≤e*(y.2.2 - y.1*e'):=by grind
    have u2:=L3 z3 u1
    have u3:0≤e*(y.2.2+y.1*e'):=by grind
    have u4:=L3 z3 u3
    exact⟨by grind,by grind⟩
   by_cases p0:x.1=0
   ·refine⟨e,e0,fun y hy=>?_⟩
    rcases Nh.mp hy with rfl|hy
    ·rw[E3,p0];exact⟨by grind,by grind⟩
    ·exact he y hy
   ·have ap:0<j0 x.1:=Cs p0
    have dd:=IE (a:=x.2.2) (D2 ap)
    have t0:0<x.2.2 / j0 x.1:=by
     rcases tot (x.2.2 / j0 x.1) 0 with z|z
     ·have:=NH (show 0 ≤ -(x.2.2 / j0 x.1)by grind) (R9 ap)
      grind
     ·by_cases z0:x.2.2 / j0 x.1=0
      ·rw[z0]at dd;grind
      ·grind
    have lx:G0 x (x.2.2 / j0 x.1) 0=true:=by
     rw[E3,QI,Qc]
     generalize x.2.2 / j0 x.1=t at *
     unfold j0 at dd
     have x0:0≤x.2.2:=by grind
     split at dd
     ·exact⟨by grind,by grind⟩
     ·exact⟨by grind,by grind⟩
    by_cases c:x.2.2 / j0 x.1≤e
    ·refine⟨_,t0,fun y hy=>?_⟩
     rcases Nh.mp hy with rfl|hy
     ·exact lx
     ·exact small (he y hy) (R9 t0) c e0
    ·refine⟨e,e0,fun y hy=>?_⟩
     rcases Nh.mp hy with rfl|hy
     ·exact small lx (R9 e0) (by grind) t0
     ·exact he y hy
 obtain⟨e,e0,he⟩:=eps ls hok
 obtain⟨c,hc,_,hm⟩:=R.most (1,0,0) (fun z=>by have:=z.1;revert this;decide)
 have:=hm (e,0) ((cM ls (e,0)).mpr (by unfold C6;rw[OF];exact he))
 unfold dt at this
 exact⟨c,hc,by grind⟩
def zp(n:Nat)(s:Sd):Prop:=s.1.natAbs<2 ^ n∧s.2.1.natAbs<2 ^ n∧s.2.2.1.natAbs<2 ^ n
theorem ij{xs ys:List Rat}:xs.map e8=ys.map e8↔xs=ys:=Oh (fun _ _ h=>h7.mp h)
local macro_rules|`(tactic| walk_at "inj")=>`(tactic| (rename_i e h;simp only[List.cons.injEq,GM.ij,and_true,true_and,GM.h7,GM.i0,GM.f9,GM.i3,GM.g5,D.tup.injEq,D.ref.injEq,D.int.injEq,D.str.injEq,D.bl.injEq,D.vl.injEq,NG,and_assoc]at e;(repeat(obtain⟨e1,e⟩:=e;subst e1));subst e;exact h))
local macro_rules|`(tactic| walk_at "injs")=>`(tactic| (rename_i e o h;rcases o with o|o<;>(subst o;first|(exfalso;simp only[D.tup.injEq,List.cons.injEq,reduceCtorEq,false_and,and_false]at e;done)|(simp only[List.cons.injEq,GM.ij,and_true,true_and,GM.h7,GM.i0,GM.f9,GM.i3,GM.g5,D.tup.injEq,D.ref.injEq,D.int.injEq,D.str.injEq,D.bl.injEq,D.vl.injEq,NG,and_assoc]at e;(repeat(obtain⟨e1,e⟩:=e;subst e1));subst e;exact h))))
theorem tW{a b:Nat × Rat × Rat × Rat}:nT a=nT b↔a=b:=by
 constructor
 ·intro h
  unfold nT at h
  injection h with h
  injection h with h1 h
  injection h with h2 h
  injection h with h3 h
  injection h with h4 h
  injection h1 with h1
  exact Prod.ext (by omega) (Prod.ext (h7.mp h2) (Prod.ext (h7.mp h3) (h7.mp h4)))
 ·rintro rfl;rfl
theorem eY{xs ys:List (Nat × Rat × Rat × Rat)}:xs.map nT=ys.map nT↔xs=ys:=Oh (fun _ _ h=>tW.mp h)
end GM
namespace GM
open PySem PySem.Spec L2 DL
open RM (sz)
local macro_rules|`(tactic| walk_at "inj")=>`(tactic| (rename_i e h;simp only[List.cons.injEq,GM.eY,and_true,true_and,GM.h7,GM.i0,GM.f9,GM.i3,GM.g5,D.tup.injEq,D.ref.injEq,D.int.injEq,D.str.injEq,D.bl.injEq,D.vl.injEq,NG,and_assoc]at e;(repeat(obtain⟨e1,e⟩:=e;subst e1));subst e;exact h))
local macro_rules|`(tactic| walk_at "injs")=>`(tactic| (rename_i e o h;rcases o with o|o<;>(subst o;first|(exfalso;simp only[D.tup.injEq,List.cons.injEq,reduceCtorEq,false_and,and_false]at e;done)|(simp only[List.cons.injEq,GM.eY,and_true,true_and,GM.h7,GM.i0,GM.f9,GM.i3,GM.g5,D.tup.injEq,D.ref.injEq,D.int.injEq,D.str.injEq,D.bl.injEq,D.vl.injEq,NG,and_assoc]at e;(repeat(obtain⟨e1,e⟩:=e;subst e1));subst e;exact h))))
end GM
namespace L2
open PySem PySem.Spec PyProof.Rows
section
variable {X:Cx} {pins:List (Addr × Obj)} {σ:St} {H:Hp} {s:Shared} {h':Heap}
theorem Inv.keptL{t':Nat}(I:Inv X pins σ H s)(k:∀ b o,b≠X.env.locals→s.heap.get? b=some o→h'.get? b=some o)(ns:∀ m,s.heap.Ns X.env.locals m→h'.Ns X.env.locals m):Inv X pins σ H { s with heap:=h',toks:=t' }:=by
 have ne:∀{b:Addr} {o:Obj},X.s₀.heap.get? b=some o→b≠X.env.locals:=fun{b o} e z=>by
  have h1:=Nn e
  rw[z]at h1
  exact absurd h1 (Nat.not_lt.mpr I.ok.above)
 have nL:∀{b:Addr} {u:HO},H b=some u→b≠X.env.locals:=fun{b u} e z=>by rw[z,I.free]at e;cases e
 obtain⟨m,hn,hl⟩:=I.loc
 have cel:∀{c:Addr} {v:Option Value},s.heap.IsCell c v→h'.IsCell c v:=fun{c v} d=>by
  obtain⟨o,e1,e2⟩:=d
  refine⟨o,k c o (fun z=>?_) e1,e2⟩
  obtain⟨o2,es,ep,e3,e4,_⟩:=hn
  rw[← z,e1]at e3
  cases e3
  rw[e2]at e4;cases e4
 refine⟨I.ok,I.os,I.bare,⟨fun b o q n hb hx=>k b o (ne q) (I.base.keep b o q n hb hx),fun b o q n hb hx=>?_,I.base.free,fun b o q hx=>?_,I.base.tups,I.base.frzs,I.base.tbls⟩,⟨m,ns m hn,fun i x v e1 e2 e3=>?_⟩,fun x c e=>?_,I.free,I.freeC,fun p hp=>?_,fun b u e=>?_,I.len⟩
 ·obtain⟨sl,z⟩:=I.base.slot b o q n hb hx
  exact⟨sl,k b _ (ne q) z⟩
 ·obtain⟨o',z⟩:=I.base.there b o q hx
  exact⟨o',k b _ (ne q) z⟩
 ·obtain⟨u,r,lk⟩:=hl i x v e1 e2 e3
  exact⟨u,r,lk.imp id fun⟨a,c,b,d⟩=>⟨a,c,b,cel d⟩⟩
 ·obtain⟨v,d⟩:=I.cell x c e
  exact⟨v,cel d⟩
 ·obtain⟨a,b,c,d⟩:=I.pin p hp
  exact⟨k _ _ c a,b,c,d⟩
 ·refine(I.hok b u e).stay (fun c v hc q=>k c v ?_ q) (fun _ q=>q) fun _ _ q=>q
  rcases hc with rfl|hc
  ·exact nL e
  ·exact nL hc
theorem eT{P:Program}{w:World}{h:Heap}{a:Addr}{o:HO}(x:B4 P w H h a o):∃ u,h.get? a=some u:=DL.ir x
theorem Inv.laidL{t':Nat}{a:Addr}{o:HO}(I:Inv X pins σ H s)(k:∀ b o,b≠X.env.locals→s.heap.get? b=some o→h'.get? b=some o)(ns:∀ m,s.heap.Ns X.env.locals m→h'.Ns X.env.locals m)(hn:s.heap.get? a=none)(hL:a≠X.env.locals)(nt:∀ xs,o ≠ .tup xs)(new:B4 X.prog X.w (upd H a o) h' a o):Inv X pins σ (upd H a o) { s with heap:=h',toks:=t' }:=by
 have J:=I.keptL (t':=t') k ns
 have nH:H a=none:=by
  cases e:H a with
  | none=>rfl
  | some u=>obtain⟨x,hx⟩:=eT (I.hok a u e);rw[hn]at hx;cases hx
 have ne:∀{b:Addr} {u:HO},H b=some u→b≠a:=fun{b u} e z=>by rw[z,nH]at e;cases e
 refine⟨J.ok,J.os,J.bare,⟨J.base.keep,J.base.slot,fun b o' q n hx=>?_,J.base.there,fun b xs q=>?_,fun b o' u q=>?_,fun b ps q=>?_⟩,J.loc,J.cell,?_,fun x c e=>?_,fun p hp=>?_,fun b u e=>?_,J.len⟩
 ·have hb:b≠a:=fun z=>by
   obtain⟨o2,e2⟩:=I.base.there b o' q hx
   rw[z,hn]at e2;cases e2
  rw[g6 hb];exact J.base.free b o' q n hx
 ·have:=J.base.tups b xs q
  rw[g6 (ne this)];exact this
 ·have:=J.base.frzs b o' u q
  rw[g6 (ne this)];exact this
 ·obtain⟨more,this⟩:=J.base.tbls b ps q
  exact⟨more,by rw[g6 (ne this)];exact this⟩
 ·rw[g6 (Ne.symm hL)];exact J.free
 ·have hb:c≠a:=fun z=>by
   obtain⟨v,o2,e2,_⟩:=I.cell x c e
   rw[z,hn]at e2;cases e2
  rw[g6 hb];exact J.freeC x c e
 ·obtain⟨p1,p2,p3⟩:=J.pin p hp
  have hb:p.1≠a:=fun z=>by
   have:=(I.pin p hp).1
   rw[z,hn]at this;cases this
  exact⟨p1,by rw[g6 hb];exact p2,p3⟩
 ·by_cases hb:b=a
  ·subst hb
   rw[i6]at e
   cases e
   exact new
  ·rw[g6 hb]at e
   refine(J.hok b u e).stay (fun _ _ _ q=>q) (fun c q=>?_) fun c xs q=>?_
   ·rw[g6 (ne q)];exact q
   ·rw[g6 (ne q)];exact q
theorem BL{prog:Program}{w:World}{A:Around}{κ:SortKind}{vs:List Value}{G:Array Nat→Shared→Prop}{s:Shared}(h:wpAny (model prog w) A (keyLt' κ (vs.getD 1 Value.none) (vs.getD 0 Value.none)) (fun b s'=>(b=true→G #[1,0] s')∧(b=false→G #[0,1] s')) (fun _ _=>False) s) :
  (PySem.W.kas_sort 2).kasWp (PySem.W.kas_ask prog w A κ vs) G s:=by
 show PySem.W.kas_ask prog w A κ vs 1 0 (fun b s'=>PySem.W.KasT.kasWp (PySem.W.kas_ask prog w A κ vs) _ G s') s
 unfold PySem.W.kas_ask
 refine wpAny_mono h (fun b s' hb=>?_) fun _ _ z=>z
 cases b with
 | true=>exact hb.1 rfl
 | false=>exact hb.2 rfl
theorem qh:v9 X (.builtin "sorted") (fun xs H Q=>∃ l a b i j xa xb,xs=[.ref l]∧SqL X.K H l [.ref a,.ref b]∧SqT X.K H a (.int i :: xa)∧SqT X.K H b (.int j :: xb)∧i≠j ∧
  ∀ p,H p=none→Q (.ref p) (upd H p (.lst (if j<i then[.ref b,.ref a]else[.ref a,.ref b])))):=by
 intro pins s σ H xs us Q I rv h
 obtain⟨l,a,b,i,j,xa,xb,rfl,hl,ha,hb,ne,q⟩:=h
 obtain⟨u,rfl,ru⟩:=j6.one rv
 obtain rfl:u=Value.ref l:=ru
 obtain⟨its,rl,isl,_⟩:=I.list hl
 obtain⟨ia,ra,⟨oa,ha1,ha2,na,ha3⟩,_⟩:=I.tuple ha
 obtain⟨ib,rb,⟨ob,hb1,hb2,nb,hb3⟩,_⟩:=I.tuple hb
 obtain rfl:its=[Value.ref a,Value.ref b]:=by
  obtain⟨u1,u2,e,r1,r2⟩:=j6.two rl
  rw[e,show u1=Value.ref a from r1,show u2=Value.ref b from r2]
 cases ra with
 | cons ra1 ra2 =>
 cases rb with
 | cons rb1 rb2 =>
 obtain⟨ta,rfl⟩:=ra1
 obtain⟨tb,rfl⟩:=rb1
 rename_i va vb
 obtain⟨m,F⟩:=I.fr
 obtain⟨ol,nl,hl1,hl2,_,hl3⟩:=isl
 refine PySem.W.kat_sorted (vs:=[Value.ref a,Value.ref b]) F (xo (g:=X.base)) ⟨ol,hl1,hl2,nl,hl3⟩ (by show 2≤2;decide) (by show 2<64;decide) fun Dl e1 h1 F1 N1 lt1=>?_
 have keep:∀ c o,c≠X.env.locals→s.heap.get? c=some o→h1.get? c=some o:=fun c o n e=>by
  cases q:X.base.get? c with
  | some u =>
   have:=I.bk c u q
   rw[e]at this;cases this
   exact F1.keep c _ q
  | none=>exact(N1 (c,o) (.tail _ (V0 n q e))).1
 have nL:∀{c:Addr} {o:Obj},s.heap.get? c=some o→o.cls = .type "tuple" → (∃ xs n,o.data = .seq xs n)→c≠X.env.locals:=fun{c o} e1 _ ⟨xs,n,e2⟩ z=>by
  obtain⟨o2,es,ep,e3,e4,_⟩:=F.ns
  rw[← z,e1]at e3
  cases e3
  rw[e2]at e4;cases e4
 have nLa:a≠X.env.locals:=nL ha1 ha2 ⟨_,_,ha3⟩
 have nLb:b≠X.env.locals:=nL hb1 hb2 ⟨_,_,hb3⟩
 have ha4:=keep a oa nLa ha1
 have hb4:=keep b ob nLb hb1
 refine PySem.W.kat_kind (fs:=[.int i ta,.int j tb]) (T:=.type "int") (.cons ha4 ha2 ha3 rfl (.cons hb4 hb2 hb3 rfl .nil)) (by show 0<2;decide) (fun v hv=>?_) rfl ?_
 ·simp only[Nh,Nv,or_false]at hv
  rcases hv with rfl|rfl
  ·exact .now
  ·exact .now
 ·refine BL (PySem.W.kat_lt hb4 hb3 ha4 ha3 (PySem.W.kat_cons (wpAny_eqBool_int ?_)))
  rw[show(j == i)=false from beq_eq_false_iff_ne.mpr (Ne.symm ne)]
  refine PySem.W.kat_no (oneLt_int ?_)
  have fin:∀(vs':List Value) (xs':List V),j6 xs' vs'→xs'=(if j<i then[V.ref b,V.ref a]else[V.ref a,V.ref b])→PySem.W.KasFin X.base X.env.locals m Dl e1 vs' (fun s3=>EP X pins σ Q (Value.ref Dl) s3) { s with heap:=h1 }:=fun vs' xs' rv' ex=>by
   have hD0:=N1 (Dl,seqObj "list" #[] e1) (.head _)
   have hDn:s.heap.get? Dl=none:=by
    cases e:s.heap.get? Dl with
    | none=>rfl
    | some u=>exact absurd (lt1 (Dl,u) (V0 hD0.2.1 hD0.2.2 e)) (OG _)
   refine PySem.W.KasFin.intro F1 N1 (.head fun p hp=>NC (lt1 p hp)) fun h2 c2 F2 N2=>?_
   have keep2:∀ c o,c≠X.env.locals→s.heap.get? c=some o→h2.get? c=some o:=fun c o n e=>by
    cases q:X.base.get? c with
    | some u =>
     have:=I.bk c u q
     rw[e]at this;cases this
     exact F2.keep c _ q
    | none=>exact(N2 (c,o) (.tail _ (V0 n q e))).1
   have hD2:=N2 (Dl,PySem.W.listOf (List.toArray vs') c2) (.head _)
   have I2:Inv X pins σ (upd H Dl (.lst xs')) { s with heap:=h2,toks:=s.toks }:=I.laidL keep2 (fun m' hm=>by
    obtain⟨o1,es1,ep1,a1,a2,_,a4⟩:=hm
    obtain⟨o2,es2,ep2,b1,b2,_,b4⟩:=F.ns
    rw[a1]at b1;cases b1
    rw[a2]at b2;cases b2
    have:m'=m:=funext fun x=>(a4 x).symm.trans (b4 x)
    rw[this];exact F2.ns) hDn hD0.2.1 (fun _ z=>nomatch z) ⟨?_,vs',c2,rv',hD2.1⟩
   ·refine⟨.ref Dl,_,I2,rfl,?_⟩
    rw[ex]
    exact q Dl (by
     cases e:H Dl with
     | none=>rfl
     | some u=>obtain⟨x,hx⟩:=eT (I.hok Dl u e);rw[hDn]at hx;cases hx)
   ·have:xs'.length≤2:=by rw[ex];split<;>exact Ny _
    exact Nr this (by decide)
  refine⟨fun z=>fin _ [V.ref b,V.ref a] (.cons rfl (.cons rfl .nil)) (by rw[if_pos (of_decide_eq_true z)]),fun z=>fin _ [V.ref a,V.ref b] (.cons rfl (.cons rfl .nil)) (by rw[if_neg (of_decide_eq_false z)])⟩
end
section
variable {prog:Program} {w:World} {A:Around} {E:Value→Shared→Prop} {s:Shared}
theorem vR{a:Addr}{ws:List Value}{k:Nat}{P:PySem.Fin→Shared→Prop}(there:s.heap.get? a=some (seqObj "list" ws.toArray k))(few:ws.length<2)
  (go:P (.done (.ret .none)) { s with heap:=sortedHeap s.heap a ws ws.toArray }):wpAny (model prog w) A (Builtin.«list.sort» ⟨[.ref a],[]⟩) P E s:=by
 have inb:=Nn there
 obtain⟨ep,bare⟩:∃ ep,(s.heap.update a (Obj.mapSeq fun _=>#[])).get? a=some (seqObj "list" #[] ep):=⟨_,get?_update_seq there _⟩
 have bare2:(((s.heap.update a (Obj.mapSeq fun _=>#[])).push (seqObj "tuple" ws.toArray 0)).push (seqObj "list" #[] 0)).get? a=some (seqObj "list" #[] ep) :=
  Nc _ (Nc _ bare)
 have small:ws.toArray.size<2:=by rw[NA];exact few
 have line:ws.length≤sizeLine:=Nr (Ou few) (by decide)
 rw[list_sort_plain]
 refine Nb (listItems_at there rfl
  (Nb (listUpdate_at there rfl
   (Nb (seqEpoch_at bare rfl
    (Nb (wpAny_newTuple
     (Nb (wpAny_newList
      (wpAny_holding ?_) (Oa _))) line)))) (by rw[NA];omega) (Oa _))))
 show wpAny (model prog w) A _ P E { s with heap:=((s.heap.update a (Obj.mapSeq fun _=>#[])).push (seqObj "tuple" ws.toArray 0)).push (seqObj "list" #[] 0) }
 dsimp only
 rw[if_pos small]
 refine Nb (Ng ?_)
 rw[if_pos small,StateT.run_pure]
 refine Nb (Ng ?_)
 have same:Array.map (fun x=>x.snd) (ws.toArray.zip ws.toArray)=ws.toArray:=by
  match ws,few with
  | [],_=>simp
  | [_],_=>simp
 show wpAny (model prog w) A (do
  let __do_lift ← seqEpoch a
  Builtin.List.listUpdate (Value.ref a) fun _=>Array.map (fun x=>x.snd) (ws.toArray.zip ws.toArray)
  if (__do_lift != ep)=true then _ else ret Value.none) P E _
 rw[same]
 refine Nb (seqEpoch_at bare2 rfl
  (Nb (listUpdate_at bare2 rfl ?_ (Oa _) (by rw[NA];omega))))
 rw[bne_self_eq_false,if_neg Nt]
 exact Ng go
theorem pd{l:Addr}{ws:List Value}{Q:Value→Shared→Prop}(hl:s.heap.IsList l ws.toArray)(few:ws.length<2)
  (go:Q (.ref (s.heap.objs.size+1)) { s with heap:=sortedAll s.heap ws ws.toArray }):wpAny (model prog w) A (call (.builtin "sorted") [.ref l]) Q E s:=by
 have line:ws.length≤sizeLine:=Nr (Ou few) (by decide)
 refine Calls.call_function_entry kind_sorted plain_sorted entry_sorted (args_sorted1 _) ?_
 unfold Builtin.«sorted»
 refine Nb (m:=checkCount "sorted" 1 1 _) (Ng (Nb (collect_list hl (Nb (wpAny_newList ?_ line)) line)))
 have sz:((s.heap.push (seqObj "list" #[] 0)).update s.heap.objs.size (Obj.mapSeq (· ++ ws.toArray))).objs.size=s.heap.objs.size+1:=by rw[Qw,size_push']
 have at1:(((s.heap.push (seqObj "list" #[] 0)).update s.heap.objs.size (Obj.mapSeq (· ++ ws.toArray))).push (seqObj "list" ws.toArray 0)).get? (s.heap.objs.size+1)=some (seqObj "list" ws.toArray 0):=by
  rw[← sz]
  exact Ni _ rfl
 show wpAny _ _ _ _ _ { s with heap:=((s.heap.push (seqObj "list" #[] 0)).update s.heap.objs.size (Obj.mapSeq (· ++ ws.toArray))).push (seqObj "list" ws.toArray 0) }
 rw[sz]
 exact Nb (wpAny_holding (wpAny_call_entry slot_list_sort ⟨_,at1,rfl⟩ entry_list_sort
  (vR at1 few ⟨_,rfl,Ng ⟨_,rfl,go⟩⟩) (args_list_sort _)))
end
theorem cw{h:Heap}{ws:List Value}{out:Array Value}:∀ b o,h.get? b=some o→(sortedAll h ws out).get? b=some o:=fun b o e=>by
 have hb:=Nn e
 have sz:((h.push (seqObj "list" #[] 0)).update h.objs.size (Obj.mapSeq (· ++ ws.toArray))).objs.size=h.objs.size+1:=by rw[Qw,size_push']
 have e1:(((h.push (seqObj "list" #[] 0)).update h.objs.size (Obj.mapSeq (· ++ ws.toArray))).push (seqObj "list" ws.toArray 0)).get? b=some o :=
  Nc _ (by rw[OP _ _ _ _ (NC hb)];exact Nc _ e)
 unfold sortedAll sortedHeap
 have nb:b≠h.objs.size+1:=NC (Qn hb)
 rw[OP _ _ _ _ nb]
 refine Nc _ (Nc _ ?_)
 rw[OP _ _ _ _ nb]
 exact e1
theorem fE{h:Heap}{ws:List Value}{out:Array Value}:∃ n,(sortedAll h ws out).get? (h.objs.size+1)=some (seqObj "list" out n):=by
 have sz:((h.push (seqObj "list" #[] 0)).update h.objs.size (Obj.mapSeq (· ++ ws.toArray))).objs.size=h.objs.size+1:=by rw[Qw,size_push']
 have at1:(((h.push (seqObj "list" #[] 0)).update h.objs.size (Obj.mapSeq (· ++ ws.toArray))).push (seqObj "list" ws.toArray 0)).get? (h.objs.size+1)=some (seqObj "list" ws.toArray 0):=by
  rw[← sz]
  exact Ni _ rfl
 obtain⟨ep,bare⟩:∃ ep,((((h.push (seqObj "list" #[] 0)).update h.objs.size (Obj.mapSeq (· ++ ws.toArray))).push (seqObj "list" ws.toArray 0)).update (h.objs.size+1) (Obj.mapSeq fun _=>#[])).get? (h.objs.size+1)=some (seqObj "list" #[] ep):=⟨_,get?_update_seq at1 _⟩
 unfold sortedAll sortedHeap
 exact⟨_,get?_update_seq (Nc _ (Nc _ bare)) _⟩
theorem qi{X:Cx}:v9 X (.builtin "sorted") (fun xs H Q=>∃ l ys,xs=[.ref l]∧SqL X.K H l ys∧ys.length<2∧∀ p,H p=none→Q (.ref p) (upd H p (.lst ys))):=by
 intro pins s σ H xs us Q I rv h
 obtain⟨l,ys,rfl,hl,few,q⟩:=h
 obtain⟨u,rfl,ru⟩:=j6.one rv
 obtain rfl:u=Value.ref l:=ru
 obtain⟨its,rl,⟨ol,nl,hl1,hl2,_,hl3⟩,hz⟩:=I.list hl
 refine pd (ws:=its) ⟨ol,hl1,hl2,nl,hl3⟩ (by rw[← rl.length];exact few) ?_
 obtain⟨n,hn⟩:=fE (h:=s.heap) (ws:=its) (out:=its.toArray)
 exact⟨.ref (s.heap.objs.size+1),_,I.laid (t':=s.toks) (o:=.lst ys) cw (Pe _) ⟨hz,its,n,rl,hn⟩,rfl,q _ (I.hok.fresh (Pe _))⟩
end L2
namespace DL
open PySem PySem.Spec L2
open PyProof.Rows hiding St
def Iv:DRC:=fun ds M R=>∃ x xs,ds=[x]∧D8 M x=some xs∧((xs.length<2∧∀ p,M p=none→R (.ref p) (C1 M p (.lst xs))) ∨
 ∃ i j ra rb,xs=[.tup (.int i :: ra),.tup (.int j :: rb)]∧i≠j∧∀ p,M p=none→R (.ref p) (C1 M p (.lst (if j<i then[.tup (.int j :: rb),.tup (.int i :: ra)]else[.tup (.int i :: ra),.tup (.int j :: rb)]))))
theorem yJ{X:Cx}:T0 X (.builtin "sorted") Iv:=v9.imp (v9.or qi qh) fun xs H Q ⟨ds,M,R,hl,am,⟨x,ys,z,hi,h⟩,f⟩=>by
 subst z
 obtain⟨v,rfl,hv⟩:=hl.one
 obtain⟨a,us,rfl,sq,lx⟩:=u9 am hv hi
 rcases h with⟨few,r⟩|⟨i,j,ra,rb,rfl,ne,r⟩
 ·refine .inl ⟨a,us,rfl,sq,by rw[lx.length];exact few,fun p hp=>f _ _ (r p (am.fresh hp)) _ _ (KT.alloc hp) (am.new hp lx) (.ref p)⟩
 ·cases lx with
  | cons h1 t1 =>
  cases t1 with
  | cons h2 t2 =>
  cases t2
  cases h1 with
  | tup s1 l1 =>
  cases h2 with
  | tup s2 l2 =>
  rename_i a1 x1 a2 x2
  cases l1 with
  | cons g1 l1 =>
  cases l2 with
  | cons g2 l2 =>
  cases g1
  cases g2
  refine .inr ⟨a,a1,a2,i,j,_,_,rfl,sq,s1,s2,ne,fun p hp=>?_⟩
  have rr:=r p (am.fresh hp)
  have t1:Has X.K H (.ref a1) (.tup (.int i :: ra)):=.tup s1 (.cons (.int i) l1)
  have t2:Has X.K H (.ref a2) (.tup (.int j :: rb)):=.tup s2 (.cons (.int j) l2)
  by_cases hji:j<i
  ·rw[if_pos hji]at rr ⊢
   exact f _ _ rr _ _ (KT.alloc hp) (am.new hp (.cons t2 (.cons t1 .nil))) (.ref p)
  ·rw[if_neg hji]at rr ⊢
   exact f _ _ rr _ _ (KT.alloc hp) (am.new hp (.cons t1 (.cons t2 .nil))) (.ref p)
theorem iJ:bootBuiltins "sorted" = some (.builtin "sorted"):=by decide +kernel
end DL
namespace L2
open PySem PySem.Spec PyProof.Rows
noncomputable def A9(led:Bool)(p:Array Nat):SetTable:={ mask:=7,place:=p,dummies:=#[],finger:=0,led:=led,moves:=0,plain:=true }
theorem P6(i j:Nat):SetTable.below #[i] j=if i<j then 1 else 0:=by
 unfold SetTable.below
 show SetTable.below.go #[i] j 1 0 1=_
 unfold SetTable.below.go
 show(if 0<1 then(let mid:=(0+1) / 2;if (#[i]:Array Nat).getD mid j<j then SetTable.below.go #[i] j 0 (mid+1) 1 else SetTable.below.go #[i] j 0 0 mid)else 0)=_
 rw[if_pos (by decide)]
 show(if i<j then _ else _)=_
 split
 ·rfl
 ·rfl
theorem bP(i k j:Nat)(h:i<k):SetTable.below #[i,k] j=if k<j then 2 else if i<j then 1 else 0:=by
 unfold SetTable.below
 show SetTable.below.go #[i,k] j 2 0 2=_
 unfold SetTable.below.go
 show(if 0<2 then(if k<j then SetTable.below.go #[i,k] j 1 2 2 else SetTable.below.go #[i,k] j 1 0 1)else 0)=_
 rw[if_pos (by decide)]
 by_cases h1:k<j
 ·rw[if_pos h1,if_pos h1];rfl
 ·rw[if_neg h1,if_neg h1]
  unfold SetTable.below.go
  show(if 0<1 then(if i<j then SetTable.below.go #[i,k] j 0 1 1 else SetTable.below.go #[i,k] j 0 0 0)else 0)=_
  rw[if_pos (by decide)]
  split<;>rfl
theorem mL(led:Bool)(i j:Nat):(A9 led #[i]).slot j=if j=i then .live 0 else .empty:=by
 unfold SetTable.slot
 show(let n:=SetTable.below #[i] j;if ((#[i]:Array Nat)[n]? == some j)=true then SetTable.Slot.live n else if SetTable.has #[] j=true then .dummy else .empty)=_
 simp only[P6]
 have hn:SetTable.has #[] j=false:=rfl
 by_cases h:i<j
 ·rw[if_pos h]
  have:¬ j=i:=by omega
  rw[if_neg this,hn]
  rfl
 ·rw[if_neg h]
  by_cases h2:j=i
  ·subst h2
   rw[if_pos rfl]
   simp
  ·rw[if_neg h2,hn]
   have:((#[i]:Array Nat)[0]? == some j)=false:=by simp;omega
   rw[this]
   rfl
theorem ik(led:Bool)(j:Nat)(h g:Int)(hg:g≠h)(hj:j<8):∀(k fuel:Nat) (p:SetTable.Probe),p.perturb<32 ^ k→k+2≤fuel→p.more=0→p.dummy=none→p.j=p.i→p.i<8 →
  ∃ i,i≠j∧i<8∧SetTable.probe.go (A9 led #[j]) (fun _=>g) h fuel p=some (.empty i none)
 | k,0,_,_,hf,_,_,_,_=>by omega
 | k,fuel+1,p,hp,hf,hm,hd,hji,hi=>by
  unfold SetTable.probe.go
  rw[mL]
  by_cases e:p.j=j
  ·rw[if_pos e]
   show ∃ i,i≠j∧i<8∧(if (g == h)=true then _ else _)=_
   rw[if_neg (by simpa using hg)]
   have ha:(A9 led #[j]).advance p = { p with j:=(p.i*5+1+p.perturb / 32) % 8,more:=0,i:=(p.i*5+1+p.perturb / 32) % 8,perturb:=p.perturb / 32 }:=by
    unfold SetTable.advance
    rw[if_neg (by omega)]
    show(({ p with j:=_,more:=SetTable.runEnd 7 ((p.i*5+1+p.perturb / 32) % 8) - ((p.i*5+1+p.perturb / 32) % 8),i:=_,perturb:=_ }):SetTable.Probe)=_
    have:SetTable.runEnd 7 ((p.i*5+1+p.perturb / 32) % 8)=(p.i*5+1+p.perturb / 32) % 8:=by
     unfold SetTable.runEnd
     rw[if_neg (by omega)]
    rw[this,Nat.sub_self]
    rfl
   rw[ha]
   have lt:(p.i*5+1+p.perturb / 32) % 8<8:=PK _ (by decide)
   cases k with
   | zero =>
    have p0:p.perturb=0:=by simp at hp;omega
    obtain⟨f2,rfl⟩:∃ f2,fuel=f2+1:=⟨fuel - 1,by omega⟩
    refine⟨(p.i*5+1) % 8,by omega,by omega,?_⟩
    unfold SetTable.probe.go
    rw[mL]
    show(match (if (p.i*5+1+p.perturb / 32) % 8=j then SetTable.Slot.live 0 else .empty)with|.empty=>_|.dummy=>_|.live i=>_)=_
    rw[p0,if_neg (by omega)]
    show some (SetTable.Met.empty ((p.i*5+1+0 / 32) % 8) p.dummy)=_
    rw[hd]
   | succ k=>exact ik led j h g hg hj k fuel _ (by
     show p.perturb / 32<32 ^ k
     rw[Nat.div_lt_iff_lt_mul (by decide)]
     rw[Om]at hp;exact hp) (by omega) rfl hd rfl lt
  ·rw[if_neg e]
   exact⟨p.j,e,by omega,by show some (SetTable.Met.empty p.j p.dummy)=_;rw[hd]⟩
theorem Cn(h:Int):SetTable.bits h<32 ^ 13:=by
 unfold SetTable.bits
 have:=OI h (show(0:Int)<2 ^ 64 by decide)
 have:=OW h (show(2 ^ 64:Int)≠0 by decide)
 have:(32:Nat) ^ 13=2 ^ 65:=by decide
 omega
theorem mH(led:Bool)(p:Array Nat)(h:Int):(A9 led p).probeStart h = { j:=SetTable.bits h % 8,more:=0,i:=SetTable.bits h % 8,perturb:=SetTable.bits h,dummy:=none }:=by
 unfold SetTable.probeStart
 show(({ j:=SetTable.bits h % 8,more:=SetTable.runEnd 7 (SetTable.bits h % 8) - SetTable.bits h % 8,i:=_,perturb:=_,dummy:=_ }):SetTable.Probe)=_
 have:SetTable.runEnd 7 (SetTable.bits h % 8)=SetTable.bits h % 8:=by
  unfold SetTable.runEnd
  have:=PK (SetTable.bits h) (show 0<8 by decide)
  rw[if_neg (by omega)]
 rw[this,Nat.sub_self]
 rfl
theorem xU(led:Bool)(h:Int):(A9 led #[]).freeSlot h=some (SetTable.bits h % 8,false):=by
 unfold SetTable.freeSlot
 rw[mH]
 rfl
theorem xT(led:Bool)(j:Nat)(hj:j<8)(h:Int):∃ i,i≠j∧i<8∧(A9 led #[j]).freeSlot h=some (i,false):=by
 obtain⟨i,h1,h2,h3⟩:=ik led j h (h+1) (by omega) hj 13 220 { j:=SetTable.bits h % 8,more:=0,i:=SetTable.bits h % 8,perturb:=SetTable.bits h,dummy:=none } (Cn h) (by decide) rfl rfl rfl (PK _ (by decide))
 refine⟨i,h1,h2,?_⟩
 unfold SetTable.freeSlot
 rw[mH]
 show(match SetTable.probe.go (A9 led #[j]) (fun _=>h+1) h 220 _ with|some (.empty j d)=>some (d.getD j,d.isSome)|_=>none)=_
 rw[h3]
 rfl
theorem BK(led:Bool)(h:Int)(x:Value):∃ i,i<8∧layNew (A9 led #[]) #[] h x=(#[(h,x)],A9 led #[i],false,false):=by
 refine⟨SetTable.bits h % 8,PK _ (by decide),?_⟩
 unfold layNew
 rw[xU]
 rfl
theorem BJ(led:Bool)(j:Nat)(hj:j<8)(e:Int × Value)(h:Int)(x:Value):∃ i k e1 e2,i<k∧(e1=e∧e2=(h,x)∨e1=(h,x)∧e2=e)∧layNew (A9 led #[j]) #[e] h x=(#[e1,e2],A9 led #[i,k],false,false):=by
 obtain⟨i,h1,h2,h3⟩:=xT led j hj h
 by_cases c:j<i
 ·have hb:SetTable.below #[j] i=1:=by rw[P6,if_pos c]
  have hp:(A9 led #[j]).put i=(A9 led #[j,i],1):=by
   unfold SetTable.put
   show(({ (A9 led #[j])with place:=SetTable.insertAt #[j] (SetTable.below #[j] i) i,dummies:=#[] }:SetTable),SetTable.below #[j] i)=_
   rw[hb];rfl
  refine⟨j,i,e,(h,x),c,.inl ⟨rfl,rfl⟩,?_⟩
  unfold layNew
  simp only[h3,hp]
  rfl
 ·have hb:SetTable.below #[j] i=0:=by rw[P6,if_neg c]
  have hp:(A9 led #[j]).put i=(A9 led #[i,j],0):=by
   unfold SetTable.put
   show(({ (A9 led #[j])with place:=SetTable.insertAt #[j] (SetTable.below #[j] i) i,dummies:=#[] }:SetTable),SetTable.below #[j] i)=_
   rw[hb];rfl
  refine⟨i,j,(h,x),e,by omega,.inr ⟨rfl,rfl⟩,?_⟩
  unfold layNew
  simp only[h3,hp]
  rfl
def I0(led:Bool)(es:Array (Int × Value))(t:SetTable):Prop:=(es = #[]∧t=A9 led #[])∨(∃ e j,j<8∧es = #[e]∧t=A9 led #[j])∨(∃ e1 e2 i k,i<k∧es = #[e1,e2]∧t=A9 led #[i,k])
theorem I0.fits{led:Bool}{es:Array (Int × Value)}{t:SetTable}(h:I0 led es t):t.fits es.size=true:=by
 rcases h with⟨rfl,rfl⟩|⟨e,j,_,rfl,rfl⟩|⟨e1,e2,i,k,_,rfl,rfl⟩<;>rfl
theorem I0.plain{led:Bool}{es:Array (Int × Value)}{t:SetTable}(h:I0 led es t):t.plain=true:=by
 rcases h with⟨rfl,rfl⟩|⟨e,j,_,rfl,rfl⟩|⟨e1,e2,i,k,_,rfl,rfl⟩<;>rfl
theorem I0.led{led:Bool}{es:Array (Int × Value)}{t:SetTable}(h:I0 led es t):t.led=led:=by
 rcases h with⟨rfl,rfl⟩|⟨e,j,_,rfl,rfl⟩|⟨e1,e2,i,k,_,rfl,rfl⟩<;>rfl
theorem I0.size{led:Bool}{es:Array (Int × Value)}{t:SetTable}(h:I0 led es t):es.size≤2:=by
 rcases h with⟨rfl,rfl⟩|⟨e,j,_,rfl,rfl⟩|⟨e1,e2,i,k,_,rfl,rfl⟩<;>simp
noncomputable def E2(b:Bool)(ord:Nat→Nat)(es:Array (Int × Value))(t:SetTable)(slot given:Nat):Option (Value × Nat) :=
 if b=true then((pickOrder ord es)[given]?).map fun e=>(e.2,slot)
 else match es[SetTable.below t.place slot]?,t.place[SetTable.below t.place slot]? with
  | some (_,x),some j=>some (x,j+1)
  | _,_=>none
theorem wO(ord:Nat→Nat):pickOrder ord (#[]:Array (Int × Value)) = #[]:=rfl
theorem wN(ord:Nat→Nat)(e:Int × Value):pickOrder ord #[e] = #[e]:=by
 unfold pickOrder
 show pickOrder.go ord 1 0 [e] #[]=_
 unfold pickOrder.go
 rw[show ord 0 % ([e]:List (Int × Value)).length=0 from Nat.mod_one _]
 rfl
theorem wM(ord:Nat→Nat)(e f:Int × Value):pickOrder ord #[e,f] = #[e,f]∨pickOrder ord #[e,f] = #[f,e]:=by
 unfold pickOrder
 show pickOrder.go ord 2 0 [e,f] #[]=_∨pickOrder.go ord 2 0 [e,f] #[]=_
 have h1:∀(x:Int × Value) (out:Array (Int × Value)),pickOrder.go ord 1 1 [x] out=out.push x:=fun x out=>by
  unfold pickOrder.go
  rw[show ord 1 % ([x]:List (Int × Value)).length=0 from Nat.mod_one _]
  rfl
 have hm:ord 0 % ([e,f]:List (Int × Value)).length=0∨ord 0 % ([e,f]:List (Int × Value)).length=1:=by
  show ord 0 % 2=0∨ord 0 % 2=1
  omega
 unfold pickOrder.go
 rcases hm with z|z
 ·rw[z]
  exact .inl (h1 f #[e])
 ·rw[z]
  exact .inr (h1 e #[f])
theorem vE{led b:Bool}{es:Array (Int × Value)}{t:SetTable}(h:I0 led es t)(ord:Nat→Nat):∃ vs:List Value,vs.Perm (es.toList.map (·.2))∧∃ sl:Nat→Nat,sl 0=0 ∧
  (∀ i v,vs[i]? = some v→E2 b ord es t (sl i) i=some (v,sl (i+1)))∧E2 b ord es t (sl es.size) es.size=none:=by
 cases b with
 | true =>
  have key:∀ out:Array (Int × Value),pickOrder ord es=out→out.size=es.size→out.toList.Perm es.toList→∃ vs:List Value,vs.Perm (es.toList.map (·.2))∧∃ sl:Nat→Nat,sl 0=0 ∧
    (∀ i v,vs[i]? = some v→E2 true ord es t (sl i) i=some (v,sl (i+1)))∧E2 true ord es t (sl es.size) es.size=none:=fun out ho hz hp=>by
   refine⟨out.toList.map (·.2),hp.map _,fun _=>0,rfl,fun i v hv=>?_,?_⟩
   ·unfold E2
    rw[if_pos rfl,ho]
    rw[ND,Array.getElem?_toList]at hv
    cases e:out[i]? with
    | none=>rw[e]at hv;cases hv
    | some x=>rw[e]at hv;cases hv;rfl
   ·unfold E2
    rw[if_pos rfl,ho,Array.getElem?_eq_none (by omega)]
    rfl
  rcases h with⟨rfl,rfl⟩|⟨e,j,_,rfl,rfl⟩|⟨e1,e2,i,k,_,rfl,rfl⟩
  ·exact key _ (wO ord) rfl (.refl _)
  ·exact key _ (wN ord e) rfl (.refl _)
  ·rcases wM ord e1 e2 with q|q
   ·exact key _ q rfl (.refl _)
   ·exact key _ q rfl (.swap _ _ _)
 | false =>
  rcases h with⟨rfl,rfl⟩|⟨e,j,_,rfl,rfl⟩|⟨e1,e2,i,k,hik,rfl,rfl⟩
  ·exact⟨[],.refl _,fun _=>0,rfl,fun i v hv=>by simp at hv,rfl⟩
  ·refine⟨[e.2],.refl _,fun n=>if n=0 then 0 else j+1,rfl,fun i v hv=>?_,?_⟩
   ·match i,hv with
    | 0,hv =>
     cases hv
     show E2 false ord #[e] (A9 led #[j]) 0 0=some (e.2,j+1)
     unfold E2
     rw[if_neg Nt]
     show(match (#[e]:Array (Int × Value))[SetTable.below #[j] 0]?,(#[j]:Array Nat)[SetTable.below #[j] 0]? with|some (_,x),some j=>some (x,j+1)|_,_=>none)=_
     rw[P6,if_neg (by omega)]
     rfl
    | i+1,hv=>simp at hv
   ·show E2 false ord #[e] (A9 led #[j]) (j+1) 1=none
    unfold E2
    rw[if_neg Nt]
    show(match (#[e]:Array (Int × Value))[SetTable.below #[j] (j+1)]?,(#[j]:Array Nat)[SetTable.below #[j] (j+1)]? with|some (_,x),some j=>some (x,j+1)|_,_=>none)=_
    rw[P6,if_pos (by omega)]
    rfl
  ·have st:∀ sl n,E2 false ord #[e1,e2] (A9 led #[i,k]) sl n=(match (#[e1,e2]:Array (Int × Value))[SetTable.below #[i,k] sl]?,(#[i,k]:Array Nat)[SetTable.below #[i,k] sl]? with|some (_,x),some j=>some (x,j+1)|_,_=>none):=fun sl n=>by
    unfold E2
    rw[if_neg Nt]
    rfl
   refine⟨[e1.2,e2.2],.refl _,fun n=>if n=0 then 0 else if n=1 then i+1 else k+1,rfl,fun n v hv=>?_,?_⟩
   ·match n,hv with
    | 0,hv =>
     cases hv
     show E2 false ord #[e1,e2] (A9 led #[i,k]) 0 0=some (e1.2,i+1)
     rw[st,bP _ _ _ hik,if_neg (by omega),if_neg (by omega)]
     rfl
    | 1,hv =>
     cases hv
     show E2 false ord #[e1,e2] (A9 led #[i,k]) (i+1) 1=some (e2.2,k+1)
     rw[st,bP _ _ _ hik,if_neg (by omega),if_pos (by omega)]
     rfl
    | n+2,hv=>simp at hv
   ·show E2 false ord #[e1,e2] (A9 led #[i,k]) (k+1) 2=none
    rw[st,bP _ _ _ hik,if_pos (by omega)]
    rfl
noncomputable def D7(w:World):Bool:=w.params.followText "set-order"
theorem O6:Slot "set_iterator" "__next__" "set_iterator.__next__" := .of (owner := "set_iterator") (n := "__next__")
 (by rw[typeLookup_type,builtinLookup_eq_fast];kernel_rfl) (by decide +kernel) (by decide +kernel) (by decide +kernel)
 (by first|exact .inl (by decide +kernel)|exact .inr (by decide +kernel)) (by rw[isSubtype_type];kernel_rfl)
theorem mO:entryFor table "set_iterator.__next__" = some Builtin.«set_iterator.__next__»:=entryFor_of_tree (by kernel_rfl)
theorem mJ:Manifest.owners.lookup (String.ofList ['r','o','t','a','r','e','t','i','_','t','e','s'].reverse)=some Manifest.sig_set_iterator:=by kernel_rfl
theorem mY(a:Value):argsOk "set_iterator.__next__" ⟨[a],[]⟩:=by
 unfold argsOk
 rw[signature?_of (id := "set_iterator.__next__") (n:=['_','_','t','x','e','n','_','_']) (o:=['r','o','t','a','r','e','t','i','_','t','e','s']) (by kernel_rfl) mJ]
 kernel_rfl
theorem mM:Slot "set_iterator" "__iter__" "set_iterator.__iter__" := .of (owner := "set_iterator") (n := "__iter__")
 (by rw[typeLookup_type,builtinLookup_eq_fast];kernel_rfl) (by decide +kernel) (by decide +kernel) (by decide +kernel)
 (by first|exact .inl (by decide +kernel)|exact .inr (by decide +kernel)) (by rw[isSubtype_type];kernel_rfl)
theorem wc(a:Value):argsOk "set_iterator.__iter__" ⟨[a],[]⟩:=by
 unfold argsOk
 rw[signature?_of (id := "set_iterator.__iter__") (n:=['_','_','r','e','t','i','_','_']) (o:=['r','o','t','a','r','e','t','i','_','t','e','s']) (by kernel_rfl) mJ]
 kernel_rfl
theorem vU:entryFor table "set_iterator.__iter__" = some Builtin.«dict_keyiterator.__iter__»:=entryFor_alias (id' := "dict_keyiterator.__iter__")
 (by kernel_rfl) (by first|rfl|decide +kernel|(unfold String.splitOn;simp +decide [String.splitOnAux])) (by decide +kernel) (by kernel_rfl)
theorem tF:entryFor table "set.__iter__" = some Builtin.«frozenset.__iter__»:=entryFor_alias (id' := "frozenset.__iter__")
 (by kernel_rfl) (by first|rfl|decide +kernel|(unfold String.splitOn;simp +decide [String.splitOnAux])) (by decide +kernel) (by kernel_rfl)
noncomputable def T6(slot i:Nat)(a:Addr)(n ep:Nat):Obj:={ cls:=.type "set_iterator",data:=.fields #[rawInt slot,rawInt i,.ref a,rawInt n,rawInt ep] }
def W0(h:Heap)(it:Addr)(slot i:Nat)(a:Addr)(n ep:Nat):Prop:=∃ o,h.get? it=some o∧o.cls = .type "set_iterator" ∧ o.data = .fields #[rawInt slot,rawInt i,.ref a,rawInt n,rawInt ep]
theorem W0.typeIs{s:Shared}{it a:Addr}{slot i n ep:Nat}(x:W0 s.heap it slot i a n ep):s.TypeIs (.ref it) "set_iterator" := let ⟨o,ho,hc,_⟩:=x;⟨o,ho,hc⟩
theorem W0.at{h h':Heap}{it a:Addr}{slot i n ep:Nat}(x:W0 h it slot i a n ep)(e:∀ o,h.get? it=some o→h'.get? it=some o):W0 h' it slot i a n ep:=let ⟨o,ho,r⟩:=x;⟨o,e _ ho,r⟩
def K0(b:Bool)(h:Heap)(a:Addr)(es:Array (Int × Value))(ep:Nat):Prop:=∃ o t,h.get? a=some o∧o.ExactSet∧o.data = .set es ep t∧I0 (!b) es t
theorem K0.at{b:Bool}{h h':Heap}{a:Addr}{es:Array (Int × Value)}{ep:Nat}(x:K0 b h a es ep)(e:∀ o,h.get? a=some o→h'.get? a=some o):K0 b h' a es ep:=let ⟨o,t,ho,r⟩:=x;⟨o,t,e _ ho,r⟩
theorem K0.typeIs{s:Shared}{b:Bool}{a:Addr}{es:Array (Int × Value)}{ep:Nat}(x:K0 b s.heap a es ep):s.TypeIs (.ref a) "set" := let ⟨o,_,ho,hc,_⟩:=x;⟨o,ho,hc.1⟩
section
variable {prog:Program} {w:World} {A:Around} {E:Value→Shared→Prop} {s:Shared}
theorem cj{a:Addr}{o:Obj}{es:Array (Int × Value)}{ep:Nat}{t:SetTable}{slot i:Nat}{Q:Option (Value × Nat)→Shared→Prop}(ho:s.heap.get? a=some o)(hd:o.data = .set es ep t)(hf:I0 (!(D7 w)) es t)
  (h:Q (E2 (D7 w) (w.params.setOrder a ep) es t slot i) s):wpAny (model prog w) A (setNext a slot i ep) Q E s:=by
 unfold setNext
 refine Nb (wpAny_setState_of ho hd hf.fits ?_)
 dsimp only
 unfold setsByText
 refine Nb (Nb (wpAny_askSetting (Ng ?_)))
 show wpAny _ _ (if D7 w=true then _ else _) _ _ s
 have hl:=hf.led
 have hp:=hf.plain
 unfold E2 at h
 cases hb:D7 w with
 | true =>
  rw[hb,if_pos rfl]at h
  rw[if_pos rfl]
  rw[if_neg (by rw[bne_self_eq_false];exact Nt)]
  unfold setWalk
  refine Nb (Nb (wpAny_setState_of ho hd hf.fits ?_))
  dsimp only
  unfold setsByText
  refine Nb (Nb (wpAny_askSetting (Ng ?_)))
  show wpAny _ _ (if D7 w=true then _ else _) _ _ s
  rw[hb,if_pos rfl]
  exact Nb (wpAny_askSetting (Ng (Ng h)))
 | false =>
  rw[hb]at h hl
  rw[if_neg Nt]at h ⊢
  obtain⟨m,pl,du,fi,le,mo,pn⟩:=t
  dsimp only at hl hp
  subst hl
  subst hp
  show wpAny _ _ (if (false && decide (es.size > 1))=true then _ else _) _ _ s
  rw[OR,if_neg Nt]
  refine Nb (wpAny_of_eq (a:=()) rfl ?_)
  exact Ng h
theorem xn{it a:Addr}{slot sl2 i n ep:Nat}{es:Array (Int × Value)}{v:Value}{Q:Option Value→Shared→Prop}(hit:W0 s.heap it slot i a n ep)(hs:K0 (D7 w) s.heap a es ep)(hz:n=es.size)
  (hx:∀ t,s.heap.get? a=some t→∀ tb,t.data = .set es ep tb→E2 (D7 w) (w.params.setOrder a ep) es tb slot i=some (v,sl2))
  (hQ:∀ h' t,W0 h' it sl2 (i+1) a n ep→Heap.SameBut it s.heap h'→Q (some v) { s with heap:=h',toks:=t }):wpAny (model prog w) A (pyNext (.ref it)) Q E s:=by
 obtain⟨o,ho,hc,hd⟩:=id hit
 obtain⟨os,tb,hos,hex,hds,hf⟩:=id hs
 unfold pyNext
 refine Nb (wpAny_attempt (wpAny_callSpecial?_slot (name:=Str.ofString "__next__") hit.typeIs O6
  (wpAny_call_entry O6 hit.typeIs mO ?_ (mY _))))
 unfold Builtin.«set_iterator.__next__»
 refine Nb (wpAny_of_eq (a:=(Value.ref it,[])) rfl ?_)
 refine Nb (wpAny_fieldsOf ho hd ?_)
 show wpAny _ _ (setEntries a >>= _) _ _ s
 refine Nb (wpAny_setEntries_of hos hds hf.fits ?_)
 rw[if_neg (by rw[hz];simp)]
 show wpAny _ _ (setNext a (slot:Int).toNat (i:Int).toNat (ep:Int).toNat >>= _) _ _ s
 rw[NI,NI,NI]
 refine Nb (cj hos hds hf ?_)
 rw[hx os hos tb hds]
 dsimp only
 refine Nb (wpAny_setField ho hd (by simp) ?_)
 have g1:=Oi (Obj.mapFields (·.setIfInBounds 0 (rawInt sl2))) ho (Obj.isFreed_of_fields (Obj.data_mapFields hd _))
 have d1:(Obj.mapFields (·.setIfInBounds 0 (rawInt sl2)) o).data = .fields (#[rawInt slot,rawInt i,.ref a,rawInt n,rawInt ep].setIfInBounds 0 (rawInt sl2)):=Obj.data_mapFields hd _
 refine Nb (wpAny_setField g1 d1 (by simp) ?_)
 refine Ng ⟨v,rfl,Ng (hQ _ _ ?_ ((Heap.SameBut.update ..).trans (Heap.SameBut.update ..)))⟩
 exact⟨_,Oi _ g1 (Obj.isFreed_of_fields (Obj.data_mapFields d1 _)),(Obj.cls_mapFields ..).trans ((Obj.cls_mapFields ..).trans hc),by
  rw[Obj.data_mapFields d1]
  simp⟩
theorem vQ{it a:Addr}{slot n ep:Nat}{es:Array (Int × Value)}{Q:Option Value→Shared→Prop}(hh:A.handled=none)(hit:W0 s.heap it slot n a n ep)(hs:K0 (D7 w) s.heap a es ep)(hz:n=es.size)
  (hx:∀ t,s.heap.get? a=some t→∀ tb,t.data = .set es ep tb→E2 (D7 w) (w.params.setOrder a ep) es tb slot n=none)
  (hQ:∀ h',Heap.ExtBut it s.heap h'→Q none { s with heap:=h' }):wpAny (model prog w) A (pyNext (.ref it)) Q E s:=by
 obtain⟨o,ho,hc,hd⟩:=id hit
 obtain⟨os,tb,hos,hex,hds,hf⟩:=id hs
 unfold pyNext
 refine Nb (wpAny_attempt (wpAny_callSpecial?_slot (name:=Str.ofString "__next__") hit.typeIs O6
  (wpAny_call_entry O6 hit.typeIs mO ?_ (mY _))))
 unfold Builtin.«set_iterator.__next__»
 refine Nb (wpAny_of_eq (a:=(Value.ref it,[])) rfl ?_)
 refine Nb (wpAny_fieldsOf ho hd ?_)
 show wpAny _ _ (setEntries a >>= _) _ _ s
 refine Nb (wpAny_setEntries_of hos hds hf.fits ?_)
 rw[if_neg (by rw[hz];simp)]
 show wpAny _ _ (setNext a (slot:Int).toNat (n:Int).toNat (ep:Int).toNat >>= _) _ _ s
 rw[NI,NI,NI]
 refine Nb (cj hos hds hf ?_)
 rw[hx os hos tb hds]
 dsimp only
 refine Nb (wpAny_setField ho hd (by simp) ?_)
 refine Nb ?_
 simp only[newExc,newTuple]
 refine Nb (wpAny_newObj_type ?_ (by size_fits))
 refine Nb (m:=firstArgMember _ _) (wpAny_of_eq (a:=Value.none) (by first|rfl|(simp only[firstArgMember];rfl)) ?_)
 refine wpAny_newObj_type ?_ (by size_fits)
 simp only[raiseNew]
 refine Nb (wpAny_handled ?_)
 rw[show A.in1.handled=none from hh]
 refine Nb (Ng (wpAny_throw ?_))
 refine Nb (wpAny_isInstance (T := "StopIteration") (b:=true) ⟨_,Ni _ rfl,rfl⟩ isSubtype_stop ?_)
 refine Ng (hQ _ ((Heap.ExtBut.push (Heap.ExtBut.push ?_ _) _)))
 exact fun b o hb e=>by
  rw[OA _ _ (Ne.symm hb)];exact e
theorem vV{it a:Addr}{slot i n ep:Nat}{Q:Value→Shared→Prop}(hit:W0 s.heap it slot i a n ep)(h:Q (.ref it) s):wpAny (model prog w) A (pyIter (.ref it)) Q E s:=by
 refine wpAny_pyIter_slot hit.typeIs mM (wpAny_call_entry mM hit.typeIs vU ?_ (wc _))
 show wpAny _ _ (ret (.ref it)) _ _ s
 exact Ng ⟨_,rfl, "set_iterator",_,hit.typeIs,O6.lookup,h⟩
theorem xE{a:Addr}{es:Array (Int × Value)}{ep:Nat}{Q:Value→Shared→Prop}(hs:K0 (D7 w) s.heap a es ep)
  (h:Q (.ref s.heap.objs.size) { s with heap:=s.heap.push (T6 0 0 a es.size ep) }):wpAny (model prog w) A (pyIter (.ref a)) Q E s:=by
 obtain⟨os,tb,hos,hex,hds,hf⟩:=id hs
 refine wpAny_pyIter_slot hs.typeIs F.slot_set_iter (wpAny_call_entry F.slot_set_iter hs.typeIs tF ?_ (F.args_set_iter_1 _))
 unfold Builtin.«frozenset.__iter__»
 refine Nb (wpAny_of_eq (a:=a) rfl ?_)
 unfold Builtin.Frozenset.sizeOf
 refine Nb (Nb (wpAny_setEntries_of hos hds hf.fits (Ng ?_)))
 unfold setDrawn
 refine Nb (Nb (wpAny_setState_of hos hds hf.fits ?_))
 dsimp only
 unfold setsByText
 refine Nb (Nb (wpAny_askSetting (Ng ?_)))
 have hp:=hf.plain
 refine Ng ?_
 obtain⟨m,pl,du,fi,le,mo,pn⟩:=tb
 dsimp only at hp
 subst hp
 show wpAny _ _ (if (!(D7 w) && (false && decide (es.size > 1)))=true then _ else _) _ _ s
 rw[OR,Pb,if_neg Nt]
 refine Nb (Ng ?_)
 refine Nb (wpAny_setEpoch_of hos hds hf.fits ?_)
 unfold newFields
 refine Nb (wpAny_newObj_type ?_)
 refine Ng ⟨_,rfl, "set_iterator",_,⟨_,Ni _ rfl,rfl⟩,O6.lookup,?_⟩
 exact h
theorem sY(hh:A.handled=none)(I a:Addr)(hne:a≠I)(es:Array (Int × Value))(ep:Nat)(vs:List Value)(sl:Nat→Nat)(tb:SetTable)
  (h1:∀ i v,vs[i]? = some v→E2 (D7 w) (w.params.setOrder a ep) es tb (sl i) i=some (v,sl (i+1))) (h2:E2 (D7 w) (w.params.setOrder a ep) es tb (sl es.size) es.size=none) (hf:I0 (!(D7 w)) es tb) (hl:vs.length=es.size) :
  Walks prog w A I [I,a] [I] es.size (fun i v=>vs[i]? = some v) (fun i h=>i≤es.size∧W0 h I (sl i) i a es.size ep∧∃ o,h.get? a=some o∧o.ExactSet∧o.data = .set es ep tb) where
 sub:=fun b hb=>by simp at hb;simp[hb]
 frame:=fun _ _ _ x hk=>⟨x.1,x.2.1.at fun o e=>hk I (by simp) o e,let ⟨o,ho,r⟩:=x.2.2;⟨o,hk a (by simp) o ho,r⟩⟩
 item:=fun i s Q E hi x hQ=>by
  obtain⟨_,hit,o,ho,hex,hd⟩:=x
  have hv:vs[i]? = some (vs[i]'(by omega)):=NB (by omega)
  refine xn (v:=vs[i]'(by omega)) (sl2:=sl (i+1)) hit ⟨o,tb,ho,hex,hd,hf⟩ rfl (fun t ht tb' hd'=>?_) fun h' t hit' hs'=>?_
  ·rw[ht]at ho
   cases ho
   rw[hd']at hd
   cases hd
   exact h1 i _ hv
  ·exact hQ _ h' t hv ⟨hi,hit',o,(hs'.2 a hne).trans ho,hex,hd⟩ fun b o hb eo=>hs'.extBut b o (fun h=>hb (by simp[h])) eo
 done:=fun s Q E x hQ=>by
  obtain⟨_,hit,o,ho,hex,hd⟩:=x
  refine vQ hh hit ⟨o,tb,ho,hex,hd,hf⟩ rfl (fun t ht tb' hd'=>?_) fun h' he'=>hQ h' s.toks fun b o hb eo=>he' b o (fun h=>hb (by simp[h])) eo
  rw[ht]at ho
  cases ho
  rw[hd']at hd
  cases hd
  exact h2
 self:=fun _ _ _ _ x hQ=>vV x.2.1 hQ
theorem xH{a:Addr}{Q:Bool→Shared→Prop}(hT:s.TypeIs (.ref a) "set")(h:Q false s):wpAny (model prog w) A (Builtin.List.listLengthHint (.ref a)) Q E s:=by
 unfold Builtin.List.listLengthHint
 refine Nb (wpAny_specialOf hT F.slot_set_len.lookup ?_)
 generalize hv:("set.__len__" : String)=nm
 wp_delta
 rw[show splitId nm=some ("set","__len__")by subst hv;decide +kernel]
 subst hv
 refine Nb (wpAny_isInstance (T := "set") (b:=true) hT (by rw[isSubtype_type];kernel_rfl) ?_)
 refine wpAny_ite_split (fun z=>absurd z (by decide)) (fun _=>?_)
 refine wpAny_ite_split (fun _=>?_) (fun z=>absurd (by decide +kernel) z)
 refine Nb (wpAny_typeOf hT ?_)
 exact Ng h
theorem xX{R:Result→Shared→Prop}{a S:Addr}{rv:Value}{es:Array (Int × Value)}{ep c₀:Nat}(hh:A.handled=none)(hs:K0 (D7 w) s.heap a es ep)(hj:S≠a)
  (hS:s.heap.get? S=some { cls:=.type "list",data:=.seq #[] c₀ })
  (fin:∀ h' tk acc c1,(∀ b o,b≠S→s.heap.get? b=some o→h'.get? b=some o)→h'.get? S=some { cls:=.type "list",dict:=none,data:=.seq acc c1,slots:=#[] }→acc.toList.Perm (es.toList.map (·.2))→R (.ok (.ret rv)) { s with heap:=h',toks:=tk }) :
  wpAny (model prog w) A.in1 (Builtin.List.listExtendWith (.ref S) (.ref a) rv) (Kl prog w A R) (fun e s'=>R (.error e) s') s:=by
 obtain⟨os,tb,hos,hex,hds,hf⟩:=id hs
 obtain⟨vs,hp,sl,sl0,w1,w2⟩:=vE (b:=D7 w) hf (w.params.setOrder a ep)
 have hl:vs.length=es.size:=by rw[hp.length_eq,Nm,Array.length_toList]
 have hz:es.size≤sizeLine:=Nr hf.size (by decide)
 have lta:a<s.heap.objs.size:=Nn hos
 have ltS:S<s.heap.objs.size:=Nn hS
 have V:=(sY (prog:=prog) (w:=w) (A:=A.in1) hh s.heap.objs.size a (NC lta) es ep vs sl tb w1 w2 hf hl).toS
 have nf:S∉[s.heap.objs.size,a]:=fun q=>by
  rcases Nh.mp q with q|q
  ·exact NC ltS q
  ·exact hj (NS.mp q)
 unfold Builtin.List.listExtendWith
 refine Nb (wpAny_typeOf hs.typeIs ?_)
 have n1:Builtin.List.listSameRef (.ref S) (.ref a)=false:=by simp[Builtin.List.listSameRef,hj]
 have n2:(Value.type "set" == Value.type "list")=false:=by decide
 have n3:(Value.type "set" == Value.type "tuple")=false:=by decide
 simp only[n1,n2,n3,RS,OT,if_false]
 refine Nb (xE hs (Nb (wpAny_holding (xH (s:={ s with heap:=s.heap.push (T6 0 0 a es.size ep) }) (K0.typeIs (s:={ s with heap:=s.heap.push (T6 0 0 a es.size ep) }) (hs.at fun o e=>Nc _ e)) ?_))))
 have gS:(s.heap.push (T6 0 0 a es.size ep)).get? S=some { cls:=.type "list",data:=.seq #[] c₀ }:=Nc _ hS
 have ga:(s.heap.push (T6 0 0 a es.size ep)).get? a=some os:=Nc _ hos
 have gi:W0 (s.heap.push (T6 0 0 a es.size ep)) s.heap.objs.size (sl 0) 0 a es.size ep:=by
  rw[sl0]
  exact⟨_,Ni _ rfl,rfl,rfl⟩
 have up:∀ b o,s.heap.get? b=some o→(s.heap.push (T6 0 0 a es.size ep)).get? b=some o:=fun b o e=>Nc _ e
 generalize s.heap.push (T6 0 0 a es.size ep)=h1 at *
 refine wpAny_ite_split (fun _=>?_) (fun z=>absurd (by decide +kernel) z)
 refine Nb (wpAny_rule ?_)
 refine Nb ?_
 show wpAny _ A.in1 (updateSeq S (·.push .none) >>= fun _=>updateSeq S (·.pop)) _ _ _
 refine Nb (wpAny_updateSeq gS rfl ?_)
 have g2:=Oi (Obj.mapSeq (·.push Value.none)) gS rfl
 refine wpAny_updateSeq (hz:=by seq_fits) g2 rfl ?_
 have g3:=Oi (Obj.mapSeq (·.pop)) g2 rfl
 have oth:∀ b o,b≠S→h1.get? b=some o→((h1.update S (Obj.mapSeq (·.push Value.none))).update S (Obj.mapSeq (·.pop))).get? b=some o :=
  fun b o q1 q2=>(OA _ _ (Ne.symm q1)).trans ((OA _ _ (Ne.symm q1)).trans q2)
 refine Ng ⟨plainId_quiet F.plain_extend_loop _,?_⟩
 refine codeAny_extend_loopS V hz S nf rv es.size 0 _ #[] _ rfl (Oa _) ⟨Oa _,gi.at fun o e=>oth _ o (Ne.symm (NC ltS)) e,os,oth a os (Ne.symm hj) ga,hex,hds⟩ g3 (ItemsOf.nil _) fun s2 acc c1 mv g1 g2=>?_
 rw[Moved.eq_with mv]
 refine fin s2.heap s2.toks acc c1 (fun b o q1 q3=>mv.heap b o (fun q=>(Nh.mp q).elim q1 fun q'=>NC (Nn q3) (NS.mp q')) (oth b o q1 (up b o q3))) g1 ?_
 have:acc.toList=vs:=by
  refine List.ext_getElem? fun i=>?_
  by_cases hi:i<es.size
  ·have hv:acc[i]? = some (acc[i]'(by rw[g2.1];exact hi)):=Array.getElem?_eq_getElem _
   rw[Array.getElem?_toList,g2.2 i _ hv,hv]
  ·rw[QJ (by rw[Array.length_toList,g2.1];omega),QJ (by omega)]
 rw[this]
 exact hp
theorem xG{R:Result→Shared→Prop}{a S:Addr}{es:Array (Int × Value)}{ep c₀:Nat}(hh:A.handled=none)(hs:K0 (D7 w) s.heap a es ep)(hj:S≠a)
  (hS:s.heap.get? S=some { cls:=.type "list",data:=.seq #[] c₀ })
  (fin:∀ h' tk acc c1,(∀ b o,b≠S→s.heap.get? b=some o→h'.get? b=some o)→h'.get? S=some { cls:=.type "list",dict:=none,data:=.seq acc c1,slots:=#[] }→acc.toList.Perm (es.toList.map (·.2))→R (.ok (.ret (.ref S))) { s with heap:=h',toks:=tk }) :
  codeAny (model prog w) A (.builtin "list.__iadd__" ⟨[.ref S,.ref a],[]⟩) R s:=by
 refine codeAny_builtin F.entry_list_iadd ?_
 rw[Around.under_plainId F.plain_list_iadd _]
 exact xX (rv:=.ref S) hh hs hj hS fin
theorem ow{a:Addr}{es:Array (Int × Value)}{ep:Nat}{Q:List Value→Shared→Prop}(hh:A.handled=none)(hs:K0 (D7 w) s.heap a es ep)
  (fin:∀ h' tk vs,(∀ b o,s.heap.get? b=some o→h'.get? b=some o)→vs.Perm (es.toList.map (·.2))→Q vs { s with heap:=h',toks:=tk }):wpAny (model prog w) A (collect (.ref a)) Q E s:=by
 obtain⟨os,tb,hos,_⟩:=id hs
 have i2:s.heap.objs.size≠a:=NW (Nn hos)
 unfold collect
 refine Nb (wpAny_runValue (codeAny_builtin F.entry_proto_collect ?_));rw[Around.under_plainId F.plain_proto_collect _]
 show wpAny _ A.in1 (newList [] >>= fun S=>again (.builtin "list.__iadd__" ⟨[S,.ref a],[]⟩)) _ _ s
 have up:∀ b o,s.heap.get? b=some o→(s.heap.push { cls:=.type "list",data:=.seq ([]:List Value).toArray }).get? b=some o:=fun b o e=>Nc _ e
 have gS:(s.heap.push { cls:=.type "list",data:=.seq ([]:List Value).toArray }).get? s.heap.objs.size=some { cls:=.type "list",data:=.seq #[] }:=Ni _ rfl
 refine Nb (wpAny_newObj_type (Ng ⟨plainId_quiet F.plain_list_iadd _,xG (s:={ s with heap:=s.heap.push { cls:=.type "list",data:=.seq ([]:List Value).toArray } }) hh (hs.at fun o e=>up a o e) i2 gS fun h' tk acc c1 q1 q2 q3=>?_⟩))
 show wpAny _ A (load s.heap.objs.size >>= _) _ _ _
 refine Nb (wpAny_load q2 (Ng (fin h' tk acc.toList (fun b o e=>q1 b o (NC (Nn e)) (up b o e)) q3)))
end
noncomputable def ee(es:Array (Int × Value)):List Value:=es.toList.map (·.2)
def iP(es:Array (Int × Value))(ms:List Int):Prop:=IntsAre (ee es) ms∧∀ e∈es.toList,∃ m t,e=(hashInt m,Value.int m t)
theorem iC:∀{vs:List Value} {ms:List Int} {k:Int} {t:Tok},IntsAre vs ms→IntsAre (vs++[.int k t]) (ms++[k])
 | _,_,_,_,.nil=>.cons _ _ .nil
 | _,_,_,_,.cons n t hr=>.cons n t (iC hr)
theorem iD{vs ws:List Value}(h:vs.Perm ws):∀{ms:List Int},IntsAre ws ms→∃ ms',IntsAre vs ms'∧ms'.Perm ms:=by
 induction h with
 | nil=>exact fun h=>⟨_,h,.refl _⟩
 | cons x p ih =>
  intro ms h
  cases h with
  | cons n t hr =>
   obtain⟨ms',a,b⟩:=ih hr
   exact⟨n :: ms',.cons n t a,b.cons n⟩
 | swap x y l =>
  intro ms h
  cases h with
  | cons n t hr =>
   cases hr with
   | cons m u hr=>exact⟨m :: n :: _,.cons m u (.cons n t hr),.swap _ _ _⟩
 | trans p q ih1 ih2 =>
  intro ms h
  obtain⟨m1,a,b⟩:=ih2 h
  obtain⟨m2,c,d⟩:=ih1 a
  exact⟨m2,c,d.trans b⟩
section
variable {prog:Program} {w:World} {A:Around} {E:Value→Shared→Prop} {s:Shared}
theorem iP.elems{es:Array (Int × Value)}{ms:List Int}(h:iP es ms):ElemsOf (intKind prog w) es.toList:=fun e he=>by
 obtain⟨m,t,rfl⟩:=h.2 e he
 exact⟨⟨m,intKind_is _ _ _ _,rfl⟩,rfl⟩
theorem iG{k:Int}:∀{l:List (Int × Value)} {ms:List Int},IntsAre (l.map (·.2)) ms→((l.findIdx? fun e=>(intKind prog w).is k e.2).isSome=true↔k∈ms)
 | [],ms,h=>by cases h;simp
 | (hh,x) :: l,ms,h=>by
  cases h with
  | cons n t hr =>
   have ih:=iG (k:=k) hr
   rw[List.findIdx?_cons]
   have e:(intKind prog w).is k (Value.int n t)=(n == k):=by
    show Value.isInt k (Value.int n t)=_
    unfold Value.isInt
    rfl
   show(if (intKind prog w).is k (Value.int n t)=true then some 0 else _).isSome=true↔_
   rw[e]
   by_cases c:n=k
   ·subst c;simp
   ·have:(n == k)=false:=by simpa using c
    rw[this,if_neg Nt,Option.isSome_map,ih,Nh]
    exact⟨.inr,fun z=>z.elim (fun q=>absurd q.symm c) id⟩
theorem Cr{a:Addr}{es:Array (Int × Value)}{ep:Nat}{ms:List Int}{k:Int}{tk:Tok}{Q:Bool→Shared→Prop}(hs:K0 (D7 w) s.heap a es ep)(hi:iP es ms)(h1:es.size≤1)
  (fin:∀ b h' es' ep' ms',Heap.SameBut a s.heap h'→K0 (D7 w) h' a es' ep'→iP es' ms'→ms'.Perm (if k∈ms then ms else ms++[k])→Q b { s with heap:=h' }) :
  wpAny (model prog w) A (setAddHashed a (.int k tk) (hashInt k)) Q E s:=by
 obtain⟨o,t,ho,hex,hd,hf⟩:=id hs
 have hel:ElemsOf (intKind prog w) es.toList:=hi.elems
 have room:es.size<scanBound:=NK h1 (by decide)
 unfold setAddHashed setAddHashedIn
 refine wpAny_holding (Nb (wpAny_setState_of ho hd hf.fits ?_))
 show wpAny _ _ (if byScan (Value.int k tk) es=true then _ else _) _ _ s
 rw[byScan_of rfl room hel,if_pos rfl]
 unfold setAddByScan
 refine Nb (Nb (wpAny_rule (Nb (wpAny_setScan_of (knd:=intKind prog w) (k:=k) (intKind_is _ _ _ _) ho hd hf.fits hel ?_))))
 have fi:=iG (prog:=prog) (w:=w) (k:=k) hi.1
 cases hr:List.findIdx? (fun e=>(intKind prog w).is k e.2) es.toList with
 | some j =>
  rw[hr]at fi
  have hk:k∈ms:=fi.mp rfl
  refine Ng (Ng ?_)
  have:=fin false s.heap es ep ms (Heap.SameBut.refl a s.heap) hs hi (by rw[if_pos hk])
  exact this
 | none =>
  rw[hr]at fi
  have hk:¬ k∈ms:=fun z=>by have:=fi.mpr z;cases this
  have lay:∃ es' t' ,layNew t es (hashInt k) (Value.int k tk)=(es',t',false,false)∧I0 (!(D7 w)) es' t'∧es'.toList.Perm (es.toList++[(hashInt k,Value.int k tk)])∧t'.tooFull=false:=by
   rcases hf with⟨rfl,rfl⟩|⟨e,j,hj,rfl,rfl⟩|⟨e1,e2,i,k,_,rfl,rfl⟩
   ·obtain⟨i,i8,e⟩:=BK (!(D7 w)) (hashInt k) (Value.int k tk)
    exact⟨_,_,e,.inr (.inl ⟨_,i,i8,rfl,rfl⟩),.refl _,rfl⟩
   ·obtain⟨i,k',e1,e2,lt,he,q⟩:=BJ (!(D7 w)) j hj e (hashInt k) (Value.int k tk)
    refine⟨_,_,q,.inr (.inr ⟨e1,e2,i,k',lt,rfl,rfl⟩),?_,rfl⟩
    rcases he with⟨rfl,rfl⟩|⟨rfl,rfl⟩
    ·exact .refl _
    ·exact .swap _ _ _
   ·simp at h1
  obtain⟨es',t',el,f',p',tf⟩:=lay
  have hpl:=f'.plain
  have hsz:es'.size≤sizeLine:=Nr f'.size (by decide)
  dsimp only
  rw[el]
  dsimp only
  refine Nb (wpAny_of_eq (a:=()) rfl ?_)
  rw[if_pos hpl,hashByValue_scannable 8 rfl]
  refine Nb (Ng ?_)
  show wpAny _ _ (storeSet a es' t' >>= _) _ _ s
  refine Nb (wpAny_storeSet_of ho hd ?_ hsz)
  show wpAny _ _ (if (!false && t'.tooFull)=true then _ else _) _ _ _
  rw[tf,Pb,if_neg Nt]
  refine Ng (Ng ?_)
  have g:(s.heap.update a (Obj.putSet es' t')).get? a=some { o with data:=.set es' (ep+1) t' }:=by
   have:=Oi (Obj.putSet es' t') ho (by rw[putSet_of es' t' hd];rfl)
   rw[putSet_of es' t' hd]at this
   exact this
  have hp2:(ee es').Perm (ee es++[Value.int k tk]):=by
   have:=p'.map (·.2)
   rw[NF]at this
   exact this
  obtain⟨ms',m1,m2⟩:∃ ms',IntsAre (ee es') ms'∧ms'.Perm (ms++[k]):=iD hp2 (iC hi.1)
  refine fin true _ es' (ep+1) ms' (Heap.SameBut.update ..) ⟨_,t',g,hex,rfl,f'⟩ ⟨m1,fun e he=>?_⟩ (by rw[if_neg hk];exact m2)
  rcases NL.mp (p'.mem_iff.mp he)with z|z
  ·exact hi.2 e z
  ·rw[NS]at z
   exact⟨k,tk,z⟩
end
section
variable {prog:Program} {w:World} {A:Around} {E:Value→Shared→Prop} {s:Shared}
noncomputable def Q1(b:Bool):Obj:={ cls:=.type "set",dict:=none,data:=.set #[] 0 (A9 (!b) #[]) }
theorem BC(x:Value){Q:Value→Shared→Prop}(fin:Q (.ref s.heap.objs.size) { s with heap:=s.heap.push (Q1 (D7 w)) }) :
  codeAny (model prog w) A (.call (.builtin "set.__new__") ⟨[.type "set",x],[]⟩) (wants Q E) s:=by
 refine codeAny_of_tree ?_
 show wpAny _ A.in1 (checkBuiltinCall "set.__new__" ⟨[.type "set",x],[]⟩ >>= fun _=>again (.builtin "set.__new__" ⟨[.type "set",x],[]⟩)) _ _ s
 refine Nb (wpAny_of_eq (F.newCall_set_1 x) (Ng ⟨plainId_quiet F.plain_set_new _,?_⟩))
 refine codeAny_builtin F.entry_set_new ?_
 rw[Around.under_plainId F.plain_set_new _]
 have sub:=sub_set_self
 unfold Builtin.«set.__new__» Builtin.Frozenset.newClass
 obtain⟨hp,g,d,tk,os⟩:=s
 dsimp only
 wp_walk
 refine wpAny_askSetting (Ng ?_)
 dsimp only
 simp only[newObj]
 exact Nb (wpAny_alloc (Ng (Ng fin)))
variable {R:Result→Shared→Prop} {I:Addr} {fp wr:List Addr} {G:Array GenState→Array GenState→Prop} {n:Nat} {P:Nat→Value→Prop} {St:Nat→Shared→Prop}
def cu(w:World)(h:Heap)(S:Addr)(val:Nat→Int)(i:Nat):Prop:=∃ es ep ms,K0 (D7 w) h S es ep∧iP es ms∧ms.Perm (firstMet val i)
theorem cu.at{h h':Heap}{S:Addr}{val:Nat→Int}{i:Nat}(x:cu w h S val i)(e:∀ o,h.get? S=some o→h'.get? S=some o):cu w h' S val i:=let ⟨es,ep,ms,f,r⟩:=x;⟨es,ep,ms,f.at e,r⟩
theorem xp(V:WalksS prog w A.in1 I fp wr G n P St)(S:Addr)(out:S∉fp)(val:Nat→Int)(isv:∀ i v,P i v→∃ t,v = .int (val i) t)(h2:n≤2) :
  ∀(k i:Nat) (s:Shared),n - i=k→i≤n→St i s→cu w s.heap S val i→(∀ s',Moved (S :: wr) G s s'→cu w s'.heap S val n→R (.ok (.ret .none)) s') →
   codeAny (model prog w) A (.builtin "set.update.loop" ⟨[.ref S,.ref I],[]⟩) R s:=by
 have nw:S∉wr:=fun z=>out (V.sub _ z)
 have sub:∀ b∈wr,b∈S :: wr:=fun b z=>.tail _ z
 intro k
 induction k with
 | zero =>
  intro i s e1 e2 st fw r
  obtain rfl:i=n:=by omega
  refine codeAny_builtin PyProof.Rows.F.entry_set_update_loop ?_
  rw[Around.under_plainId PyProof.Rows.F.plain_set_update_loop _]
  show wpAny _ A.in1 (pyNext (.ref I) >>= _) _ _ s
  refine Nb (V.done s _ _ st fun s' mv=>?_)
  exact Ng (r s' (mv.mono sub) (fw.at fun o e=>mv.heap S _ nw e))
 | succ k ih =>
  intro i s e1 e2 st fw r
  have lt:i<n:=by omega
  refine codeAny_builtin PyProof.Rows.F.entry_set_update_loop ?_
  rw[Around.under_plainId PyProof.Rows.F.plain_set_update_loop _]
  show wpAny _ A.in1 (pyNext (.ref I) >>= _) _ _ s
  refine Nb (V.item i s _ _ lt st fun v s' pv st' mv=>?_)
  obtain⟨t,rfl⟩:=isv i v pv
  obtain⟨es,ep,ms,fw1,fw2,fw3⟩:cu w s'.heap S val i:=fw.at fun o e=>mv.heap S _ nw e
  show wpAny _ A.in1 (holding [Value.int (val i) t] (setAdd S (.int (val i) t)) >>= _) _ _ s'
  refine Nb (wpAny_holding ?_)
  unfold setAdd
  refine wpAny_holding (Nb ((intKind prog w).pyHash (k:=val i) (intKind_is _ _ _ _) ?_))
  have len:es.size=ms.length:=by
   have:=fw2.1.length
   unfold ee at this
   rw[Nm,Array.length_toList]at this
   exact this
  have few:es.size≤1:=by
   have a1:=firstMet_length_le val i
   have a2:=fw3.length_eq
   omega
  refine Cr (s:={ s' with toks:=s'.toks+1 }) fw1 fw2 few fun b h' es' ep' ms' sb g1 g2 g3=>?_
  have g4:ms'.Perm (firstMet val (i+1)):=by
   rw[firstMet_succ]
   unfold step_dedup
   refine g3.trans ?_
   by_cases c:val i∈ms
   ·have c2:(firstMet val i).any (· == val i)=true:=Qx.mpr ⟨val i,fw3.mem_iff.mp c,by simp⟩
    rw[if_pos c,if_pos c2]
    exact fw3
   ·have c2:¬ (firstMet val i).any (· == val i)=true:=fun z=>by
     obtain⟨y,y1,y2⟩:=Qx.mp z
     rw[beq_iff_eq]at y2
     subst y2
     exact c (fw3.mem_iff.mpr y1)
    rw[if_neg c,if_neg c2]
    exact fw3.append_right _
  refine Ng ⟨plainId_quiet PyProof.Rows.F.plain_set_update_loop _,ih (i+1) _ (by omega) lt (V.frame _ s' _ _ st' (Pe _) fun b hb o e=>?_) ⟨es',ep',ms',g1,g2,g4⟩ fun s2 mv2 f2=>?_⟩
  ·rw[sb.2 b fun z=>out (by rw[← z];exact hb)]
   exact e
  ·refine r s2 (Moved.trans V.gtrans ((mv.mono sub).then_heap (Pe _) fun b o hb e=>?_) mv2) f2
   rw[sb.2 b fun z=>hb (by rw[z];exact Nk)]
   exact e
set_option maxHeartbeats 3200000 in
theorem kX{l:Addr}{items:Array Value}{ns:List Int}{Q:Value→Shared→Prop}(hh:A.handled=none)(hl:s.heap.IsList l items)(hi:IntsAre items.toList ns)(h2:items.size≤2)
  (fin:∀ h' tk,cu w h' s.heap.objs.size (fun i=>ns.getD i 0) items.size→(∀ b o,s.heap.get? b=some o→h'.get? b=some o)→Q (.ref s.heap.objs.size) { s with heap:=h',toks:=tk }) :
  wpAny (model prog w) A (call (.type "set") [.ref l]) Q E s:=by
 obtain⟨c,tl,hmro⟩:=F.called_set.mro
 have hmade:=F.called_set.made
 have hsub:=F.called_set.sub
 refine wpAny_call (codeAny_of_tree ?_)
 show wpAny _ _ (callAny (.type "set") _) _ _ _
 refine Ng ⟨Code.quiet_builtin _ (by decide +kernel),codeAny_builtin F.entry_type_call ?_⟩
 rw[Around.under_plain (weight_type_call_type "set" [.ref l] []) rfl]
 have h1:=F.called_set.notType
 have h2':=F.called_set.canCreate
 have hct:=F.typeCall_set_1 (.ref l)
 repeat(any_goals (first|assumption|wp_step))
 refine codeAny_mono (BC (.ref l) (E:=E) (Q:=fun v z=>v = .ref s.heap.objs.size∧z = { s with heap:=s.heap.push (Q1 (D7 w)) }) ⟨rfl,rfl⟩) fun r z hr=>?_
 cases r with
 | error e=>exact hr
 | ok fl =>
 cases fl with
 | ret obj =>
  obtain⟨rfl,rfl⟩:=hr
  have gS:(s.heap.push (Q1 (D7 w))).get? s.heap.objs.size=some (Q1 (D7 w)):=Ni _ rfl
  have hT:Shared.TypeIs { s with heap:=s.heap.push (Q1 (D7 w)) } (.ref s.heap.objs.size) "set" := ⟨_,gS,rfl⟩
  have up:∀ b o,s.heap.get? b=some o→(s.heap.push (Q1 (D7 w))).get? b=some o:=fun b o e=>Nc _ e
  have sz:(s.heap.push (Q1 (D7 w))).objs.size=s.heap.objs.size+1:=size_push' _ _
  have hli:=F.called_set.init.lookup
  have hbi:=F.called_set.init.bind (.ref s.heap.objs.size)
  repeat(any_goals (first|assumption|wp_step))
  refine codeAny_mono (codeAny_call_builtin (R:=wants (fun r z=>r = .none∧∃ h' tk,z = { s with heap:=h',toks:=tk }∧cu w h' s.heap.objs.size (fun i=>ns.getD i 0) items.size∧∀ b o,s.heap.get? b=some o→h'.get? b=some o) E)
   F.called_set.init.plain F.entry_set_init (check_set_init_1 hT ?_)) fun r z hr=>?_
  ·have ltl:l<s.heap.objs.size:=let ⟨o,e,_⟩:=hl;Nn e
   have hl1:(s.heap.push (Q1 (D7 w))).IsList l items:=hl.at fun o e=>up l o e
   obtain⟨ol,hol,hcl,nl,hdl⟩:=id hl1
   have hTl:Shared.TypeIs { s with heap:=s.heap.push (Q1 (D7 w)) } (.ref l) "list" := ⟨_,hol,hcl⟩
   have y1:=F.sub_list_set
   have y2:=F.sub_list_frozenset
   have y3:(Value.type "list" == Value.type "dict")=false:=by decide
   obtain⟨ocls,odict,odata,oslots⟩:=ol
   dsimp only at hcl hdl
   subst hcl
   subst hdl
   unfold Builtin.«set.__init__» noKeywords Builtin.Frozenset.updateFrom
   generalize hPI:pyIter=PI
   wp_walk
   subst hPI
   refine wpAny_pyIter_list hl1 (Nb (wpAny_runValue ?_))
   have h3:A.in1.in1.in1.handled=none:=by simp[hh]
   refine xp ((Walks.list h3 _ l (by rw[sz];exact NC (Qn ltl)) items).toS) s.heap.objs.size ?out (fun i=>ns.getD i 0) (fun i v hv=>hi.int_at i v (by rw[Array.getElem?_toList];exact hv)) h2 (items.size - 0) 0 _ (by omega) (Oa _)
    ⟨⟨_,Ni _ rfl,rfl,rfl⟩,hl1.push _⟩ ?start ?fin
   case out =>
    rw[sz]
    simp only[Nh,Nv,or_false,not_or]
    exact⟨NC (Qu _),NW ltl⟩
   case start=>exact⟨#[],0,[],⟨_,_,Nc _ gS,⟨rfl,rfl,rfl⟩,rfl,.inl ⟨rfl,rfl⟩⟩,⟨.nil,fun e he=>by simp at he⟩,.refl _⟩
   case fin =>
    intro s' mv fw
    obtain⟨h',g',d',tk',os'⟩:=s'
    have eg:g'=s.gens:=mv.gens
    have ed:d'=s.drawn:=mv.drawn
    have eo:os'=s.os:=mv.os
    subst eg;subst ed;subst eo
    show wpAny _ _ _ _ _ _
    refine Ng ?_
    show wpAny _ _ (ret Value.none) _ _ _
    refine Ng ⟨rfl,h',tk',rfl,fw,fun b o e=>?_⟩
    have lb:=Nn e
    refine mv.heap b o ?_ (Nc _ (up b o e))
    rw[sz]
    simp only[Nh,Nv,or_false,not_or]
    exact⟨NC lb,NC (Qn lb)⟩
  ·cases r with
   | error e=>exact hr
   | ok fl2 =>
   cases fl2 with
   | ret r =>
    obtain⟨rfl,h',tk,rfl,f1,f2⟩:=hr
    repeat(any_goals (first|assumption|wp_step))
    exact fin _ _ f1 f2
   | _=>exact hr.elim
 | _=>exact hr.elim
end
noncomputable def sd2:List Int→List Int
 | [a,b]=>if a=b then[a]else if a<b then[a,b]else[b,a]
 | ns=>ns
theorem EL{ns ms ks:List Int}(h2:ns.length≤2)(p:ms.Perm (firstMet (fun i=>ns.getD i 0) ns.length))(q:ks.Perm ms)(r:ks.Pairwise (· ≤ ·)):ks=sd2 ns:=by
 have p:=q.trans p
 match ns,h2 with
 | [],_=>exact p.eq_nil
 | [a],_ =>
  have:ks.Perm [a]:=p
  exact QX.mp this
 | [a,b],_ =>
  have e:firstMet (fun i=>([a,b]:List Int).getD i 0) ([a,b]:List Int).length=if a=b then[a]else[a,b]:=by
   show step_dedup (step_dedup [] a) b=_
   show(if ([a]:List Int).any (· == b)=true then[a]else[a]++[b])=_
   by_cases c:a=b
   ·rw[if_pos c,if_pos (by simp[c])]
   ·rw[if_neg c,if_neg (by simpa using c)];rfl
  rw[e]at p
  show ks=if a=b then[a]else if a<b then[a,b]else[b,a]
  by_cases c:a=b
  ·rw[if_pos c]at p ⊢
   exact QX.mp p
  ·rw[if_neg c]at p ⊢
   have l:=p.length_eq
   match ks,l with
   | [x,y],_ =>
    have m1:x∈[a,b]:=p.mem_iff.mp (by simp)
    have m2:y∈[a,b]:=p.mem_iff.mp (by simp)
    have m3:a∈[x,y]:=p.mem_iff.mpr (by simp)
    have m4:b∈[x,y]:=p.mem_iff.mpr (by simp)
    have le:x≤y:=by
     have:=List.pairwise_cons.mp r
     exact this.1 y (by simp)
    simp only[Nh,Nv,or_false]at m1 m2 m3 m4
    by_cases d:a<b
    ·rw[if_pos d]
     have:x=a:=by omega
     have:y=b:=by omega
     subst x;subst y;rfl
    ·rw[if_neg d]
     have:x=b:=by omega
     have:y=a:=by omega
     subst x;subst y;rfl
section
variable {prog:Program} {w:World} {A:Around} {E:Value→Shared→Prop} {s:Shared}
theorem mK{a:Addr}{es:Array (Int × Value)}{ep:Nat}{ms:List Int}{Q:Value→Shared→Prop}(hh:A.handled=none)(hs:K0 (D7 w) s.heap a es ep)(hi:iP es ms)
  (fin:∀ h' tk p out c ks,(∀ b o,s.heap.get? b=some o→h'.get? b=some o)→s.heap.get? p=none→h'.get? p=some (seqObj "list" out c)→IntsAre out.toList ks→ks.Perm ms→ks.Pairwise (· ≤ ·)→Q (.ref p) { s with heap:=h',toks:=tk }) :
  wpAny (model prog w) A (call (.builtin "sorted") [.ref a]) Q E s:=by
 obtain⟨o1,t1,_,_,_,hf⟩:=id hs
 refine Calls.call_function_entry kind_sorted plain_sorted entry_sorted (args_sorted1 _) ?_
 unfold Builtin.«sorted»
 refine Nb (m:=checkCount "sorted" 1 1 _) (Ng (Nb (ow (A:=A.in1) hh hs fun h1 tk vs k1 p1=>?_)))
 obtain⟨ns,i1,i2⟩:=iD p1 hi.1
 have len:vs.length≤2:=by
  rw[p1.length_eq,Nm,Array.length_toList]
  exact hf.size
 refine Nb (wpAny_newList ?_ (Nr len (by decide)))
 have at1:(h1.push (seqObj "list" vs.toArray 0)).get? h1.objs.size=some (seqObj "list" vs.toArray 0):=Ni _ rfl
 have up:∀ b o,s.heap.get? b=some o→b≠h1.objs.size∧(h1.push (seqObj "list" vs.toArray 0)).get? b=some o:=fun b o e=>⟨NC (Nn (k1 b o e)),Nc _ (k1 b o e)⟩
 show wpAny _ _ _ _ _ { s with heap:=h1.push (seqObj "list" vs.toArray 0),toks:=tk }
 generalize hp:h1.objs.size=p at *
 generalize h1.push (seqObj "list" vs.toArray 0)=h2 at *
 refine Nb (wpAny_holding (wpAny_call_entry (s:={ s with heap:=h2,toks:=tk }) slot_list_sort ⟨_,at1,rfl⟩ entry_list_sort (list_sort_tree (s:={ s with heap:=h2,toks:=tk }) at1 i1 (by omega) fun out ks a1 a2 a3=>⟨_,rfl,?_⟩) (args_list_sort _)))
 refine Ng ⟨_,rfl,?_⟩
 obtain⟨e0,b0⟩:∃ n,(h2.update p (Obj.mapSeq fun _=>#[])).get? p=some (seqObj "list" #[] n):=⟨_,get?_update_seq at1 _⟩
 refine fin (sortedHeap h2 p vs out) tk p out _ ks (fun b o e=>?_) ?_ (get?_update_seq (Nc _ (Nc _ b0)) _) a1 (a2.trans i2) a3
 ·obtain⟨nb,eb⟩:=up b o e
  unfold sortedHeap
  rw[OP _ _ _ _ nb]
  refine Nc _ (Nc _ ?_)
  rw[OP _ _ _ _ nb]
  exact eb
 ·cases e:s.heap.get? p with
  | none=>rfl
  | some o=>exact absurd rfl (up p o e).1
end
theorem iB:∀{vs:List Value} {ns:List Int},j6 (ns.map V.int) vs→IntsAre vs ns
 | [],[],_=>.nil
 | _ :: _,[],h=>by cases h
 | [],_ :: _,h=>by cases h
 | _ :: _,n :: ns,h=>by
  cases h with
  | cons r t =>
   obtain⟨tk,rfl⟩:=r
   exact .cons n tk (iB t)
def tSs(K:Nd)(ta:TA):TE:=fun σ H Q=>ta σ H fun vs H1=>∃ l ns,vs=[.ref l]∧SqL K H1 l (ns.map V.int)∧ns.length≤2∧∀ p,H1 p=none→Q (.ref p) (upd H1 p (.lst ((sd2 ns).map V.int)))
theorem AA{ns:List Int}(h:ns.length≤2):(sd2 ns).length≤2:=by
 match ns,h with
 | [],_=>decide
 | [a],_=>exact Pe 1
 | [a,b],_ =>
  show(if a=b then[a]else if a<b then[a,b]else[b,a]).length≤2
  by_cases c:a=b
  ·rw[if_pos c];exact Pe 1
  ·rw[if_neg c]
   by_cases d:a<b
   ·rw[if_pos d];exact Ny 2
   ·rw[if_neg d];exact Ny 2
theorem pO{X:Cx}{a:Expr}{ta:TA}{p1 p2 pos1 pos2:Pos}(hc:X.calm=true)(g1:Gl X "sorted")(n1:X.mg "sorted" = none)(v1:bootBuiltins "sorted" = some (.builtin "sorted"))(g2:Gl X "set")(n2:X.mg "set" = none)(v2:bootBuiltins "set" = some (.type "set"))(ha:PA X [a] ta)
  (hs:starEach [a] X.env=[(false,eval a X.env)]:=by rfl) (hs3:starEach [.Call (.Name "set" p2) [a] [] pos2] X.env=[(false,eval (.Call (.Name "set" p2) [a] [] pos2) X.env)]:=by rfl) :
  PE X (.Call (.Name "sorted" p1) [.Call (.Name "set" p2) [a] [] pos2] [] pos1) (tSs X.K ta):=by
 intro pins s σ H Q I h
 refine wpAny_Call_Name_kw (O3 I g1 n1 v1 ?_ (by decide) (by decide))
 refine PyProof.Rows.callWith_builtin1 ?_ (by rw[hs3];rfl) (by rfl)
 rw[hs3]
 show wpAny _ _ (spliced ((false,eval (.Call (.Name "set" p2) [a] [] pos2) X.env) :: backTo pos1 (starEach [] X.env))) _ _ s
 refine Calls.spliced_cons ?_
 refine wpAny_Call_Name_kw (O3 I g2 n2 v2 (PyProof.Rows.callWith_type1 (thn (ha pos2 pins s σ H _ I h) fun us s1 ⟨vs,H1,I1,r1,q1⟩=>?_) (by rw[hs];rfl) (by rfl)) (by decide) (by decide))
 obtain⟨l,ns,rfl,hl,h2,q⟩:=q1
 obtain⟨u,rfl,ru⟩:=j6.one r1
 obtain rfl:u=Value.ref l:=ru
 obtain⟨its,rl,⟨ol,nl,hl1,hl2,_,hl3⟩,hz⟩:=I1.list hl
 have ii:=iB rl
 have il:=ii.length
 refine kX (items:=its.toArray) (ns:=ns) (I1.ok.hd hc) ⟨ol,hl1,hl2,nl,hl3⟩ (by simpa using ii) (by rw[NA];omega) fun h1 tk fw k1=>?_
 rw[show its.toArray.size=ns.length from NA.trans il]at fw
 obtain⟨es,ep,ms,f1,f2,f3⟩:=fw
 refine Calls.spliced_nil ?_
 refine mK (s:={ s1 with heap:=h1,toks:=tk }) (I1.ok.hd hc) f1 f2 fun h' tk' p out c ks kk hn hp o1 o2 o3=>?_
 have k2:∀ b o,s1.heap.get? b=some o→h'.get? b=some o:=fun b o e=>kk b o (k1 b o e)
 have pn:s1.heap.get? p=none:=by
  cases e:s1.heap.get? p with
  | none=>rfl
  | some o =>
   have:=k1 p o e
   have hn':h1.get? p=none:=hn
   rw[hn']at this
   cases this
 obtain rfl:=EL h2 f3 o2 o3
 obtain⟨m,F⟩:=I1.fr
 have nL:p≠X.env.locals:=fun z=>by
  obtain⟨o2,es,ep,e3,_⟩:=F.ns
  rw[z,e3]at pn
  cases pn
 have I2:Inv X pins σ (upd H1 p (.lst ((sd2 ns).map V.int))) { s1 with heap:=h',toks:=tk' }:=I1.laidL (fun b o _ e=>k2 b o e) (fun m hm=>hm.at' fun o e=>k2 _ o e) pn nL (fun _ z=>nomatch z) ⟨by rw[Nm];exact Nr (AA h2) (by decide),out.toList,c,bB o1,by rw[Array.toArray_toList];exact hp⟩
 refine⟨.ref p,_,I2,rfl,q p ?_⟩
 cases e:H1 p with
 | none=>rfl
 | some u =>
  obtain⟨x,hx⟩:=eT (I1.hok p u e)
  rw[pn]at hx
  cases hx
end L2
namespace DL
open PySem PySem.Spec L2
open PyProof.Rows hiding St
theorem nZ{K:Nd}{H:Hp}:∀{ns:List Int} {xs:List V},HasL K H xs (ns.map D.int)→xs=ns.map V.int
 | [],_,h=>by cases h;rfl
 | n :: ns,_,h=>by
  cases h with
  | cons a t =>
   cases a
   rw[nZ t]
   rfl
theorem nY{K:Nd}{H:Hp}:∀(ns:List Int),HasL K H (ns.map V.int) (ns.map D.int)
 | []=>.nil
 | n :: ns=>.cons (.int n) (nY ns)
def gSs(ds:List D)(M:Mem)(R:DK):Prop:=∃ x ns,ds=[x]∧D8 M x=some (ns.map D.int)∧ns.length≤2∧R (.vl ((sd2 ns).map D.int)) M
def ym(ta:DTA):DTE:=fun e M R=>ta e M fun ds M1=>gSs ds M1 R
theorem rh{ta:DTA}{e:Ev}{M:Mem}{R:DK}:ym ta e M R=ta e M fun ds M1=>gSs ds M1 R:=rfl
theorem pX{X:Cx}{a:Expr}{ta:DTA}{p1 p2 pos1 pos2:Pos}(hc:X.calm=true)(g1:Gl X "sorted")(n1:X.mg "sorted" = none)(v1:bootBuiltins "sorted" = some (.builtin "sorted"))(g2:Gl X "set")(n2:X.mg "set" = none)(v2:bootBuiltins "set" = some (.type "set"))(h:JA X [a] ta)
  (hs:starEach [a] X.env=[(false,eval a X.env)]:=by rfl) (hs3:starEach [.Call (.Name "set" p2) [a] [] pos2] X.env=[(false,eval (.Call (.Name "set" p2) [a] [] pos2) X.env)]:=by rfl) :
  JE X (.Call (.Name "sorted" p1) [.Call (.Name "set" p2) [a] [] pos2] [] pos1) (ym ta):=⟨have h:=h.out;(bI (pO hc g1 n1 v1 g2 n2 v2 h hs hs3)).imp fun σ H Q ⟨e,M,R,ok,am,t,f⟩=>⟨e,M,_,ok,am,t,fun ds M1 ⟨x,ns,hd,hi,h2,r⟩ vs H1 k1 a1 r1=>by
  subst hd
  obtain⟨v,rfl,hv⟩:=r1.one
  obtain⟨l,us,rfl,sq,lx⟩:=u9 a1 hv hi
  obtain rfl:=nZ lx
  exact⟨l,ns,rfl,sq,h2,fun p hp=>bh f k1 a1 (nY (sd2 ns)) r p hp⟩⟩⟩
theorem Gs:bootBuiltins "set" = some (.type "set"):=by decide +kernel
end DL
namespace GM
open PySem PySem.Spec L2 DL
open RM (sz)
noncomputable abbrev Zr:=Rat × Rat
theorem mp{a b:Rat}(h1:0<a)(h2:0<b):0<a*b:=OY h1 h2
theorem jW{v x:Rat}(hv:0<v)(h:0<v*x):0<x:=by
 rcases tot x 0 with z|z
 ·have:0≤v*(-x):=NH (R9 hv) (by grind)
  grind
 ·by_cases e:x=0
  ·rw[e]at h;grind
  ·grind
structure Cn2(ss:List T3)(x:Zr):Prop where
 sup:Sup ss x
 two:∃ s t,s∈ss∧t∈ss∧ve s t≠0∧dt s x=s.2.2∧dt t x=t.2.2
theorem Cn2.ng{ss:List T3}(sy:∀ s∈ss,ng s∈ss){x:Zr}(h:Cn2 ss x):Cn2 ss (ngZ x):=by
 obtain⟨hs,s,t,ms,mt,hv,es,et⟩:=h
 refine⟨iX sy hs,GM.ng s,GM.ng t,sy s ms,sy t mt,?_,?_,?_⟩
 ·have:ve (GM.ng s) (GM.ng t)=ve s t:=by unfold ve GM.ng;grind
  rw[this];exact hv
 ·have:dt (GM.ng s) (ngZ x)=dt s x:=by unfold dt GM.ng ngZ;grind
  rw[this,es];rfl
 ·have:dt (GM.ng t) (ngZ x)=dt t x:=by unfold dt GM.ng ngZ;grind
  rw[this,et];rfl
section
variable {ss:List T3} {A:Nat→T3} {k:Nat}
end
section
variable {ss:List T3} {A:Nat→T3} {k:Nat}
end
noncomputable def kp(s:Sd):Rat:=(s.1:Rat) / (s.2.2.1:Rat)
noncomputable def kq(s:Sd):Rat:=(s.2.1:Rat) / (s.2.2.1:Rat)
def Lx(t f:Sd):Prop:=kp t<kp f∨(kp t=kp f∧kq t≤kq f)
theorem Lx.trans{a b c:Sd}(h:Lx a b)(g:Lx b c):Lx a c:=by unfold Lx at *;grind
theorem vP{a b x y:Int}(hx:0<x)(hy:0<y):((a*y - b*x:Int):Rat)=((a:Rat) / (x:Rat) - (b:Rat) / (y:Rat))*((x:Rat)*(y:Rat)):=by
 have h1:(0:Rat)<(x:Rat):=A4.mpr hx
 have h2:(0:Rat)<(y:Rat):=A4.mpr hy
 rw[ON,Nx,Nx]
 grind
theorem sgn{a b x y:Int}(hx:0<x)(hy:0<y):(0<a*y - b*x↔(b:Rat) / (y:Rat)<(a:Rat) / (x:Rat))∧(a*y - b*x=0↔(b:Rat) / (y:Rat)=(a:Rat) / (x:Rat)):=by
 have e:=vP (a:=a) (b:=b) hx hy
 have p:(0:Rat)<(x:Rat)*(y:Rat):=OY (A4.mpr hx) (A4.mpr hy)
 generalize a*y - b*x=n at *
 generalize (a:Rat) / (x:Rat)=u at *
 generalize (b:Rat) / (y:Rat)=v at *
 generalize (x:Rat)*(y:Rat)=c at *
 constructor
 ·rw[← A4,e]
  constructor
  ·intro h
   have:=jW p (x:=u - v) (by grind)
   grind
  ·intro h
   have:=OY p (show 0<u - v by grind)
   grind
 ·constructor
  ·intro h
   rw[h]at e
   have e:(0:Rat)=(u - v)*c:=e
   grind
  ·intro h
   rw[h]at e
   have e:(n:Rat)=0:=by rw[e];grind
   exact_mod_cast e
theorem BM{s f:Sd}(hs:0<s.2.2.1)(hf:0<f.2.2.1):(F6 s f=true→Lx f s)∧(¬ F6 s f=true→Lx s f):=by
 obtain⟨a1,a2⟩:=sgn (a:=s.1) (b:=f.1) hs hf
 obtain⟨b1,b2⟩:=sgn (a:=s.2.1) (b:=f.2.1) hs hf
 have k1:kp s=(s.1:Rat) / (s.2.2.1:Rat):=rfl
 have k2:kp f=(f.1:Rat) / (f.2.2.1:Rat):=rfl
 have k3:kq s=(s.2.1:Rat) / (s.2.2.1:Rat):=rfl
 have k4:kq f=(f.2.1:Rat) / (f.2.2.1:Rat):=rfl
 rw[← k1,← k2]at a1 a2
 rw[← k3,← k4]at b1 b2
 unfold F6 Lx
 by_cases c:s.1*f.2.2.1 - f.1*s.2.2.1=0
 ·rw[if_pos c,decide_eq_true_eq]
  have:=a2.mp c
  constructor
  ·intro h;have:=b1.mp h;grind
  ·intro h;rw[b1]at h;grind
 ·rw[if_neg c,decide_eq_true_eq]
  rw[a2]at c
  constructor
  ·intro h;have:=a1.mp h;grind
  ·intro h;rw[a1]at h;grind
theorem kc:∀(ss:List Sd) (f t:Sd),(∀ s∈ss,0<s.2.2.1)→0<f.2.2.1→(t∈ss∨Lx t f)→Lx t (D4 ss f)
 | [],f,t,_,_,h=>by
  rcases h with h|h
  ·cases h
  ·exact h
 | s :: r,f,t,hp,hf,h=>by
  have hs:=hp s Nk
  obtain⟨j1,j2⟩:=BM hs hf
  have e:D4 (s :: r) f=D4 r (if F6 s f=true then s else f):=rfl
  rw[e]
  by_cases c:F6 s f=true
  ·rw[if_pos c]
   refine kc r s t (fun x hx=>hp x (Nj _ hx)) hs ?_
   rcases h with h|h
   ·rcases Nh.mp h with rfl|h
    ·exact .inr (.inr ⟨rfl,PV⟩)
    ·exact .inl h
   ·exact .inr (h.trans (j1 c))
  ·rw[if_neg c]
   refine kc r f t (fun x hx=>hp x (Nj _ hx)) hf ?_
   rcases h with h|h
   ·rcases Nh.mp h with rfl|h
    ·exact .inr (j2 c)
    ·exact .inl h
   ·exact .inr h
theorem eps:∀(xs:List (Rat × Rat)),(∀ x∈xs,0≤x.1∧(x.1=0→x.2=0))→∃ e:Rat,0<e∧∀ x∈xs,e*x.2≤x.1∧-(e*x.2)≤x.1
 | [],_=>⟨1,by decide,fun _ h=>nomatch h⟩
 | x :: xs,h=>by
  obtain⟨e,he,hx⟩:=eps xs fun y hy=>h y (Nj _ hy)
  obtain⟨h1,h2⟩:=h x Nk
  by_cases c:x.2=0
  ·refine⟨e,he,fun y hy=>?_⟩
   rcases Nh.mp hy with rfl|hy
   ·rw[c];grind
   ·exact hx y hy
  ·have hp:0<x.1:=by
    by_cases z:x.1=0
    ·exact absurd (h2 z) c
    ·grind
   let m:Rat:=if 0<x.2 then x.2 else -x.2
   have hm:0<m:=by show 0<(if 0<x.2 then x.2 else -x.2);split<;>grind
   have hd:0<x.1 / m:=by
    have e1:x.1 / m*m=x.1:=NZ (D2 hm)
    exact jW hm (by rw[Pz,e1];exact hp)
   have e1:x.1 / m*m=x.1:=NZ (D2 hm)
   have mle:x.2≤m∧-x.2≤m:=by
    show x.2≤(if 0<x.2 then x.2 else -x.2)∧-x.2≤(if 0<x.2 then x.2 else -x.2)
    split<;>constructor<;>grind
   generalize m=w at *
   have small:∀ f:Rat,0<f→f≤x.1 / w→f*x.2≤x.1∧-(f*x.2)≤x.1:=fun f f0 f1=>by
    have a1:0≤f*(w - x.2):=NH (R9 f0) (by grind)
    have a2:0≤f*(w+x.2):=NH (R9 f0) (by grind)
    have a3:0≤(x.1 / w - f)*w:=NH (by grind) (R9 hm)
    constructor<;>grind
   have scale:∀ f:Rat,0<f→f≤e→∀ y∈xs,f*y.2≤y.1∧-(f*y.2)≤y.1:=fun f f0 f1 y hy=>by
    obtain⟨b1,b2⟩:=hx y hy
    have y0:=(h y (Nj _ hy)).1
    rcases tot 0 y.2 with c|c
    ·have a1:0≤(e - f)*y.2:=NH (by grind) c
     have a2:0≤f*y.2:=NH (R9 f0) c
     constructor<;>grind
    ·have a1:0≤(e - f) * -y.2:=NH (by grind) (by grind)
     have a2:0≤f * -y.2:=NH (R9 f0) (by grind)
     constructor<;>grind
   rcases tot e (x.1 / w)with c2|c2
   ·refine⟨e,he,fun y hy=>?_⟩
    rcases Nh.mp hy with rfl|hy
    ·exact small e he c2
    ·exact hx y hy
   ·refine⟨x.1 / w,hd,fun y hy=>?_⟩
    rcases Nh.mp hy with rfl|hy
    ·exact small _ hd PV
    ·exact scale _ hd c2 y hy
theorem vS{ls:List T3}(hok:∀ l∈ls,LineOk l):∀ s∈(f7 ls).map tri,¬ (s.1=0∧s.2.1=0):=fun s hs ⟨z1,z2⟩=>by
 obtain⟨t,ht,rfl⟩:=Nu.mp hs
 obtain⟨c,hc,k,ec⟩:=F3 ht
 have cp:=F8 c
 have:(tri (h9 c k)).1=0∧(tri (h9 c k)).2.1=0:=by
  rcases ec with rfl|rfl
  ·exact⟨z1,z2⟩
  ·rw[D3]at z1 z2
   unfold ng at z1 z2
   exact⟨by grind,by grind⟩
 rw[C8]at this
 have t1:c.1*(cbL c:Rat)=0:=this.1
 have t2:c.2.1*(cbL c:Rat)=0:=this.2
 exact(hok c hc).ne ⟨by grind,by grind⟩
noncomputable def cb2(p q:Rat):Nat:=B0 (B0 1 p.den) q.den
theorem qj(p q:Rat):cb2 p q=RT p.den q.den:=by
 unfold cb2;rw[S0,S0,Nat.lcm_comm 1,Nat.lcm_one_right]
theorem br(p q:Rat):0<cb2 p q:=by rw[qj];exact Qr p.den_pos q.den_pos
theorem Jb(p q:Rat):p.den ∣ cb2 p q:=by rw[qj];exact PD _ _
theorem Ja(p q:Rat):q.den ∣ cb2 p q:=by rw[qj];exact Qm _ _
noncomputable def wtF(p q:Rat):Int × Int:=(P9 p (cb2 p q),P9 q (cb2 p q))
noncomputable def veW(a:Sd)(w:Int × Int):Int:=a.1*w.2 - a.2.1*w.1
noncomputable def wVe(w:Int × Int)(b:Sd):Int:=w.1*b.2.1 - w.2*b.1
noncomputable def cA(half:List Sd):List Sd:=half++half.map j4
noncomputable def cI(xs:List Sd):List (Sd × Sd):=xs.zip (xs.drop 1++xs.take 1)
noncomputable def bw(w:Int × Int)(f:Option (Sd × Sd))(ab:Sd × Sd):Option (Sd × Sd):=if 0≤veW ab.1 w∧0<wVe w ab.2 then some ab else f
noncomputable def cJ(half:List Sd)(w:Int × Int):Option (Sd × Sd):=(cI (cA half)).foldl (bw w) none
theorem oH{w:Int × Int}:∀(l:List (Sd × Sd)) (f:Option (Sd × Sd)),(∀ ab,l.foldl (bw w) f=some ab→f=some ab∨(ab∈l∧0≤veW ab.1 w∧0<wVe w ab.2))∧((f≠none ∨ ∃ ab∈l,0≤veW ab.1 w∧0<wVe w ab.2)→l.foldl (bw w) f≠none)
 | [],f=>⟨fun ab h=>.inl h,fun h=>by
  rcases h with h|⟨ab,h,_⟩
  ·exact h
  ·cases h⟩
 | x :: l,f=>by
  obtain⟨i1,i2⟩:=oH (w:=w) l (bw w f x)
  rw[PZ]
  refine⟨fun ab h=>?_,fun h=>i2 ?_⟩
  ·rcases i1 ab h with e|⟨m,c⟩
   ·unfold bw at e
    split at e
    ·rename_i c;cases e;exact .inr ⟨Nk,c⟩
    ·exact .inl e
   ·exact .inr ⟨Nj _ m,c⟩
  ·by_cases c:0≤veW x.1 w∧0<wVe w x.2
   ·left;unfold bw;rw[if_pos c];exact fun z=>nomatch z
   ·rcases h with h|⟨ab,hm,hc⟩
    ·left;unfold bw;rw[if_neg c];exact h
    ·rcases Nh.mp hm with rfl|hm
     ·exact absurd hc c
     ·exact .inr ⟨ab,hm,hc⟩
theorem sW(l m:List Sd):(l.map j4).zip (m.map j4)=(l.zip m).map fun ab=>(j4 ab.1,j4 ab.2):=K7 j4 l m
theorem sQ(h0:Sd)(l:List Sd):cI (cA (h0 :: l))=(h0 :: l).zip (l++[j4 h0])++((h0 :: l).zip (l++[j4 h0])).map fun ab=>(j4 ab.1,j4 ab.2):=by
 unfold cI cA
 have e1:(h0 :: l++(h0 :: l).map j4).drop 1++(h0 :: l++(h0 :: l).map j4).take 1=(l++[j4 h0])++(l++[j4 h0]).map j4:=by
  show(l++(j4 h0 :: l.map j4))++[h0]=_
  rw[NF,NO,OU,sH]
  simp
 rw[e1,List.zip_append (by rw[NV,NX];rfl),sW]
theorem Rim.arnd{ss:List T3}{h0:T3}{l:List T3}(R:Rim ss h0 l)(w:T3)(hw:¬ (w.1=0∧w.2.1=0)) :
  ∃ ab∈fh h0 l,(0≤ve ab.1 w∧0<ve w ab.2)∨(0≤ve (ng ab.1) w∧0<ve w (ng ab.2)):=by
 have e0:ve w (ng h0)=ve h0 w:=by unfold ve ng;grind
 have e1:ve (ng h0) w = -ve h0 w:=by unfold ve ng;grind
 by_cases c1:0<ve h0 w
 ·obtain⟨ab,hm,k1,k2⟩:=oP h0 l (ng h0) (R9 c1) (by rw[e0];exact c1)
  exact⟨ab,hm,.inl ⟨k1,k2⟩⟩
 by_cases c2:ve h0 w<0
 ·have e2:ve w h0 = -ve h0 w:=by unfold ve;grind
  obtain⟨ab,hm,k1,k2⟩:=oP (w:=w) (ng h0) (l.map ng) h0 (by rw[e1];grind) (by rw[e2];grind)
  have em:ab∈((h0 :: l).map ng).zip ((l++[ng h0]).map ng):=by
   rw[NF,NO,NO,OU,DD];exact hm
  rw[K7]at em
  obtain⟨cd,hcd,rfl⟩:=Nu.mp em
  exact⟨cd,hcd,.inr ⟨k1,k2⟩⟩
 ·have c0:ve h0 w=0:=by grind
  cases l with
  | nil=>exact absurd rfl R.ne
  | cons x l =>
   have hm:(h0,x)∈fh h0 (x :: l):=Nk
   obtain⟨q1,q2,q3,q4⟩:=R.all _ hm
   have q3:0<ve h0 x:=q3
   by_cases k:0<ve w x
   ·exact⟨_,hm,.inl ⟨by show 0≤ve h0 w;rw[c0];exact PV,k⟩⟩
   ·refine⟨_,hm,.inr ⟨by show 0≤ve (ng h0) w;rw[e1,c0];exact PV,?_⟩⟩
    show 0<ve w (ng x)
    have ex:ve w (ng x) = -ve w x:=by unfold ve ng;grind
    rw[ex]
    have hne:ve w x≠0:=fun z=>hw (by
     unfold ve at c0 z q3
     have i1:w.1*(h0.1*x.2.1 - h0.2.1*x.1)=0:=by
      have:w.1*(h0.1*x.2.1 - h0.2.1*x.1)=h0.1*(w.1*x.2.1 - w.2.1*x.1)+x.1*(h0.1*w.2.1 - h0.2.1*w.1):=by grind
      rw[this,z,c0];grind
     have i2:w.2.1*(h0.1*x.2.1 - h0.2.1*x.1)=0:=by
      have:w.2.1*(h0.1*x.2.1 - h0.2.1*x.1)=h0.2.1*(w.1*x.2.1 - w.2.1*x.1)+x.2.1*(h0.1*w.2.1 - h0.2.1*w.1):=by grind
      rw[this,z,c0];grind
     have hv:h0.1*x.2.1 - h0.2.1*x.1≠0:=by grind
     exact⟨by grind,by grind⟩)
    grind
noncomputable def wT(w:Int × Int):T3:=((w.1:Rat),(w.2:Rat),0)
theorem oR(a:Sd)(w:Int × Int):ve (tri a) (wT w)=(veW a w:Rat):=by
 unfold ve tri wT veW
 rw[ON,Nx,Nx]
theorem oQ(w:Int × Int)(b:Sd):ve (wT w) (tri b)=(wVe w b:Rat):=by
 unfold ve tri wT wVe
 rw[ON,Nx,Nx]
structure Arn(ls:List T3)(w:Int × Int)(a b:Sd):Prop where
 ma:a∈f7 ls
 mb:b∈f7 ls
 ve:0<veZ a b
 sup:Sup ((f7 ls).map tri) (ry (tri a) (tri b))
 ka:0≤veW a w
 kb:0<wVe w b
theorem V9{ls:List T3}(hok:∀ l∈ls,LineOk l){h0 x:Sd}{l:List Sd}(e:C3 (f7 ls)=h0 :: x :: l){w:Int × Int}(hw:¬ (w.1=0∧w.2=0)):∃ a b,cJ (h0 :: x :: l) w=some (a,b)∧Arn ls w a b:=by
 have sy:∀ s∈f7 ls,j4 s∈f7 ls:=jd (ls:=ls) (i:=0)
 have hne:ls≠[]:=fun z=>by rw[z]at e;cases e
 obtain⟨g0,m,e',m0,h⟩:=E9 hok hne
 rw[e]at e'
 cases e'
 rcases h with⟨z,_⟩|⟨_,R,hE⟩
 ·cases z
 generalize x :: l=L at *
 have ed:fh (tri h0) (L.map tri)=((h0 :: L).zip (L++[j4 h0])).map fun ab=>(tri ab.1,tri ab.2):=by
  unfold fh
  rw[← K7,NO,NF,NO,OU,D3]
 have hw':¬ ((wT w).1=0∧(wT w).2.1=0):=fun⟨z1,z2⟩=>hw ⟨by have z1:(w.1:Rat)=0:=z1;exact_mod_cast z1,by have z2:(w.2:Rat)=0:=z2;exact_mod_cast z2⟩
 obtain⟨i1,i2⟩:=oH (w:=w) (cI (cA (h0 :: L))) none
 have ex:∃ ab∈cI (cA (h0 :: L)),0≤veW ab.1 w∧0<wVe w ab.2:=by
  obtain⟨ab,hm,hc⟩:=R.arnd (wT w) hw'
  rw[ed]at hm
  obtain⟨cd,hcd,rfl⟩:=Nu.mp hm
  rw[sQ]
  rcases hc with⟨k1,k2⟩|⟨k1,k2⟩
  ·refine⟨cd,Oq _ hcd,?_,?_⟩
   ·have k1:0≤ve (tri cd.1) (wT w):=k1
    rw[oR]at k1;exact oz.mp k1
   ·have k2:0<ve (wT w) (tri cd.2):=k2
    rw[oQ]at k2;exact A4.mp k2
  ·refine⟨(j4 cd.1,j4 cd.2),NJ _ (Nu.mpr ⟨cd,hcd,rfl⟩),?_,?_⟩
   ·have k1:0≤ve (ng (tri cd.1)) (wT w):=k1
    rw[← D3,oR]at k1;exact oz.mp k1
   ·have k2:0<ve (wT w) (ng (tri cd.2)):=k2
    rw[← D3,oQ]at k2;exact A4.mp k2
 obtain⟨⟨a,b⟩,eab⟩:=Option.ne_none_iff_exists'.mp (i2 (.inr ex))
 refine⟨a,b,eab,?_⟩
 rcases i1 _ eab with z|⟨hm,k1,k2⟩
 ·cases z
 rw[sQ]at hm
 have supE:∀ ab∈(h0 :: L).zip (L++[j4 h0]),Sup ((f7 ls).map tri) (ry (tri ab.1) (tri ab.2)):=fun ab h=>by
  have hm:(tri ab.1,tri ab.2)∈fh (tri h0) (L.map tri):=by
   rw[ed];exact Nu.mpr ⟨ab,h,rfl⟩
  exact(R.all _ hm).2.2.2
 clear i1 i2 eab ex
 rcases NL.mp hm with hm|hm
 ·have q:=hE (a,b) hm
  have sq:=supE (a,b) hm
  exact⟨q.1,q.2.1,q.2.2,sq,k1,k2⟩
 ·obtain⟨cd,hcd,ec⟩:=Nu.mp hm
  obtain⟨q1,q2,q3⟩:=hE _ hcd
  have ea:a=j4 cd.1:=(congrArg Prod.fst ec).symm
  have eb:b=j4 cd.2:=(congrArg Prod.snd ec).symm
  subst ea eb
  refine⟨sy _ q1,sy _ q2,?_,?_,k1,k2⟩
  ·have:veZ (j4 cd.1) (j4 cd.2)=veZ cd.1 cd.2:=by unfold veZ j4;grind
   rw[this];exact q3
  ·rw[D3,D3,wy];exact iX R.sy (supE _ hcd)
inductive G1
 | free (z:Zr)
 | most (v:Rat) (z:Zr) (sh:List (Int × Rat))
noncomputable def shD(s:Int × Rat):D:=.tup [.int s.1,e8 s.2]
noncomputable def G1.toD:G1→D
 | .free z=>.tup [.str "free",rD z]
 | .most v z sh=>.tup [.str "most",e8 v,rD z,.vl (sh.map shD)]
noncomputable def eu:List (Int × Rat)→List (Int × Rat)
 | [x,y]=>if y.1<x.1 then[y,x]else[x,y]
 | l=>l
noncomputable def shF(a b:Sd)(w:Int × Int)(c:Nat):List (Int × Rat):=eu ([(a.2.2.2.1,NM (wVe w b*a.2.2.2.2) (c*veZ a b)),(b.2.2.2.1,NM (veW a w*b.2.2.2.2) (c*veZ a b))].filter fun s=>decide (s.2≠0))
noncomputable def vlF(a b:Sd)(w:Int × Int)(c:Nat):Rat:=NM (wVe w b*a.2.2.1+veW a w*b.2.2.1) (c*veZ a b)
noncomputable def fm(half:List Sd)(p q:Rat):G1:=match cJ half (wtF p q)with
 | none=>.free (0,0)
 | some (a,b)=>.most (vlF a b (wtF p q) (cb2 p q)) (ry (tri a) (tri b)) (shF a b (wtF p q) (cb2 p q))
noncomputable def sqZ(p q:Rat):Rat:=p*p+q*q
noncomputable def A0(l:T3)(n:Int)(p q:Rat):G1 :=
 if l.1*q - p*l.2.1<0 then .free (l.2.1,-l.1)else if 0<l.1*q - p*l.2.1 then .free (-l.2.1,l.1)else
 .most (j0 (if l.1=0 then q / l.2.1 else p / l.1)*l.2.2) (p*(j0 (if l.1=0 then q / l.2.1 else p / l.1)*l.2.2 / sqZ p q),q*(j0 (if l.1=0 then q / l.2.1 else p / l.1)*l.2.2 / sqZ p q)) [(n,if l.1=0 then q / l.2.1 else p / l.1)]
noncomputable def F5(ls:List T3)(p q:Rat):G1:=if p=0∧q=0 then .most 0 (0,0) []else match C3 (f7 ls)with
 | []=>.free (p,q)
 | [h]=>A0 (ls.getD h.2.2.2.1.toNat (0,0,0)) h.2.2.2.1 p q
 | half=>fm half p q
theorem cP{s:Sd}:∀{ls:List T3} {i:Nat},s∈N8 i ls→∃ j l,ls[j]? = some l∧(s=h9 l (i+j)∨s=j4 (h9 l (i+j)))
 | [],_,h=>by cases h
 | a :: r,i,h=>by
  have h:s∈h9 a i :: j4 (h9 a i) :: N8 (i+1) r:=h
  rcases Nh.mp h with rfl|h
  ·exact⟨0,a,rfl,.inl rfl⟩
  ·rcases Nh.mp h with rfl|h
   ·exact⟨0,a,rfl,.inr rfl⟩
   ·obtain⟨j,l,e,q⟩:=cP h
    exact⟨j+1,l,e,by rw[show i+(j+1)=i+1+j by omega];exact q⟩
theorem rW{ls:List T3}{a b:Sd}(ha:a∈f7 ls)(hb:b∈f7 ls)(hv:veZ a b≠0):a.2.2.2.1≠b.2.2.2.1:=fun e=>by
 obtain⟨i,l,e1,h1⟩:=cP (i:=0) ha
 obtain⟨j,m,e2,h2⟩:=cP (i:=0) hb
 have n1:a.2.2.2.1=((0+i:Nat):Int):=by rcases h1 with h|h<;>rw[h]<;>rfl
 have n2:b.2.2.2.1=((0+j:Nat):Int):=by rcases h2 with h|h<;>rw[h]<;>rfl
 obtain rfl:i=j:=by omega
 rw[e1]at e2
 cases e2
 refine hv ?_
 rcases h1 with h|h<;>rcases h2 with h'|h'<;>(rw[h,h'];unfold veZ;first|(unfold j4;grind)|grind)
theorem iU(p q:Rat):((wtF p q).1:Rat)=p*(cb2 p q:Rat)∧((wtF p q).2:Rat)=q*(cb2 p q:Rat):=⟨ar (Jb p q),ar (Ja p q)⟩
theorem mB{p q:Rat}(h:¬ (p=0∧q=0)):¬ ((wtF p q).1=0∧(wtF p q).2=0):=fun⟨z1,z2⟩=>by
 obtain⟨e1,e2⟩:=iU p q
 have c:(0:Rat)<(cb2 p q:Rat):=by exact_mod_cast br p q
 rw[z1]at e1
 rw[z2]at e2
 have e1:(0:Rat)=p*(cb2 p q:Rat):=e1
 have e2:(0:Rat)=q*(cb2 p q:Rat):=e2
 generalize (cb2 p q:Rat)=k at *
 exact h ⟨by grind,by grind⟩
theorem lq{ls:List T3}{p q:Rat}{a b:Sd}(A:Arn ls (wtF p q) a b) :
  vlF a b (wtF p q) (cb2 p q)=p*(ry (tri a) (tri b)).1+q*(ry (tri a) (tri b)).2∧∀ z,Sup ((f7 ls).map tri) z→p*z.1+q*z.2≤p*(ry (tri a) (tri b)).1+q*(ry (tri a) (tri b)).2:=by
 obtain⟨e1,e2⟩:=iU p q
 have c:(0:Rat)<(cb2 p q:Rat):=by exact_mod_cast br p q
 have V:(0:Rat)<ve (tri a) (tri b):=by rw[w6];exact A4.mpr A.ve
 have ka:(0:Rat)≤ve (tri a) (wT (wtF p q)):=by rw[oR];exact oz.mpr A.ka
 have kb:(0:Rat)<ve (wT (wtF p q)) (tri b):=by rw[oQ];exact A4.mpr A.kb
 have dw:∀ z:Zr,dt (wT (wtF p q)) z=(p*z.1+q*z.2)*(cb2 p q:Rat):=fun z=>by
  unfold dt wT
  show((wtF p q).1:Rat)*z.1+((wtF p q).2:Rat)*z.2=_
  rw[e1,e2];grind
 have bt:=X7 (w:=wT (wtF p q)) V (ry (tri a) (tri b))
 rw[AM (D2 V),wB (D2 V),dw]at bt
 constructor
 ·unfold vlF
  rw[t9,Po,Nx,Nx,Nx,Ob,← w6,← oQ,← oR]
  have r1:(tri a).2.2=(a.2.2.1:Rat):=rfl
  have r2:(tri b).2.2=(b.2.2.1:Rat):=rfl
  rw[← r1,← r2,← bt]
  have hz:∀ v k m:Rat,0<v→0<k→v*(m*k) / (k*v)=m:=fun v k m h1 h2=>by
   have:v*(m*k)=m*(k*v):=by grind
   rw[this,Pq (D2 (OY h2 h1))]
  exact hz _ _ _ V c
 ·intro z hz
  have b2:=X7 (w:=wT (wtF p q)) V z
  rw[dw]at b2
  have s1:=hz (tri a) (Nu.mpr ⟨a,A.ma,rfl⟩)
  have s2:=hz (tri b) (Nu.mpr ⟨b,A.mb,rfl⟩)
  have p1:0≤ve (wT (wtF p q)) (tri b)*((tri a).2.2 - dt (tri a) z):=NH (R9 kb) (by grind)
  have p2:0≤ve (tri a) (wT (wtF p q))*((tri b).2.2 - dt (tri b) z):=NH ka (by grind)
  have p3:0≤ve (tri a) (tri b)*(((p*(ry (tri a) (tri b)).1+q*(ry (tri a) (tri b)).2) - (p*z.1+q*z.2))*(cb2 p q:Rat)):=by grind
  have p4:=L3 V p3
  have p5:=L3 c (x:=(p*(ry (tri a) (tri b)).1+q*(ry (tri a) (tri b)).2) - (p*z.1+q*z.2)) (by grind)
  grind
theorem Ca{ls:List T3}(hok:∀ l∈ls,LineOk l){h0:Sd}{l:List Sd}(e:C3 (f7 ls)=h0 :: l):∀ t∈f7 ls,Lx t h0:=by
 have hp:∀ s∈f7 ls,0<s.2.2.1:=cN hok (i:=0)
 cases es:f7 ls with
 | nil=>rw[es]at e;cases e
 | cons s r =>
  rw[es]at e hp
  have e2:C3 (s :: r)=D4 (s :: r) s :: R7 (D4 (s :: r) s) (s :: r) (s :: r).length (L5 (D4 (s :: r) s) (s :: r)):=rfl
  rw[e2]at e
  injection e with e3 e4
  intro t ht
  rw[← e3]
  exact kc (s :: r) s t hp (hp s Nk) (.inl ht)
theorem xu{s:Sd}(h:0<s.2.2.1):(tri s).1=kp s*(tri s).2.2∧(tri s).2.1=kq s*(tri s).2.2:=by
 have:(0:Rat)<(s.2.2.1:Rat):=A4.mpr h
 unfold kp kq tri
 exact⟨by show(s.1:Rat)=_;grind,by show(s.2.1:Rat)=_;grind⟩
theorem xv(s:Sd):kp (j4 s) = -kp s∧kq (j4 s) = -kq s:=by
 have e1:kp (j4 s)=((-s.1:Int):Rat) / (s.2.2.1:Rat):=rfl
 have e2:kq (j4 s)=((-s.2.1:Int):Rat) / (s.2.2.1:Rat):=rfl
 rw[e1,e2,Pp,Pp,OZ,OZ,PY,PY,← OZ,← OZ]
 exact⟨rfl,rfl⟩
theorem GA{ss:List Sd}{h0:Sd}(m0:h0∈ss)(hp:∀ s∈ss,0<s.2.2.1)(sy:∀ s∈ss,j4 s∈ss)(lx:∀ t∈ss,Lx t h0)(al:∀ s∈ss,veZ h0 s=0)(nz:¬ ((tri h0).1=0∧(tri h0).2.1=0)){z:Zr}(hz:dt (tri h0) z=(tri h0).2.2∨dt (tri h0) z = -(tri h0).2.2):Sup (ss.map tri) z:=fun s hs=>by
 obtain⟨t,ht,rfl⟩:=Nu.mp hs
 have r0:(0:Rat)<(tri h0).2.2:=A4.mpr (hp h0 m0)
 have rt:(0:Rat)<(tri t).2.2:=A4.mpr (hp t ht)
 obtain⟨a1,a2⟩:=xu (hp h0 m0)
 obtain⟨b1,b2⟩:=xu (hp t ht)
 obtain⟨f1,f2⟩:=xv h0
 obtain⟨g1,g2⟩:=xv t
 have l0:=lx _ (sy h0 m0)
 have l1:=lx t ht
 have l2:=lx _ (sy t ht)
 have v:ve (tri h0) (tri t)=0:=by rw[w6,al t ht];rfl
 unfold Lx at l0 l1 l2
 rw[f1,f2]at l0
 rw[g1,g2]at l2
 unfold ve at v
 generalize kp h0=hp' at *
 generalize kq h0=hq' at *
 generalize kp t=tp at *
 generalize kq t=tq at *
 unfold dt at hz ⊢
 generalize (tri h0).2.2=R at *
 generalize (tri t).2.2=T at *
 rw[a1,a2,b1,b2]at v
 rw[a1,a2]at hz nz
 rw[b1,b2]
 clear a1 a2 b1 b2 f1 f2 g1 g2 lx al sy hp hs
 have v':hp'*tq - hq'*tp=0:=by
  have:(R*T)*(hp'*tq - hq'*tp)=0:=by grind
  have hRT:=D2 (OY r0 rt)
  generalize R*T=c at *
  grind
 have hz':hp'*z.1+hq'*z.2=1∨hp'*z.1+hq'*z.2 = -1:=by
  rcases hz with h|h
  ·left;grind
  ·right;grind
 have goal:tp*z.1+tq*z.2≤1→tp*T*z.1+tq*T*z.2≤T:=fun h=>by
  have:0≤T*(1 - (tp*z.1+tq*z.2)):=NH (R9 rt) (by grind)
  grind
 apply goal
 clear goal hz r0 rt
 by_cases c:0<hp'
 ·have e:hp'*(tp*z.1+tq*z.2)=tp*(hp'*z.1+hq'*z.2):=by grind
  have le1:tp≤hp':=by grind
  have le2:-tp≤hp':=by grind
  have:0≤hp'*(1 - (tp*z.1+tq*z.2)):=by
   rcases hz' with h|h<;>rw[h]at e<;>grind
  have:=L3 c this
  grind
 ·have e0:hp'=0:=by grind
  have q0:0<hq':=by
   have h1:0≤hq':=by grind
   have h2:hq'≠0:=fun w=>nz ⟨by rw[e0];grind,by rw[w];grind⟩
   grind
  have t0:tp=0:=by
   rw[e0]at v'
   have:hq'*tp=0:=by grind
   grind
  have le1:tq≤hq':=by grind
  have le2:-tq≤hq':=by grind
  rw[e0]at hz'
  rw[t0]
  have:0≤hq'*(1 - (0*z.1+tq*z.2)):=by
   rcases hz' with h|h
   ·have e:hq'*(tq*z.2)=tq*(0*z.1+hq'*z.2):=by grind
    rw[h]at e;grind
   ·have e:hq'*(tq*z.2)=tq*(0*z.1+hq'*z.2):=by grind
    rw[h]at e;grind
  have:=L3 q0 this
  grind
structure lC(ls:List T3)(p q:Rat)(m:G1):Prop where
 free:∀ z,m = .free z→¬ (p=0∧q=0)∧P8 ls∧(∀ l∈ls,l.1*z.1+l.2.1*z.2=0)∧0<p*z.1+q*z.2∧∀ l∈ls,l.1*q - p*l.2.1≠0
 most:∀ v z sh,m = .most v z sh→C6 ls z.1 z.2=true∧v=p*z.1+q*z.2∧(∀ y u,C6 ls y u=true→p*y+q*u≤v)∧((p=0∧q=0)∨(P8 ls∧∃ l∈ls,l.1*q - p*l.2.1=0)∨Cn2 ((f7 ls).map tri) z)
theorem Ig{ls:List T3}(hok:∀ l∈ls,LineOk l):C6 ls 0 0=true:=by
 unfold C6
 rw[OF]
 intro l hl
 rw[E3]
 have:=(hok l hl).pos
 constructor<;>grind
theorem B2(s:Rat):(0≤s∧j0 s=s)∨(s<0∧j0 s = -s):=by
 unfold j0
 split
 ·exact .inl ⟨by assumption,rfl⟩
 ·exact .inr ⟨by grind,rfl⟩
theorem ey{p q:Rat}(h:¬ (p=0∧q=0)):0<sqZ p q:=by
 have s:∀ x:Rat,0≤x*x:=fun x=>by
  rcases tot 0 x with h|h
  ·exact NH h h
  ·have:=NH (show 0 ≤ -x by grind) (show 0 ≤ -x by grind)
   grind
 have s1:=s p
 have s2:=s q
 unfold sqZ
 by_cases c:p=0
 ·by_cases d:q=0
  ·exact absurd ⟨c,d⟩ h
  ·have:q*q≠0:=fun z=>d (by grind)
   grind
 ·have:p*p≠0:=fun z=>c (by grind)
  grind
theorem qm{ls:List T3}(hok:∀ l∈ls,LineOk l){l:T3}(hl:l∈ls){n:Int}{h0:Sd}{j:Nat}(e:C3 (f7 ls)=[h0])(eh:h0=h9 l j∨h0=j4 (h9 l j))(m0:h0∈f7 ls)(al0:∀ s∈f7 ls,veZ h0 s=0)(al:P8 ls){p q:Rat}(hpq:¬ (p=0∧q=0)):lC ls p q (A0 l n p q):=by
 have ok:=hok l hl
 have rl:=ok.pos
 have cp:=F8 l
 have other:∀ m∈ls,m.1*l.2.1=l.1*m.2.1:=fun m hm=>al m hm l hl
 have nob:l.1*q - p*l.2.1≠0→∀ m∈ls,m.1*q - p*m.2.1≠0:=fun hb m hm z=>by
  have a1:=other m hm
  have mn:=(hok m hm).ne
  have e1:m.1*(l.1*q - p*l.2.1)=0:=by
   have:m.1*(l.1*q - p*l.2.1)=l.1*(m.1*q - p*m.2.1)+p*(l.1*m.2.1 - m.1*l.2.1):=by grind
   rw[this,z,a1];grind
  have e2:m.2.1*(l.1*q - p*l.2.1)=0:=by
   have:m.2.1*(l.1*q - p*l.2.1)=l.2.1*(m.1*q - p*m.2.1)+q*(l.1*m.2.1 - m.1*l.2.1):=by grind
   rw[this,z,a1];grind
  generalize l.1*q - p*l.2.1=b at *
  exact mn ⟨by grind,by grind⟩
 unfold A0
 by_cases c1:l.1*q - p*l.2.1<0
 ·rw[if_pos c1]
  refine⟨fun z hz=>?_,fun v z sh hz=>by cases hz⟩
  cases hz
  exact⟨hpq,al,fun m hm=>by have:=other m hm;show m.1*l.2.1+m.2.1 * -l.1=0;grind,by show 0<p*l.2.1+q * -l.1;grind,nob (by grind)⟩
 rw[if_neg c1]
 by_cases c2:0<l.1*q - p*l.2.1
 ·rw[if_pos c2]
  refine⟨fun z hz=>?_,fun v z sh hz=>by cases hz⟩
  cases hz
  exact⟨hpq,al,fun m hm=>by have:=other m hm;show m.1 * -l.2.1+m.2.1*l.1=0;grind,by show 0<p * -l.2.1+q*l.1;grind,nob (by grind)⟩
 rw[if_neg c2]
 have c0:l.1*q - p*l.2.1=0:=by grind
 obtain⟨s,es,ep,eq⟩:∃ s:Rat,(if l.1=0 then q / l.2.1 else p / l.1)=s∧p=s*l.1∧q=s*l.2.1:=by
  by_cases z:l.1=0
  ·have n2:l.2.1≠0:=fun w=>ok.ne ⟨z,w⟩
   rw[if_pos z]
   refine⟨q / l.2.1,rfl,?_,?_⟩
   ·rw[z]at c0 ⊢
    have:p*l.2.1=0:=by grind
    grind
   ·grind
  ·rw[if_neg z]
   exact⟨p / l.1,rfl,by grind,by grind⟩
 rw[es]
 have sq:=ey hpq
 have s0:s≠0:=fun w=>hpq ⟨by rw[ep,w];grind,by rw[eq,w];grind⟩
 refine⟨fun z hz=>(by cases hz),fun v z sh hz=>?_⟩
 cases hz
 have k1:j0 s*l.2.2 / sqZ p q*sqZ p q=j0 s*l.2.2:=NZ (D2 sq)
 have val:p*(p*(j0 s*l.2.2 / sqZ p q))+q*(q*(j0 s*l.2.2 / sqZ p q))=j0 s*l.2.2:=by
  have:p*(p*(j0 s*l.2.2 / sqZ p q))+q*(q*(j0 s*l.2.2 / sqZ p q))=j0 s*l.2.2 / sqZ p q*sqZ p q:=by
   generalize j0 s*l.2.2 / sqZ p q=k
   unfold sqZ;grind
  rw[this,k1]
 have lz:s*(l.1*(p*(j0 s*l.2.2 / sqZ p q))+l.2.1*(q*(j0 s*l.2.2 / sqZ p q)))=j0 s*l.2.2:=by
  have g:∀ k:Rat,s*(l.1*(p*k)+l.2.1*(q*k))=(s*l.1)*(p*k)+(s*l.2.1)*(q*k):=fun k=>by grind
  rw[g,← ep,← eq,val]
 have ends:l.1*(p*(j0 s*l.2.2 / sqZ p q))+l.2.1*(q*(j0 s*l.2.2 / sqZ p q))=l.2.2∨l.1*(p*(j0 s*l.2.2 / sqZ p q))+l.2.1*(q*(j0 s*l.2.2 / sqZ p q)) = -l.2.2:=by
  generalize l.1*(p*(j0 s*l.2.2 / sqZ p q))+l.2.1*(q*(j0 s*l.2.2 / sqZ p q))=m at *
  rcases B2 s with⟨h,w⟩|⟨h,w⟩
  ·left;rw[w]at lz;grind
  ·right;rw[w]at lz;grind
 refine⟨?_,val.symm,fun y u hy=>?_,.inr (.inl ⟨al,l,hl,c0⟩)⟩
 ·rw[← cM]
  refine GA m0 (cN hok (i:=0)) (jd (ls:=ls) (i:=0)) (Ca hok e) al0 (vS hok _ (Nu.mpr ⟨h0,m0,rfl⟩)) ?_
  have d1:=dq l j (p*(j0 s*l.2.2 / sqZ p q),q*(j0 s*l.2.2 / sqZ p q))
  have rr:(tri (h9 l j)).2.2=l.2.2*(cbL l:Rat):=by rw[C8]
  have d1:dt (tri (h9 l j)) (p*(j0 s*l.2.2 / sqZ p q),q*(j0 s*l.2.2 / sqZ p q))=(l.1*(p*(j0 s*l.2.2 / sqZ p q))+l.2.1*(q*(j0 s*l.2.2 / sqZ p q)))*(cbL l:Rat):=d1
  rcases eh with rfl|rfl
  ·rw[d1,rr]
   rcases ends with h|h
   ·left;rw[h]
   ·right;rw[h,PY]
  ·have r2:(tri (j4 (h9 l j))).2.2=l.2.2*(cbL l:Rat):=rr
   rw[qd,d1,r2]
   rcases ends with h|h
   ·right;rw[h]
   ·left;rw[h,PY,RH]
 ·unfold C6 at hy
  rw[OF]at hy
  have b:=(E3 l y u).mp (hy l hl)
  have e1:p*y+q*u=s*(l.1*y+l.2.1*u):=by rw[ep,eq];grind
  rw[e1]
  generalize l.1*y+l.2.1*u=m at *
  rcases B2 s with⟨h,w⟩|⟨h,w⟩
  ·rw[w]
   have:0≤s*(l.2.2 - m):=NH h (by grind)
   grind
  ·rw[w]
   have:0 ≤ -s*(l.2.2+m):=NH (by grind) (by grind)
   grind
theorem O7{ls:List T3}{h:Sd}(hm:h∈f7 ls):∃(l:T3) (j:Nat),ls[j]? = some l∧h.2.2.2.1=(j:Int)∧(h=h9 l j∨h=j4 (h9 l j)):=by
 obtain⟨j,l,e,q⟩:=cP (i:=0) hm
 rw[QK]at q
 exact⟨l,j,e,by rcases q with q|q<;>rw[q]<;>rfl,q⟩
theorem X3{ls:List T3}(hok:∀ l∈ls,LineOk l)(p q:Rat):lC ls p q (F5 ls p q):=by
 unfold F5
 by_cases c:p=0∧q=0
 ·rw[if_pos c]
  refine⟨fun z hz=>(by cases hz),fun v z sh hz=>?_⟩
  cases hz
  exact⟨Ig hok,by rw[c.1,c.2];grind,fun y u _=>by rw[c.1,c.2];grind,.inl c⟩
 rw[if_neg c]
 by_cases hne:ls=[]
 ·subst hne
  refine⟨fun z hz=>?_,fun v z sh hz=>by cases hz⟩
  cases hz
  exact⟨c,(fun a ha=>by cases ha),(fun l hl=>by cases hl),ey c,fun l hl=>by cases hl⟩
 obtain⟨h0,l,e,m0,h⟩:=E9 hok hne
 rw[e]
 cases l with
 | nil =>
  rcases h with⟨_,al0⟩|⟨z,_⟩
  ·obtain⟨m,j,em,en,eq⟩:=O7 m0
   have hm:=Nq em
   have al:P8 ls:=by
    rcases yt hok with⟨_,a⟩|⟨cs,ec,_⟩
    ·exact a
    ·unfold yu at ec;rw[e]at ec;cases ec
   show lC ls p q (A0 (ls.getD h0.2.2.2.1.toNat (0,0,0)) h0.2.2.2.1 p q)
   rw[en,NI,Nz,em]
   exact qm hok hm e eq m0 al0 al c
  ·exact absurd rfl z
 | cons x l =>
  obtain⟨a,b,ea,A⟩:=V9 hok e (mB c)
  show lC ls p q (match cJ (h0 :: x :: l) (wtF p q)with|none=>.free (0,0)|some (a,b)=>.most (vlF a b (wtF p q) (cb2 p q)) (ry (tri a) (tri b)) (shF a b (wtF p q) (cb2 p q)))
  rw[ea]
  obtain⟨v1,v2⟩:=lq A
  have V:(0:Rat)<ve (tri a) (tri b):=by rw[w6];exact A4.mpr A.ve
  refine⟨fun z hz=>(by cases hz),fun v z sh hz=>?_⟩
  cases hz
  refine⟨(cM ls _).mp A.sup,v1,fun y u hy=>?_,.inr (.inr ⟨A.sup,tri a,tri b,Nu.mpr ⟨a,A.ma,rfl⟩,Nu.mpr ⟨b,A.mb,rfl⟩,D2 V,AM (D2 V),wB (D2 V)⟩)⟩
  rw[v1]
  exact v2 (y,u) ((cM ls (y,u)).mpr hy)
structure L28(l:T3):Prop extends LnOk l where
 p6:sz l.1≤548
 q6:sz l.2.1≤548
 r6:sz l.2.2≤262
 b6:zp 800 (h9 l 0)
theorem Cm{l:T3}{m:Nat}(h1:sz l.1≤m)(h2:sz l.2.1≤m)(h3:sz l.2.2≤m):zp (3*m) (h9 l 0):=by
 have e:cbL l≤l.1.den*l.2.1.den*l.2.2.den:=by
  have a:=D5 (B0 (B0 1 l.1.den) l.2.1.den) l.2.2.den
  have b:=D5 (B0 1 l.1.den) l.2.1.den
  have c:=D5 1 l.1.den
  rw[QY]at c
  exact Nr a (Oc _ (Nr b (Oc _ c)))
 have d1:=p8 _ h1
 have d2:=p8 _ h2
 have d3:=p8 _ h3
 have key:∀{q:Rat} {u v:Nat},sz q≤m→l.1.den*l.2.1.den*l.2.2.den=q.den*(u*v)→u<2 ^ m→v<2 ^ m→(P9 q (cbL l)).natAbs<2 ^ (3*m):=fun{q u v} hq eq hu hv=>by
  unfold P9
  have hd:cbL l / q.den≤u*v:=by
   rw[eq]at e
   exact OK e
  rw[NQ,Np,show 3*m=m+(m+m)by omega,Og,Og]
  refine Oj (N0 q hq) (Nr hd (Ou (Ov hu hv))) (RF (Pu (by decide)) (Pu (by decide)))
 exact⟨key h1 (Rg _ _ _) d2 d3,key h2 (by rw[OX l.1.den,Rg]) d1 d3,key h3 (OX _ _) d1 d2⟩
theorem yN{n:Nat}{l:T3}(h:zp n (h9 l 0))(hn:n≤1200):SzS (h9 l 0):=⟨V1 h.1 hn,V1 h.2.1 hn,V1 h.2.2 hn⟩
theorem L28.mk3{l:T3}(ok:LineOk l)(h1:sz l.1≤262)(h2:sz l.2.1≤262)(h3:sz l.2.2≤262):L28 l:=by
 have b:=Cm h1 h2 h3
 have b6:zp 800 (h9 l 0):=⟨V1 b.1 (by decide),V1 b.2.1 (by decide),V1 b.2.2 (by decide)⟩
 exact{ ne:=ok.ne,pos:=ok.pos,p:=by omega,q:=by omega,r:=by omega,s:=yN b6 (by decide),p6:=by omega,q6:=by omega,r6:=by omega,b6:=b6 }
def L9(ls:List T3):Prop:=ls.length≤12∧∀ l∈ls,L28 l
theorem L9.ok{ls:List T3}(h:L9 ls):yT ls:=⟨h.1,fun l hl=>(h.2 l hl).toLnOk⟩
theorem L9.lo{ls:List T3}(h:L9 ls):∀ l∈ls,LineOk l:=fun l hl=>(h.2 l hl).toLnOk.toLineOk
theorem L9.bits{ls:List T3}(h:L9 ls):∀ s∈f7 ls,zp 800 s:=fun s hs=>by
 obtain⟨l,hl,j,e⟩:=F3 hs
 obtain⟨a,b,c⟩:=(h.2 l hl).b6
 rcases e with rfl|rfl
 ·exact⟨a,b,c⟩
 ·exact⟨by show(-(h9 l j).1).natAbs<_;rw[Oo];exact a,by show(-(h9 l j).2.1).natAbs<_;rw[Oo];exact b,c⟩
theorem L9.szs{ls:List T3}(h:L9 ls):∀ s∈f7 ls,SzS s:=fun s hs=>by
 obtain⟨a,b,c⟩:=h.bits s hs
 exact⟨V1 a (by decide),V1 b (by decide),V1 c (by decide)⟩
theorem Kh{l:T3}(h:L28 l):cbL l<2 ^ 1400:=by
 have e:cbL l≤l.1.den*l.2.1.den*l.2.2.den:=by
  have a:=D5 (B0 (B0 1 l.1.den) l.2.1.den) l.2.2.den
  have b:=D5 (B0 1 l.1.den) l.2.1.den
  have c:=D5 1 l.1.den
  rw[QY]at c
  exact Nr a (Oc _ (Nr b (Oc _ c)))
 have d1:=p8 _ h.p6
 have d2:=p8 _ h.q6
 have d3:=p8 _ h.r6
 refine NK e ?_
 refine Nf (Ov (Ov d1 d2) d3) ?_
 rw[← Og,← Og]
 exact Nl (by decide) (by decide)
theorem L9.scale{ls:List T3}(h:L9 ls):∀ s∈f7 ls,s.2.2.2.2.natAbs<2 ^ 1400:=fun s hs=>by
 obtain⟨l,hl,j,e⟩:=F3 hs
 have:=Kh (h.2 l hl)
 rcases e with rfl|rfl
 ·show((cbL l:Nat):Int).natAbs<_;rw[Np];exact this
 ·show(-((cbL l:Nat):Int)).natAbs<_;rw[Oo,Np];exact this
def Wz(x y:Int):Prop:=x.natAbs<2 ^ 2200∧y.natAbs<2 ^ 2200
theorem kU(p q:Rat):cb2 p q≤p.den*q.den:=by
 have b:=D5 (B0 1 p.den) q.den
 have c:=D5 1 p.den
 rw[QY]at c
 exact Nr b (Oc _ c)
theorem yz{p q:Rat}(h1:sz p≤1100)(h2:sz q≤1100):cb2 p q<2 ^ 2200:=by
 refine NK (kU p q) ?_
 rw[show 2200=1100+1100 from rfl,Og]
 exact Ov (p8 _ h1) (p8 _ h2)
theorem Jm{p q:Rat}(h1:sz p≤1100)(h2:sz q≤1100):Wz (wtF p q).1 (wtF p q).2:=by
 have e:=kU p q
 have d1:=p8 _ h1
 have d2:=p8 _ h2
 refine⟨?_,?_⟩
 ·show(P9 p (cb2 p q)).natAbs<_
  unfold P9
  rw[NQ,Np,show 2200=1100+1100 from rfl,Og]
  exact Oj (N0 p h1) (Nr (OK e) (Ou d2)) (Pu (by decide))
 ·show(P9 q (cb2 p q)).natAbs<_
  unfold P9
  rw[NQ,Np,show 2200=1100+1100 from rfl,Og]
  exact Oj (N0 q h2) (Nr (OK (by rw[OX];exact e)) (Ou d1)) (Pu (by decide))
noncomputable def Bo:Option (Sd × Sd)→D
 | none=>.non
 | some ab=>.tup [sdD ab.1,sdD ab.2]
local macro_rules|`(tactic| walk_at "inj")=>`(tactic| (rename_i e h;simp only[List.cons.injEq,GM.A1,GM.v7,GM.D1,GM.A7,and_true,true_and,GM.h7,GM.i0,GM.f9,GM.i3,GM.g5,D.tup.injEq,D.ref.injEq,D.int.injEq,D.str.injEq,D.bl.injEq,D.vl.injEq,NG,and_assoc]at e;(repeat(obtain⟨e1,e⟩:=e;subst e1));subst e;exact h))
local macro_rules|`(tactic| walk_at "injs")=>`(tactic| (rename_i e o h;rcases o with o|o<;>(subst o;first|(exfalso;simp only[D.tup.injEq,List.cons.injEq,reduceCtorEq,false_and,and_false]at e;done)|(simp only[List.cons.injEq,GM.A1,GM.v7,GM.D1,GM.A7,and_true,true_and,GM.h7,GM.i0,GM.f9,GM.i3,GM.g5,D.tup.injEq,D.ref.injEq,D.int.injEq,D.str.injEq,D.bl.injEq,D.vl.injEq,NG,and_assoc]at e;(repeat(obtain⟨e1,e⟩:=e;subst e1));subst e;exact h))))
abbrev cU(p q y u:Rat)(M:Mem)(R:DK)(Y:DXK):Prop:=(sz p+sz q+sz y+sz u≤8000)∧R (e8 (p*y+q*u)) M
def rM:DSp:=fun ds M R Y=>∃(p q y u:Rat),ds=[e8 p,e8 q,A5 y u]∧cU p q y u M R Y
theorem qy{p q y u:Rat}{M:Mem}{R:DK}{Y:DXK}:rM [e8 p,e8 q,A5 y u] M R Y=(cU p q y u M R Y):=propext ⟨fun z=>by obtain⟨_,_,_,_,_,_⟩:=z;walk_at "inj",fun h=>⟨p,q,y,u,rfl,h⟩⟩
abbrev aB(a:Sd)(x y:Int)(M:Mem)(R:DK)(Y:DXK):Prop:=(SzS a∧Wz x y)∧R (.int (veW a (x,y))) M
def jD:DSp:=fun ds M R Y=>∃(a:Sd) (x y:Int),ds=[sdD a,.vl [.int x,.int y]]∧aB a x y M R Y
theorem lL{a:Sd}{x y:Int}{M:Mem}{R:DK}{Y:DXK}:jD [sdD a,.vl [.int x,.int y]] M R Y=(aB a x y M R Y):=propext ⟨fun z=>by obtain⟨_,_,_,_,_⟩:=z;walk_at "inj",fun h=>⟨a,x,y,rfl,h⟩⟩
abbrev aA(x y:Int)(b:Sd)(M:Mem)(R:DK)(Y:DXK):Prop:=(SzS b∧Wz x y)∧R (.int (wVe (x,y) b)) M
def jC:DSp:=fun ds M R Y=>∃(x y:Int) (b:Sd),ds=[.vl [.int x,.int y],sdD b]∧aA x y b M R Y
theorem lK{x y:Int}{b:Sd}{M:Mem}{R:DK}{Y:DXK}:jC [.vl [.int x,.int y],sdD b] M R Y=(aA x y b M R Y):=propext ⟨fun z=>by obtain⟨_,_,_,_,_⟩:=z;walk_at "inj",fun h=>⟨x,y,b,rfl,h⟩⟩
abbrev jT(p q:Rat)(M:Mem)(R:DK)(Y:DXK):Prop:=(sz p≤1100∧sz q≤1100)∧R (.int ((cb2 p q:Nat):Int)) M
def EU:DSp:=fun ds M R Y=>∃(p q:Rat),ds=[A5 p q]∧jT p q M R Y
theorem uB{p q:Rat}{M:Mem}{R:DK}{Y:DXK}:EU [A5 p q] M R Y=(jT p q M R Y):=propext ⟨fun z=>by obtain⟨_,_,_,_⟩:=z;walk_at "inj",fun h=>⟨p,q,rfl,h⟩⟩
abbrev aD(p q:Rat)(c:Int)(M:Mem)(R:DK)(Y:DXK):Prop:=((sz p≤1100∧sz q≤1100)∧c=((cb2 p q:Nat):Int))∧R (.vl [.int (wtF p q).1,.int (wtF p q).2]) M
def pD:DSp:=fun ds M R Y=>∃(p q:Rat) (c:Int),ds=[A5 p q,.int c]∧aD p q c M R Y
theorem lN{p q:Rat}{c:Int}{M:Mem}{R:DK}{Y:DXK}:pD [A5 p q,.int c] M R Y=(aD p q c M R Y):=propext ⟨fun z=>by obtain⟨_,_,_,_,_⟩:=z;walk_at "inj",fun h=>⟨p,q,c,rfl,h⟩⟩
abbrev jU(half:List Sd)(x y:Int)(M:Mem)(R:DK)(Y:DXK):Prop:=(half.length≤30∧(∀ s∈half,SzS s)∧Wz x y)∧R (Bo (cJ half (x,y))) M
def EV:DSp:=fun ds M R Y=>∃(half:List Sd) (x y:Int),ds=[.vl (half.map sdD),.vl [.int x,.int y]]∧jU half x y M R Y
theorem uC{half:List Sd}{x y:Int}{M:Mem}{R:DK}{Y:DXK}:EV [.vl (half.map sdD),.vl [.int x,.int y]] M R Y=(jU half x y M R Y):=propext ⟨fun z=>by obtain⟨_,_,_,_,_⟩:=z;walk_at "inj",fun h=>⟨half,x,y,rfl,h⟩⟩
abbrev cZ(half:List Sd)(p q:Rat)(M:Mem)(R:DK)(Y:DXK):Prop:=((half.length≤30∧(∀ s∈half,SzS s))∧(sz p≤1100∧sz q≤1100)∧∃ a b,cJ half (wtF p q)=some (a,b)∧(SzS a∧SzS b)∧0<veZ a b∧a.2.2.2.1≠b.2.2.2.1∧(a.2.2.2.2.natAbs<2 ^ 1400∧b.2.2.2.2.natAbs<2 ^ 1400))∧R (fm half p q).toD M
def wj:DSp:=fun ds M R Y=>∃(half:List Sd) (p q:Rat),ds=[.vl (half.map sdD),e8 p,e8 q]∧cZ half p q M R Y
theorem qD{half:List Sd}{p q:Rat}{M:Mem}{R:DK}{Y:DXK}:wj [.vl (half.map sdD),e8 p,e8 q] M R Y=(cZ half p q M R Y):=propext ⟨fun z=>by obtain⟨_,_,_,_,_⟩:=z;walk_at "inj",fun h=>⟨half,p,q,rfl,h⟩⟩
abbrev cY(ls:List T3)(n:Int)(p q:Rat)(M:Mem)(R:DK)(Y:DXK):Prop:=(∃(l:T3) (j:Nat),n=(j:Int)∧ls[j]? = some l∧L28 l∧¬ (p=0∧q=0)∧(sz p≤1100∧sz q≤1100)∧R (A0 l n p q).toD M)
def rN:DSp:=fun ds M R Y=>∃(ls:List T3) (n:Int) (p q:Rat),ds=[.vl (ls.map e9),.int n,e8 p,e8 q]∧cY ls n p q M R Y
theorem qC{ls:List T3}{n:Int}{p q:Rat}{M:Mem}{R:DK}{Y:DXK}:rN [.vl (ls.map e9),.int n,e8 p,e8 q] M R Y=(cY ls n p q M R Y):=propext ⟨fun z=>by obtain⟨_,_,_,_,_,_⟩:=z;walk_at "inj",fun h=>⟨ls,n,p,q,rfl,h⟩⟩
abbrev dc(ls:List T3)(p q:Rat)(M:Mem)(R:DK)(Y:DXK):Prop:=(L9 ls∧sz p≤1100∧sz q≤1100)∧R (F5 ls p q).toD M
def wm:DSp:=fun ds M R Y=>∃(ls:List T3) (p q:Rat),ds=[.vl (ls.map e9),e8 p,e8 q]∧dc ls p q M R Y
theorem qE{ls:List T3}{p q:Rat}{M:Mem}{R:DK}{Y:DXK}:wm [.vl (ls.map e9),e8 p,e8 q] M R Y=(dc ls p q M R Y):=propext ⟨fun z=>by obtain⟨_,_,_,_,_⟩:=z;walk_at "inj",fun h=>⟨ls,p,q,rfl,h⟩⟩
abbrev aP(y u k:Rat)(M:Mem)(R:DK)(Y:DXK):Prop:=(sz y+sz k≤8900∧sz u+sz k≤8900)∧R (A5 (y*k) (u*k)) M
def jO:DSp:=fun ds M R Y=>∃(y u k:Rat),ds=[A5 y u,e8 k]∧aP y u k M R Y
theorem lY{y u k:Rat}{M:Mem}{R:DK}{Y:DXK}:jO [A5 y u,e8 k] M R Y=(aP y u k M R Y):=propext ⟨fun z=>by obtain⟨_,_,_,_,_⟩:=z;walk_at "inj",fun h=>⟨y,u,k,rfl,h⟩⟩
abbrev X0(y u z w:Rat)(M:Mem)(R:DK)(Y:DXK):Prop:=(sz y+sz w+sz z+sz u≤8000)∧R (e8 (y*w - z*u)) M
def jQ:DSp:=fun ds M R Y=>∃(y u z w:Rat),ds=[A5 y u,A5 z w]∧X0 y u z w M R Y
theorem gB{y u z w:Rat}{M:Mem}{R:DK}{Y:DXK}:jQ [A5 y u,A5 z w] M R Y=(X0 y u z w M R Y):=propext ⟨fun z=>by obtain⟨_,_,_,_,_,_⟩:=z;walk_at "inj",fun h=>⟨y,u,z,w,rfl,h⟩⟩
inductive cL
 | needed (z:Zr)
 | idle (sh:List (Int × Rat))
noncomputable def cL.toD:cL→D
 | .needed z=>.tup [.str "needed",rD z]
 | .idle sh=>.tup [.str "idle",.vl (sh.map shD)]
noncomputable def G8(ls:List T3)(k:Nat):List T3:=ls.take k++ls.drop (k+1)
noncomputable def grZ(z:Zr)(k:Rat):Zr:=(z.1*k,z.2*k)
noncomputable def ff(ls:List T3)(k:Nat)(l:T3):cL:=match F5 (G8 ls k) l.1 l.2.1 with
 | .free z=>.needed (grZ z ((l.2.2+l.2.2) / (l.1*z.1+l.2.1*z.2)))
 | .most v z sh=>if l.2.2<v then .needed z else .idle (sh.map fun s=>(if s.1<(k:Int)then s.1 else s.1+1,s.2))
abbrev aJ(ls:List T3)(y u:Rat)(M:Mem)(R:DK)(Y:DXK):Prop:=(ls.length≤12∧(∀ l∈ls,LSz 600 l)∧sz y≤5000∧sz u≤5000)∧R (.bl (C6 ls y u)) M
def pG:DSp:=fun ds M R Y=>∃(ls:List T3) (y u:Rat),ds=[.vl (ls.map e9),A5 y u]∧aJ ls y u M R Y
theorem lS{ls:List T3}{y u:Rat}{M:Mem}{R:DK}{Y:DXK}:pG [.vl (ls.map e9),A5 y u] M R Y=(aJ ls y u M R Y):=propext ⟨fun z=>by obtain⟨_,_,_,_,_⟩:=z;walk_at "inj",fun h=>⟨ls,y,u,rfl,h⟩⟩
abbrev R4(l:T3)(y u:Rat)(M:Mem)(R:DK)(Y:DXK):Prop:=(LSz 600 l∧sz y≤5000∧sz u≤5000)∧R (.bl (G0 l y u)) M
def aH:DSp:=fun ds M R Y=>∃(l:T3) (y u:Rat),ds=[e9 l,A5 y u]∧R4 l y u M R Y
theorem dD{l:T3}{y u:Rat}{M:Mem}{R:DK}{Y:DXK}:aH [e9 l,A5 y u] M R Y=(R4 l y u M R Y):=propext ⟨fun z=>by obtain⟨_,_,_,_,_⟩:=z;walk_at "inj",fun h=>⟨l,y,u,rfl,h⟩⟩
abbrev W7(p q y u:Rat)(M:Mem)(R:DK)(Y:DXK):Prop:=(sz p+sz q+sz y+sz u≤20000)∧R (.tup [.int (fD p q y u),.int (bu p q y u)]) M
def cW:DSp:=fun ds M R Y=>∃(p q y u:Rat),ds=[e8 p,e8 q,A5 y u]∧W7 p q y u M R Y
theorem gw{p q y u:Rat}{M:Mem}{R:DK}{Y:DXK}:cW [e8 p,e8 q,A5 y u] M R Y=(W7 p q y u M R Y):=propext ⟨fun z=>by obtain⟨_,_,_,_,_,_⟩:=z;walk_at "inj",fun h=>⟨p,q,y,u,rfl,h⟩⟩
theorem Gv(p q y u:Rat):bu p q y u≠0:=by
 unfold bu
 exact NY (NY (NY (RM.u6 p) (RM.u6 y)) (RM.u6 q)) (RM.u6 u)
theorem Av(p q y u:Rat):NM (fD p q y u) (bu p q y u)=p*y+q*u:=by
 have e:∀ r:Rat,r=(r.num:Rat) / (r.den:Rat):=fun r=>by
  have:=K3 r
  have h0:(r.den:Rat)≠0:=fun z=>NW r.den_pos (by exact_mod_cast z)
  grind
 have h1:(p.den:Rat)≠0:=fun z=>NW p.den_pos (by exact_mod_cast z)
 have h2:(q.den:Rat)≠0:=fun z=>NW q.den_pos (by exact_mod_cast z)
 have h3:(y.den:Rat)≠0:=fun z=>NW y.den_pos (by exact_mod_cast z)
 have h4:(u.den:Rat)≠0:=fun z=>NW u.den_pos (by exact_mod_cast z)
 have e1:=K3 p
 have e2:=K3 q
 have e3:=K3 y
 have e4:=K3 u
 rw[t9]
 unfold fD bu
 simp only[Po,Nx,Ob]
 rw[← e1,← e2,← e3,← e4]
 generalize (p.den:Rat)=a at *
 generalize (q.den:Rat)=b at *
 generalize (y.den:Rat)=c at *
 generalize (u.den:Rat)=d at *
 have hd:a*c*b*d≠0:=fun z=>by grind
 have:p*a*(y*c)*b*d+q*b*(u*d)*a*c=(p*y+q*u)*(a*c*b*d):=by grind
 rw[this,Pq hd]
theorem zq{h0:Sd}{l:List Sd}{i:Nat}(h:i<l.length):((h0 :: l)[i]'(by rw[NV];omega),l[i])∈(h0 :: l).zip (l++[j4 h0]):=by
 have hz:i<((h0 :: l).zip (l++[j4 h0])).length:=by rw[RG,NV,NX];show i<min _ (l.length+1);omega
 have e:((h0 :: l).zip (l++[j4 h0]))[i]=((h0 :: l)[i]'(by rw[NV];omega),l[i]):=by
  rw[List.getElem_zip,List.getElem_append_left h]
 rw[← e]
 exact Rx _
theorem Cb{ls:List T3}(hok:∀ l∈ls,LineOk l):∀ s∈C3 (f7 ls),s∈f7 ls:=by
 by_cases hne:ls=[]
 ·subst hne;intro s hs;cases hs
 obtain⟨h0,l,e,m0,h⟩:=E9 hok hne
 rw[e]
 intro s hs
 rcases Nh.mp hs with rfl|hs
 ·exact m0
 ·rcases h with⟨rfl,_⟩|⟨_,_,hE⟩
  ·cases hs
  ·obtain⟨i,hi,rfl⟩:=QP.mp hs
   have:=hE _ (zq hi)
   exact this.2.1
theorem xl{q:Rat}:0<q.num↔0<q:=by
 have h1:=cm (-q)
 rw[Qq]at h1
 constructor
 ·intro h;have:=h1.mp (by omega);grind
 ·intro h;have:=h1.mpr (by grind);omega
theorem lE(k:Nat):∀(ls:List T3) (n:Nat),k<n→((ls.zipIdx n).filter fun x=>decide (x.2≠k)).map (·.1)=ls
 | [],_,_=>rfl
 | a :: r,n,h=>by
  rw[OE,NN (by simp;omega),NO,lE k r (n+1) (by omega)]
theorem qt:∀(ls:List T3) (n k:Nat),((ls.zipIdx n).filter fun x=>decide (x.2≠n+k)).map (·.1)=ls.take k++ls.drop (k+1)
 | [],_,_=>by simp
 | a :: r,n,0=>by
  rw[OE,Oe (by simp),Nat.add_zero,lE n r (n+1) (by omega)];simp
 | a :: r,n,k+1=>by
  rw[OE,NN (by simp),NO]
  have:=qt r (n+1) k
  rw[show n+1+k=n+(k+1)by omega]at this
  rw[this];simp
theorem Ce(ls:List T3):P4 (ls.map e9)=ls.zipIdx.map fun x=>.tup [.int (x.2:Int),e9 x.1]:=by
 unfold P4
 rw[List.mapIdx_eq_zipIdx_map,List.zipIdx_map,Of]
 rfl
theorem AR(half:List Sd):half.map sdD++(half.map j4).map sdD=(cA half).map sdD:=by unfold cA;rw[NF]
theorem DA{ls:List T3}(h:L9 ls){a b:Sd}(ha:a∈f7 ls)(hb:b∈f7 ls)(hv:veZ a b≠0):sz (ry (tri a) (tri b)).1≤1601∧sz (ry (tri a) (tri b)).2≤1601:=HI (n:=800) (h.bits a ha) (h.bits b hb) hv
theorem rX{ls:List T3}(h:L9 ls){p q:Rat}{N:Nat}(hp:sz p≤N)(hq:sz q≤N)(hN:600≤N)(hN2:N≤1100) :
  (∀ z,F5 ls p q = .free z→sz z.1≤N∧sz z.2≤N)∧∀ v z sh,F5 ls p q = .most v z sh→sz v≤5410∧(N≤600→sz z.1≤5000∧sz z.2≤5000):=by
 have s1:=RM.oX
 have s0:=RM.au
 unfold F5
 by_cases c:p=0∧q=0
 ·rw[if_pos c]
  refine⟨fun z hz=>(by cases hz),fun v z sh hz=>?_⟩
  cases hz
  exact⟨by show sz 0≤_;omega,fun _=>⟨by show sz 0≤_;omega,by show sz 0≤_;omega⟩⟩
 rw[if_neg c]
 by_cases hne:ls=[]
 ·subst hne
  refine⟨fun z hz=>?_,fun v z sh hz=>by cases hz⟩
  cases hz
  exact⟨hp,hq⟩
 obtain⟨h0,l,e,m0,hh⟩:=E9 h.lo hne
 rw[e]
 cases l with
 | nil =>
  obtain⟨m,j,em,en,eq⟩:=O7 m0
  have hm:=h.2 m (Nq em)
  have z1:=hm.p6
  have z2:=hm.q6
  have z3:=hm.r6
  have mn:=hm.ne
  have e2:∀ o:G1,(match [h0]with|[]=>G1.free (p,q)|[h]=>A0 (ls.getD h.2.2.2.1.toNat (0,0,0)) h.2.2.2.1 p q|half=>fm half p q)=o↔A0 m (j:Int) p q=o:=fun o=>by
   show A0 (ls.getD h0.2.2.2.1.toNat (0,0,0)) h0.2.2.2.1 p q=o↔_
   rw[en,NI,Nz,em];rfl
  refine⟨fun z hz=>?_,fun v z sh hz=>?_⟩
  ·have hz:=(e2 _).mp hz
   unfold A0 at hz
   split at hz
   ·cases hz
    exact⟨by show sz m.2.1≤_;omega,by show sz (-m.1)≤_;rw[RM.T4];omega⟩
   ·split at hz
    ·cases hz
     exact⟨by show sz (-m.2.1)≤_;rw[RM.T4];omega,by show sz m.1≤_;omega⟩
    ·cases hz
  ·have hz:=(e2 _).mp hz
   unfold A0 at hz
   split at hz
   ·cases hz
   ·split at hz
    ·cases hz
    ·have sh:sz (if m.1=0 then q / m.2.1 else p / m.1)≤N+600:=by
      split
      ·rename_i w
       have:=RM.J5 q m.2.1 (fun w2=>mn ⟨w,w2⟩)
       omega
      ·rename_i w
       have:=RM.J5 p m.1 w
       omega
     generalize (if m.1=0 then q / m.2.1 else p / m.1)=s at *
     cases hz
     have a1:=Q0 s
     have a2:=RM.j9 (j0 s) m.2.2
     have sq:=ey c
     have a3:=RM.j9 p p
     have a4:=RM.j9 q q
     have a5:sz (sqZ p q)≤sz (p*p)+sz (q*q)+1:=RM.C9 (p*p) (q*q)
     have a6:=RM.J5 (j0 s*m.2.2) (sqZ p q) (D2 sq)
     have a7:=RM.j9 p (j0 s*m.2.2 / sqZ p q)
     have a8:=RM.j9 q (j0 s*m.2.2 / sqZ p q)
     exact⟨by omega,fun hN=>⟨by show sz (p*_)≤_;omega,by show sz (q*_)≤_;omega⟩⟩
 | cons x l =>
  obtain⟨a,b,ea,A⟩:=V9 h.lo e (mB c)
  obtain⟨v1,_⟩:=lq A
  obtain⟨r1,r2⟩:=DA h A.ma A.mb (by have:=A.ve;omega)
  have e2:∀ o:G1,(match h0 :: x :: l with|[]=>G1.free (p,q)|[h]=>A0 (ls.getD h.2.2.2.1.toNat (0,0,0)) h.2.2.2.1 p q|half=>fm half p q)=o↔G1.most (vlF a b (wtF p q) (cb2 p q)) (ry (tri a) (tri b)) (shF a b (wtF p q) (cb2 p q))=o:=fun o=>by
   show(match cJ (h0 :: x :: l) (wtF p q)with|none=>G1.free (0,0)|some (a,b)=>.most (vlF a b (wtF p q) (cb2 p q)) (ry (tri a) (tri b)) (shF a b (wtF p q) (cb2 p q)))=o↔_
   rw[ea]
  refine⟨fun z hz=>(by have hz:=(e2 _).mp hz;cases hz),fun v z sh hz=>?_⟩
  have hz:=(e2 _).mp hz
  cases hz
  rw[v1]
  have m1:=RM.j9 p (ry (tri a) (tri b)).1
  have m2:=RM.j9 q (ry (tri a) (tri b)).2
  have m3:=RM.C9 (p*(ry (tri a) (tri b)).1) (q*(ry (tri a) (tri b)).2)
  exact⟨by omega,fun _=>⟨by omega,by omega⟩⟩
theorem L9.oth{ls:List T3}(h:L9 ls)(k:Nat):L9 (G8 ls k):=by
 refine⟨?_,fun l hl=>?_⟩
 ·unfold G8
  rw[NX,NU,OD]
  have:=h.1;omega
 ·rcases NL.mp hl with hl|hl
  ·exact h.2 l (Ot hl)
  ·exact h.2 l (OL hl)
theorem mI(l:List (Int × Rat)):(eu l).length=l.length:=by
 unfold eu
 split
 ·split<;>rfl
 ·rfl
theorem BG{ls:List T3}{p q:Rat}{v:Rat}{z:Zr}{sh:List (Int × Rat)}(e:F5 ls p q = .most v z sh):sh.length≤2:=by
 unfold F5 at e
 split at e
 ·cases e;exact Oa _
 ·split at e
  ·cases e
  ·unfold A0 at e
   split at e
   ·cases e
   ·split at e
    ·cases e
    ·cases e;show 1≤2;decide
  ·unfold fm at e
   split at e
   ·cases e
   ·cases e
    unfold shF
    rw[mI]
    exact Nr (OH _ _) (by show 2≤2;decide)
end GM
namespace GM
open PySem PySem.Spec L2 DL
open RM (sz)
structure CP(k:Nat)(ls:List T3):Prop where
 cols:P7 k ls
 pos:∀ l∈ls,0<l.2.2
theorem CP.nil:CP 0 []:=⟨P7.nil,fun _ h=>nomatch h⟩
theorem CP.app{k:Nat}{ls:List T3}{l:T3}(h:CP k ls)(c:P7 (k+1) (ls++[l]))(hp:0<l.2.2):CP (k+1) (ls++[l]):=⟨c,fun m hm=>by
 rcases NL.mp hm with hm|hm
 ·exact h.pos m hm
 ·rw[NS.mp hm];exact hp⟩
theorem X5{k:Nat}{xs:List Rat}(h:Col k xs)(hk:k≤5){x:Rat}(hx:x∈xs):sz x≤262:=by
 obtain⟨B,b0,b1,h⟩:=h
 have:=(h x hx).sz b0 b1
 omega
theorem CP.l28{k:Nat}{ls:List T3}(h:CP k ls)(hk:k≤5):∀ l∈ls,L28 l:=fun l hl =>
 L28.mk3 ⟨(h.cols.ok (by omega) l hl).ne,h.pos l hl⟩ (X5 h.cols.p hk (Nu.mpr ⟨l,hl,rfl⟩)) (X5 h.cols.q hk (Nu.mpr ⟨l,hl,rfl⟩)) (X5 h.cols.r hk (Nu.mpr ⟨l,hl,rfl⟩))
theorem yc{a b:Int}(ha:0<a)(hb:0<b):0<NM a b:=by
 rw[t9]
 have h1:(0:Rat)<(a:Rat):=A4.mpr ha
 have h2:(0:Rat)<(b:Rat):=A4.mpr hb
 exact jW h2 (by rw[Pz,NZ (D2 h2)];exact h1)
local macro_rules|`(tactic| walk_at "inj")=>`(tactic| (rename_i e h;simp only[List.cons.injEq,GM.A1,GM.v7,GM.D1,GM.A7,and_true,true_and,GM.h7,GM.i0,GM.f9,GM.i3,GM.g5,D.tup.injEq,D.ref.injEq,D.int.injEq,D.str.injEq,D.bl.injEq,D.vl.injEq,NG,and_assoc]at e;(repeat(obtain⟨e1,e⟩:=e;subst e1));subst e;exact h))
local macro_rules|`(tactic| walk_at "injs")=>`(tactic| (rename_i e o h;rcases o with o|o<;>(subst o;first|(exfalso;simp only[D.tup.injEq,List.cons.injEq,reduceCtorEq,false_and,and_false]at e;done)|(simp only[List.cons.injEq,GM.A1,GM.v7,GM.D1,GM.A7,and_true,true_and,GM.h7,GM.i0,GM.f9,GM.i3,GM.g5,D.tup.injEq,D.ref.injEq,D.int.injEq,D.str.injEq,D.bl.injEq,D.vl.injEq,NG,and_assoc]at e;(repeat(obtain⟨e1,e⟩:=e;subst e1));subst e;exact h))))
abbrev aG(p:Addr)(M:Mem)(R:DK)(Y:DXK):Prop:=B9 M p∧∀(l:T3) M',LOk 41 l→0<l.2.2→t6 p M M'→R (e9 l) M'
def jK:DSp:=fun ds M R Y=>∃(p:Addr),ds=[.ref p]∧aG p M R Y
theorem lQ{p:Addr}{M:Mem}{R:DK}{Y:DXK}:jK [.ref p] M R Y=(aG p M R Y):=propext ⟨fun z=>by obtain⟨_,_,_⟩:=z;walk_at "inj",fun h=>⟨p,rfl,h⟩⟩
abbrev X2(q r:Rat)(M:Mem)(R:DK)(Y:DXK):Prop:=sz q+sz r≤20000∧R (.bl (decide (q<r))) M
def dh:DSp:=fun ds M R Y=>∃(q r:Rat),ds=[e8 q,e8 r]∧X2 q r M R Y
theorem gD{q r:Rat}{M:Mem}{R:DK}{Y:DXK}:dh [e8 q,e8 r] M R Y=(X2 q r M R Y):=propext ⟨fun z=>by obtain⟨_,_,_,_⟩:=z;walk_at "inj",fun h=>⟨q,r,rfl,h⟩⟩
end GM
namespace DL
open PySem PySem.Spec L2
section
variable {X:Cx} {st:Stmt} {D9:List Stmt} {t u:DTS} {F:Y8} {e:Ev} {M:Mem}
def IH(t u:DTS):DTS:=Gm t u
theorem Ei(h:∀ P:Ev→Mem→Prop,(∀ e' M',u F e' M'→P e' M')→t { F with nx:=P } e M):IH t u F e M:=h _ fun _ _ z=>z
end
end DL
namespace L2
open PySem PySem.Spec PyProof.Rows
def Ju(K:Nd)(ta tb:TE):TE:=fun σ H Q=>ta σ H fun x H1=>∃ l xs,x = .ref l∧SqL K H1 l xs∧if xs.isEmpty=false then Q x H1 else tb σ H1 Q
theorem Fw{X:Cx}{a b:Expr}{D9:List Expr}{pos:Pos}{ta tb:TE}(ha:PE X a ta)(hb:PE X (.BoolOp .Or (b :: D9) pos) tb):PE X (.BoolOp .Or (a :: b :: D9) pos) (Ju X.K ta tb):=by
 intro pins s σ H Q I h
 refine BoolOp_or (thn (ha pins s σ H _ I h) fun v s1 ⟨x,H1,I1,r1,q1⟩=>?_)
 obtain⟨l,xs,rfl,hx,q1⟩:=q1
 obtain rfl:v=Value.ref l:=r1
 obtain⟨its,r,pl,hz⟩:=I1.list hx
 have hlen:=r.length
 have h62:sizeLine<2 ^ 62:=by decide
 refine wpAny_truthy_list pl.isList (by simp only[NA];omega) ?_
 rw[pZ r]
 cases e:xs.isEmpty with
 | true =>
  rw[e]at q1
  rw[if_neg (fun z=>Rz z)]at q1
  exact hb pins _ σ H1 Q (I1.tok _) q1
 | false =>
  rw[e,if_pos rfl]at q1
  exact⟨.ref l,H1,I1.tok _,rfl,q1⟩
end L2
namespace DL
open PySem PySem.Spec L2
def IJ(ta tb:DTE):DTE:=fun e M R=>ta e M fun x M1=>∃ xs,D8 M1 x=some xs∧if xs.isEmpty=false then R x M1 else tb e M1 R
theorem CZ{ta tb:DTE}{e:Ev}{M:Mem}{R:DK}:IJ ta tb e M R=ta e M fun x M1=>∃ xs,D8 M1 x=some xs∧if xs.isEmpty=false then R x M1 else tb e M1 R:=rfl
theorem BR{X:Cx}{a b:Expr}{D9:List Expr}{pos:Pos}{ta tb:DTE}(ha:JE X a ta)(hb:JE X (.BoolOp .Or (b :: D9) pos) tb):JE X (.BoolOp .Or (a :: b :: D9) pos) (IJ ta tb):=⟨have ha:=ha.out;have hb:=hb.out;(Fw ha hb).imp fun σ H Q ⟨e,M,R,ok,am,t,f⟩=>⟨e,M,_,ok,am,t,fun x M1 ⟨xs,hi,h1⟩ v H1 k1 a1 r1=>by
  obtain⟨l,us,rfl,sq,lx⟩:=u9 a1 r1 hi
  refine⟨l,us,rfl,sq,?_⟩
  have he:us.isEmpty=xs.isEmpty:=by
   cases lx with
   | nil=>rfl
   | cons _ _=>rfl
  rw[he]
  cases c:xs.isEmpty with
  | true =>
   rw[c]at h1
   rw[if_neg (fun z=>Rz z)]at h1 ⊢
   exact⟨e,M1,R,ok.mono k1,a1,h1,f.mono k1⟩
  | false =>
   rw[c,if_pos rfl]at h1
   rw[if_pos rfl]
   exact f _ M1 h1 _ H1 k1 a1 r1⟩⟩
def sE:DRC:=fun ds M R=>∃ x ys,ds=[x]∧m9 M x ys∧R (.tup ys) M
theorem yI{X:Cx}:T0 X (.type "tuple") sE:=v9.imp Y7 fun xs H Q ⟨ds,M,R,hl,am,⟨x,ys,z,e,r⟩,f⟩=>by
 subst z
 obtain⟨v,rfl,hv⟩:=hl.one
 have lst:∀{ys:List D},D8 M x=some ys→R (.tup ys) M→∃ p zs,[v]=[V.ref p]∧((SqL X.K H p zs∧∀ l,H l=none→Q (.ref l) (upd H l (.tup zs)))∨(SqT X.K H p zs∧Q (.ref p) H)):=fun{ys} e r=>by
  obtain⟨a,vs,rfl,s,l⟩:=u9 am hv e
  exact⟨a,vs,rfl,.inl ⟨s,fun p hp=>f _ M r _ _ (KT.alloc hp) (am.alloc hp) (.tup (SqT.of i6) (l.mono (KT.alloc hp)))⟩⟩
 rcases e with rfl|⟨p,rfl,m⟩|rfl
 ·have hv':=hv
  cases hv with
  | tup sq lx=>exact⟨_,_,rfl,.inr ⟨sq,f _ M r _ _ (KT.refl H) am hv'⟩⟩
 ·exact lst (by unfold D8;simp only[m]) r
 ·exact lst rfl r
theorem iS{ds:List D}{M:Mem}{R:DK}:sE [.tup ds] M R=R (.tup ds) M:=propext ⟨fun⟨_,_,h,s,r⟩=>by cases h;rw[v6]at s;subst s;exact r,fun r=>⟨_,_,rfl,.inl rfl,r⟩⟩
theorem rf{ds:List D}{M:Mem}{R:DK}:sE [.vl ds] M R=R (.tup ds) M:=propext ⟨fun⟨_,_,h,s,r⟩=>by cases h;rw[t7]at s;subst s;exact r,fun r=>⟨_,_,rfl,.inr (.inr rfl),r⟩⟩
end DL
namespace GM
open PySem PySem.Spec L2 DL
open RM (sz)
structure L24(l:T3):Prop where
 ok:L28 l
 z:LSz 262 l
def bz(ls:List T3):Prop:=ls.length≤12∧∀ l∈ls,L24 l
theorem bz.a{ls:List T3}(h:bz ls):L9 ls:=⟨h.1,fun l hl=>(h.2 l hl).ok⟩
theorem CP.l24{k:Nat}{ls:List T3}(h:CP k ls)(hk:k≤5):∀ l∈ls,L24 l:=fun l hl=>⟨h.l28 hk l hl,X5 h.cols.p hk (Nu.mpr ⟨l,hl,rfl⟩),X5 h.cols.q hk (Nu.mpr ⟨l,hl,rfl⟩),X5 h.cols.r hk (Nu.mpr ⟨l,hl,rfl⟩)⟩
noncomputable def G2(n:Nat):Int→List (Int × Rat)→Bool
 | _,[]=>true
 | a,s :: r=>decide (a<s.1) && decide (s.1<(n:Int)) && decide (s.2≠0) && G2 n s.1 r
theorem AQ{n:Nat}{a:Int}{s:Int × Rat}{r:List (Int × Rat)}(h:¬ (a<s.1∧s.1<(n:Int)∧s.2≠0)):G2 n a (s :: r)=false:=by
 cases e:G2 n a (s :: r)with
 | false=>rfl
 | true =>
  unfold G2 at e
  simp only[NP,decide_eq_true_eq]at e
  exact absurd ⟨e.1.1.1,e.1.1.2,e.1.2⟩ h
theorem O9{n:Nat}{a:Int}{s:Int × Rat}{r:List (Int × Rat)}(h1:a<s.1)(h2:s.1<(n:Int))(h3:s.2≠0):G2 n a (s :: r)=G2 n s.1 r:=by
 rw[G2,decide_eq_true h1,decide_eq_true h2,decide_eq_true h3]
 rfl
noncomputable def shB(n:Nat)(sh:List (Int × Rat)):Bool:=decide (sh.length≤2) && G2 n (-1) sh
theorem EK{n:Nat}{sh:List (Int × Rat)}(h:sh.length≤2)(hz:∀ s∈sh,s.2≠0):shB n sh=(decide (sh.map (·.1)=L2.sd2 (sh.map (·.1))) && (sh.map (·.1)).all fun m=>decide (0≤m) && decide (m<(n:Int))):=by
 unfold shB
 rw[decide_eq_true h,NR]
 match sh,h,hz with
 | [],_,_=>rfl
 | [a],_,hz =>
  have z:=hz a Nk
  show(decide (-1<a.1) && decide (a.1<(n:Int)) && decide (a.2≠0) && true)=(decide ([a.1]=[a.1]) && (decide (0≤a.1) && decide (a.1<(n:Int)) && true))
  rw[decide_eq_true z,decide_eq_true (rfl:[a.1]=[a.1]),Pr,Pr,NR,Pr]
  rw[show decide (-1<a.1)=decide (0≤a.1)from decide_eq_decide.mpr (by omega)]
 | [a,b],_,hz =>
  have z1:=hz a Nk
  have z2:=hz b (by simp)
  show(decide (-1<a.1) && decide (a.1<(n:Int)) && decide (a.2≠0) && (decide (a.1<b.1) && decide (b.1<(n:Int)) && decide (b.2≠0) && true))=(decide ([a.1,b.1]=if a.1=b.1 then[a.1]else if a.1<b.1 then[a.1,b.1]else[b.1,a.1]) && (decide (0≤a.1) && decide (a.1<(n:Int)) && (decide (0≤b.1) && decide (b.1<(n:Int)) && true)))
  rw[decide_eq_true z1,decide_eq_true z2]
  by_cases c:a.1=b.1
  ·rw[if_pos c,decide_eq_false (show ¬ a.1<b.1 by omega),decide_eq_false (show ¬ [a.1,b.1]=[a.1]from fun z=>by simp at z)]
   simp
  ·rw[if_neg c]
   by_cases d:a.1<b.1
   ·rw[if_pos d,decide_eq_true (rfl:[a.1,b.1]=[a.1,b.1]),decide_eq_true d,OM]
    simp only[Pr,NR,NP,decide_eq_true_eq]
    omega
   ·rw[if_neg d,decide_eq_false d,decide_eq_false (show ¬ [a.1,b.1]=[b.1,a.1]from fun z=>c (by injection z))]
    simp
theorem Az{n:Nat}{sh:List (Int × Rat)}(h:∃ s∈sh,s.2=0):shB n sh=false:=by
 have key:∀(sh:List (Int × Rat)) (a:Int),(∃ s∈sh,s.2=0)→G2 n a sh=false:=by
  intro sh
  induction sh with
  | nil=>rintro a ⟨s,hs,_⟩;cases hs
  | cons x r ih =>
   rintro a ⟨s,hs,e⟩
   unfold G2
   rcases Nh.mp hs with rfl|hs
   ·rw[decide_eq_false (show ¬ s.2≠0 from fun z=>z e)]
    simp
   ·rw[ih x.1 ⟨s,hs,e⟩,Pb]
 unfold shB
 rw[key sh _ h,Pb]
theorem nr{n:Nat}:∀{sh:List (Int × Rat)} {a:Int},-1≤a→G2 n a sh=true→∀ s∈sh,0≤s.1∧s.1<(n:Int)∧s.2≠0
 | [],_,_,_,s,hs=>by cases hs
 | x :: r,a,ha,h,s,hs=>by
  unfold G2 at h
  simp only[NP,decide_eq_true_eq]at h
  rcases Nh.mp hs with rfl|hs
  ·exact⟨by omega,h.1.1.2,h.1.2⟩
  ·exact nr (by omega) h.2 s hs
theorem cS{n:Nat}{sh:List (Int × Rat)}(h:shB n sh=true):sh.length≤2∧∀ s∈sh,0≤s.1∧s.1<(n:Int)∧s.2≠0:=by
 unfold shB at h
 rw[NP,decide_eq_true_eq]at h
 exact⟨h.1,nr (by omega) h.2⟩
noncomputable def ad(t:Rat→T3→Rat)(ls:List T3)(sh:List (Int × Rat)):Rat:=sh.foldl (fun acc s=>acc+t s.2 (ls.getD s.1.toNat (0,0,0))) 0
theorem X8(t:Rat→T3→Rat)(ls:List T3)(xs:List (Int × Rat))(s:Int × Rat):ad t ls (xs++[s])=ad t ls xs+t s.2 (ls.getD s.1.toNat (0,0,0)):=by
 unfold ad
 rw[OO]
 rfl
noncomputable def t0(w:Rat)(l:T3):Rat:=w*l.1
noncomputable def t1(w:Rat)(l:T3):Rat:=w*l.2.1
noncomputable def t2(w:Rat)(l:T3):Rat:=j0 w*l.2.2
noncomputable def rwD(a:Int × Int):D:=.tup [.int a.1,.int a.2]
structure Raw(n:Nat)(a:Int × Int)(q:Rat):Prop where
 pos:0<a.2
 val:NM a.1 a.2=q
 s1:a.1.natAbs<2 ^ n
 s2:a.2.natAbs<2 ^ n
noncomputable def ig(a:Int × Int)(x w:Rat):Int × Int:=(a.1*1*x.den*w.den+x.num*w.num*a.2*1,a.2*1*x.den*w.den)
theorem Raw.step{n m k:Nat}{a:Int × Int}{q x w:Rat}(h:Raw n a q)(hx:sz x≤m)(hw:sz w≤k):Raw (n+m+k+1) (ig a x w) (q+w*x):=by
 have dx:=x.den_pos
 have dw:=w.den_pos
 have p1:(0:Int)<(x.den:Int):=by omega
 have p2:(0:Int)<(w.den:Int):=by omega
 have b1:=o8 (o8 h.s1 (Nf (i9 x) (Nl (by decide) hx))) (Nf (i9 w) (Nl (by decide) hw))
 have b2:=o8 (o8 (Nf (m8 x) (Nl (by decide) hx)) (Nf (m8 w) (Nl (by decide) hw))) h.s2
 have b3:=o8 (o8 h.s2 (Nf (i9 x) (Nl (by decide) hx))) (Nf (i9 w) (Nl (by decide) hw))
 refine⟨?_,?_,?_,?_⟩
 ·show 0<a.2*1*x.den*w.den
  rw[Qo]
  exact Pd (Pd h.pos p1) p2
 ·show NM (a.1*1*x.den*w.den+x.num*w.num*a.2*1) (a.2*1*x.den*w.den)=q+w*x
  rw[← h.val]
  have n1:(x.den:Rat)≠0:=fun z=>NW dx (by exact_mod_cast z)
  have n2:(w.den:Rat)≠0:=fun z=>NW dw (by exact_mod_cast z)
  have ex:x=(x.num:Rat) / (x.den:Rat):=by have:=K3 x;grind
  have ew:w=(w.num:Rat) / (w.den:Rat):=by have:=K3 w;grind
  have n3:(a.2:Rat)≠0:=fun z=>by
   have:=h.pos
   have z:a.2=0:=by exact_mod_cast z
   omega
  rw[t9,t9]
  simp only[Po,Nx,Ob,Rat.mul_one,Rat.intCast_one]
  conv=>rhs;rw[ex,ew]
  generalize (x.den:Rat)=A at *
  generalize (w.den:Rat)=B at *
  generalize (a.2:Rat)=C at *
  generalize (x.num:Rat)=X at *
  generalize (w.num:Rat)=W at *
  generalize (a.1:Rat)=V at *
  clear b1 b2 b3 ex ew p1 p2
  have nd:C*A*B≠0:=fun z=>by grind
  have:(V / C+W / B*(X / A))*(C*A*B)=V*A*B+X*W*C:=by grind
  rw[← this,Pq nd]
 ·show(a.1*1*x.den*w.den+x.num*w.num*a.2*1).natAbs<_
  rw[Qo,Qo,Om]
  have t:=Pt (a.1*x.den*w.den) (x.num*w.num*a.2)
  rw[show m+k+n=n+m+k by omega]at b2
  omega
 ·show(a.2*1*x.den*w.den).natAbs<_
  rw[Qo,Om]
  omega
theorem Raw.zero:Raw 1 (0,1) 0:=⟨by decide,by decide +kernel,by decide,by decide⟩
theorem Raw.eq{n:Nat}{a:Int × Int}{q p:Rat}(h:Raw n a q):a.1*(p.den:Int)=p.num*a.2↔q=p:=by
 rw[← h.val]
 conv=>rhs;rhs;rw[← Od p]
 have d:=p.den_pos
 have:=h.pos
 exact(Rat.divInt_eq_divInt_iff (by omega) (by omega)).symm
noncomputable def xV(ls:List T3)(p q:Rat)(z:Zr):Bool:=decide (0<p*z.1+q*z.2) && ls.all fun l=>decide (l.1*z.1+l.2.1*z.2=0)
noncomputable def nS(ls:List T3)(p q v:Rat)(z:Zr)(sh:List (Int × Rat)):Bool:=C6 ls z.1 z.2 && decide (p*z.1+q*z.2=v) && shB ls.length sh && decide (ad t0 ls sh=p∧ad t1 ls sh=q∧ad t2 ls sh=v)
noncomputable def wC(ls:List T3)(p q:Rat):G1→Bool
 | .free z=>xV ls p q z
 | .most v z sh=>nS ls p q v z sh
noncomputable def Jg(M:Mem)(t:D):G1→Prop
 | .free z=>t = .tup [.str "free",A5 z.1 z.2]
 | .most v z sh=>∃ x,t = .tup [.str "most",e8 v,A5 z.1 z.2,x]∧m9 M x (sh.map shD)
structure MSz(m:G1):Prop where
 free:∀ z,m = .free z→sz z.1≤3800∧sz z.2≤3800
 most:∀ v z sh,m = .most v z sh→sz v≤8000∧(sz z.1≤3800∧sz z.2≤3800)∧sh.length≤20∧∀ s∈sh,sz s.2≤3000
theorem sk{M:Mem}{x:D}{ds:List D}(h:m9 M x ds):xr M x=some ds.length:=by
 rcases h with rfl|⟨p,rfl,m⟩|rfl
 ·rfl
 ·unfold xr;simp only[m]
 ·rfl
theorem cR{sh:List (Int × Rat)}{i:Nat}{d:D}(h:(sh.map shD)[i]? = some d):∃ s,sh[i]? = some s∧d=shD s:=by
 rw[ND]at h
 cases e:sh[i]? with
 | none=>rw[e]at h;cases h
 | some s=>rw[e]at h;exact⟨s,rfl,(Option.some.inj h).symm⟩
def big(a:Int):Prop:=a.natAbs<2 ^ 9900
theorem Jd{q:Rat}(h:sz q≤9900):big q.num∧big (q.den:Int):=⟨Nf (m8 q) (Nl (by decide) h),Nf (i9 q) (Nl (by decide) h)⟩
theorem Gy{a:Int × Int}{q:Rat}(h:Raw 9000 a q):big a.1∧big a.2:=⟨Nf h.s1 (Nl (by decide) (by decide)),Nf h.s2 (Nl (by decide) (by decide))⟩
theorem wG(q:Rat):e8 q=rwD (q.num,(q.den:Int)):=rfl
local macro_rules|`(tactic| walk_at "inj")=>`(tactic| (rename_i e h;simp only[List.cons.injEq,GM.A1,GM.v7,GM.D1,GM.A7,and_true,true_and,GM.h7,GM.i0,GM.f9,GM.i3,GM.g5,D.tup.injEq,D.ref.injEq,D.int.injEq,D.str.injEq,D.bl.injEq,D.vl.injEq,NG,and_assoc]at e;(repeat(obtain⟨e1,e⟩:=e;subst e1));subst e;exact h))
local macro_rules|`(tactic| walk_at "injs")=>`(tactic| (rename_i e o h;rcases o with o|o<;>(subst o;first|(exfalso;simp only[D.tup.injEq,List.cons.injEq,reduceCtorEq,false_and,and_false]at e;done)|(simp only[List.cons.injEq,GM.A1,GM.v7,GM.D1,GM.A7,and_true,true_and,GM.h7,GM.i0,GM.f9,GM.i3,GM.g5,D.tup.injEq,D.ref.injEq,D.int.injEq,D.str.injEq,D.bl.injEq,D.vl.injEq,NG,and_assoc]at e;(repeat(obtain⟨e1,e⟩:=e;subst e1));subst e;exact h))))
abbrev aE(x y:D)(M:Mem)(R:DK)(Y:DXK):Prop:=∃ a b:Int × Int,x=rwD a∧y=rwD b∧(big a.1∧big a.2)∧(big b.1∧big b.2)∧R (.bl (decide (a.1*b.2=b.1*a.2))) M
def pE:DSp:=fun ds M R Y=>∃(x y:D),ds=[x,y]∧aE x y M R Y
theorem lP{x y:D}{M:Mem}{R:DK}{Y:DXK}:pE [x,y] M R Y=(aE x y M R Y):=propext ⟨fun z=>by obtain⟨_,_,_,_⟩:=z;walk_at "inj",fun h=>⟨x,y,rfl,h⟩⟩
abbrev W6(d:D)(x w:Rat)(M:Mem)(R:DK)(Y:DXK):Prop:=∃ a:Int × Int,d=rwD a∧(a.1.natAbs<2 ^ 5000∧a.2.natAbs<2 ^ 5000)∧(sz x≤600∧sz w≤3000)∧R (rwD (ig a x w)) M
def jE:DSp:=fun ds M R Y=>∃(d:D) (x w:Rat),ds=[d,e8 x,A5 1 w]∧W6 d x w M R Y
theorem gv{d:D}{x w:Rat}{M:Mem}{R:DK}{Y:DXK}:jE [d,e8 x,A5 1 w] M R Y=(W6 d x w M R Y):=propext ⟨fun z=>by obtain⟨_,_,_,_,_⟩:=z;walk_at "inj",fun h=>⟨d,x,w,rfl,h⟩⟩
abbrev aR(ls:List T3)(x:D)(M:Mem)(R:DK)(Y:DXK):Prop:=∃ sh:List (Int × Rat),m9 M x (sh.map shD)∧ls.length≤12∧R (.bl (shB ls.length sh)) M
def pL:DSp:=fun ds M R Y=>∃(ls:List T3) (x:D),ds=[.vl (ls.map e9),x]∧aR ls x M R Y
theorem md{ls:List T3}{x:D}{M:Mem}{R:DK}{Y:DXK}:pL [.vl (ls.map e9),x] M R Y=(aR ls x M R Y):=propext ⟨fun z=>by obtain⟨_,_,_,_⟩:=z;walk_at "inj",fun h=>⟨ls,x,rfl,h⟩⟩
abbrev aS(ls:List T3)(x:D)(M:Mem)(R:DK)(Y:DXK):Prop:=∃ sh:List (Int × Rat),m9 M x (sh.map shD)∧L9 ls∧shB ls.length sh=true∧(∀ s∈sh,sz s.2≤3000)∧∀ a b c:Int × Int,Raw 9000 a (ad t0 ls sh)→Raw 9000 b (ad t1 ls sh)→Raw 9000 c (ad t2 ls sh)→R (.vl [rwD a,rwD b,rwD c]) M
def pM:DSp:=fun ds M R Y=>∃(ls:List T3) (x:D),ds=[.vl (ls.map e9),x]∧aS ls x M R Y
theorem me{ls:List T3}{x:D}{M:Mem}{R:DK}{Y:DXK}:pM [.vl (ls.map e9),x] M R Y=(aS ls x M R Y):=propext ⟨fun z=>by obtain⟨_,_,_,_⟩:=z;walk_at "inj",fun h=>⟨ls,x,rfl,h⟩⟩
abbrev aQ(ls:List T3)(x:D)(p q:Rat)(M:Mem)(R:DK)(Y:DXK):Prop:=∃ sh:List (Int × Rat),m9 M x (sh.map shD)∧L9 ls∧(∀ s∈sh,sz s.2≤3000)∧(sz p≤1100∧sz q≤1100)∧(¬ (shB ls.length sh=true∧ad t0 ls sh=p∧ad t1 ls sh=q)→R .non M)∧(shB ls.length sh=true∧ad t0 ls sh=p∧ad t1 ls sh=q→∀ c:Int × Int,Raw 9000 c (ad t2 ls sh)→R (rwD c) M)
def pK:DSp:=fun ds M R Y=>∃(ls:List T3) (x:D) (p q:Rat),ds=[.vl (ls.map e9),x,e8 p,e8 q]∧aQ ls x p q M R Y
theorem lZ{ls:List T3}{x:D}{p q:Rat}{M:Mem}{R:DK}{Y:DXK}:pK [.vl (ls.map e9),x,e8 p,e8 q] M R Y=(aQ ls x p q M R Y):=propext ⟨fun z=>by obtain⟨_,_,_,_,_,_⟩:=z;walk_at "inj",fun h=>⟨ls,x,p,q,rfl,h⟩⟩
abbrev nq(ls:List T3)(p q:Rat)(t:D)(M:Mem)(R:DK)(Y:DXK):Prop:=∃ m:G1,Jg M t m∧L9 ls∧(sz p≤1100∧sz q≤1100)∧MSz m∧R (.bl (wC ls p q m)) M
abbrev W5(p q y u:Rat)(M:Mem)(R:DK)(Y:DXK):Prop:=(sz p+sz q+sz y+sz u≤8900)∧R (e8 (p*y+q*u)) M
def jB:DSp:=fun ds M R Y=>∃(p q y u:Rat),ds=[e8 p,e8 q,A5 y u]∧W5 p q y u M R Y
theorem gu{p q y u:Rat}{M:Mem}{R:DK}{Y:DXK}:jB [e8 p,e8 q,A5 y u] M R Y=(W5 p q y u M R Y):=propext ⟨fun z=>by obtain⟨_,_,_,_,_,_⟩:=z;walk_at "inj",fun h=>⟨p,q,y,u,rfl,h⟩⟩
abbrev aI(ls:List T3)(y u:Rat)(M:Mem)(R:DK)(Y:DXK):Prop:=(bz ls∧sz y≤3800∧sz u≤3800)∧R (.bl (C6 ls y u)) M
def pF:DSp:=fun ds M R Y=>∃(ls:List T3) (y u:Rat),ds=[.vl (ls.map e9),A5 y u]∧aI ls y u M R Y
theorem lR{ls:List T3}{y u:Rat}{M:Mem}{R:DK}{Y:DXK}:pF [.vl (ls.map e9),A5 y u] M R Y=(aI ls y u M R Y):=propext ⟨fun z=>by obtain⟨_,_,_,_,_⟩:=z;walk_at "inj",fun h=>⟨ls,y,u,rfl,h⟩⟩
abbrev W9(ls:List T3)(x:D)(M:Mem)(R:DK)(Y:DXK):Prop:=∃ sh:List (Int × Rat),m9 M x (sh.map shD)∧bz ls∧shB ls.length sh=true∧(∀ s∈sh,sz s.2≤3000)∧R (.vl [e8 (ad t0 ls sh),e8 (ad t1 ls sh),e8 (ad t2 ls sh)]) M
def jL:DSp:=fun ds M R Y=>∃(ls:List T3) (x:D),ds=[.vl (ls.map e9),x]∧W9 ls x M R Y
theorem gz{ls:List T3}{x:D}{M:Mem}{R:DK}{Y:DXK}:jL [.vl (ls.map e9),x] M R Y=(W9 ls x M R Y):=propext ⟨fun z=>by obtain⟨_,_,_,_⟩:=z;walk_at "inj",fun h=>⟨ls,x,rfl,h⟩⟩
abbrev de(ls:List T3)(x:D)(M:Mem)(R:DK)(Y:DXK):Prop:=∃ sh:List (Int × Rat),m9 M x (sh.map shD)∧ls.length≤12∧sh.length≤20∧R (.bl (shB ls.length sh)) M
def wo:DSp:=fun ds M R Y=>∃(ls:List T3) (x:D),ds=[.vl (ls.map e9),x]∧de ls x M R Y
theorem qF{ls:List T3}{x:D}{M:Mem}{R:DK}{Y:DXK}:wo [.vl (ls.map e9),x] M R Y=(de ls x M R Y):=propext ⟨fun z=>by obtain⟨_,_,_,_⟩:=z;walk_at "inj",fun h=>⟨ls,x,rfl,h⟩⟩
abbrev W8(p:Addr)(n:Int)(M:Mem)(R:DK)(Y:DXK):Prop:=B9 M p∧(0≤n∧n≤5)∧∀(ls:List T3) M',(ls.length:Int)≤n→(∀ l∈ls,L24 l)→t6 p M M'→R (.vl (ls.map e9)) M'
def jJ:DSp:=fun ds M R Y=>∃(p:Addr) (n:Int),ds=[.ref p,.int n]∧W8 p n M R Y
theorem gy{p:Addr}{n:Int}{M:Mem}{R:DK}{Y:DXK}:jJ [.ref p,.int n] M R Y=(W8 p n M R Y):=propext ⟨fun z=>by obtain⟨_,_,_,_⟩:=z;walk_at "inj",fun h=>⟨p,n,rfl,h⟩⟩
abbrev X1(xs:List D)(n:Int)(M:Mem)(R:DK)(Y:DXK):Prop:=∃(ns:List Int) (k:Nat),n=(k:Int)∧(1≤k∧k≤5)∧xs=ns.map D.int∧ns.length≤63∧∀ ms:List Int,ms.length≤k→R (.vl (ms.map D.int)) M
def jR:DSp:=fun ds M R Y=>∃(xs:List D) (n:Int),ds=[.vl xs,.int n]∧X1 xs n M R Y
theorem gC{xs:List D}{n:Int}{M:Mem}{R:DK}{Y:DXK}:jR [.vl xs,.int n] M R Y=(X1 xs n M R Y):=propext ⟨fun z=>by obtain⟨_,_,_,_⟩:=z;walk_at "inj",fun h=>⟨xs,n,rfl,h⟩⟩
end GM
namespace GM
open PySem PySem.Spec L2 DL
open RM (sz)
theorem vN(q:Rat):sz (q+q)≤sz q+1:=by
 have e:q+q=NM (2*q.num) (q.den:Int):=by
  have d:=q.den_pos
  rw[t9,Nx,Ob]
  have m:=K3 q
  have n1:(q.den:Rat)≠0:=fun z=>NW d (by exact_mod_cast z)
  have two:((2:Int):Rat)=2:=rfl
  rw[two]
  grind
 rw[e]
 refine O2 (by have:=RM.EH q;omega) ?_ ?_ (RM.u6 q)
 ·have:=m8 q
  rw[NQ,Om]
  show 2*q.num.natAbs<_
  omega
 ·have:=i9 q
  rw[Om]
  omega
local macro_rules|`(tactic| walk_at "inj")=>`(tactic| (rename_i e h;simp only[List.cons.injEq,GM.A1,GM.v7,GM.D1,GM.A7,and_true,true_and,GM.h7,GM.i0,GM.f9,GM.i3,GM.g5,D.tup.injEq,D.ref.injEq,D.int.injEq,D.str.injEq,D.bl.injEq,D.vl.injEq,NG,and_assoc]at e;(repeat(obtain⟨e1,e⟩:=e;subst e1));subst e;exact h))
local macro_rules|`(tactic| walk_at "injs")=>`(tactic| (rename_i e o h;rcases o with o|o<;>(subst o;first|(exfalso;simp only[D.tup.injEq,List.cons.injEq,reduceCtorEq,false_and,and_false]at e;done)|(simp only[List.cons.injEq,GM.A1,GM.v7,GM.D1,GM.A7,and_true,true_and,GM.h7,GM.i0,GM.f9,GM.i3,GM.g5,D.tup.injEq,D.ref.injEq,D.int.injEq,D.str.injEq,D.bl.injEq,D.vl.injEq,NG,and_assoc]at e;(repeat(obtain⟨e1,e⟩:=e;subst e1));subst e;exact h))))
structure MSk(k:Nat)(m:G1):Prop where
 free:∀ z,m = .free z→sz z.1≤3710+42*k∧sz z.2≤3710+42*k
 most:∀ v z sh,m = .most v z sh→sz v≤4400+42*k∧(sz z.1≤3710+42*k∧sz z.2≤3710+42*k)∧sh.length≤2+k∧∀ s∈sh,sz s.2≤2700+42*k
theorem MSk.sz{k:Nat}{m:G1}(h:MSk k m)(hk:k≤2):MSz m:=⟨fun z e=>by have:=h.free z e;omega,fun v z sh e=>by obtain⟨a,b,c,d⟩:=h.most v z sh e;exact⟨by omega,by omega,by omega,fun s hs=>by have:=d s hs;omega⟩⟩
abbrev ic(p:Addr)(t:D)(ls:List T3)(M:Mem)(R:DK)(Y:DXK):Prop:=∃(m:G1) (k:Nat),t=m.toD∧B9 M p∧ls.length≤12∧k≤1∧MSk k m∧∀(m':G1) M',MSk (k+1) m'→t6 p M M'→R m'.toD M'
theorem MSk.up{k:Nat}{m:G1}(h:MSk k m):MSk (k+1) m:=⟨fun z e=>by have:=h.free z e;omega,fun v z sh e=>by obtain⟨a,b,c,d⟩:=h.most v z sh e;exact⟨by omega,by omega,by omega,fun s hs=>by have:=d s hs;omega⟩⟩
theorem Ki{p q:Rat}(h1:sz p≤530)(h2:sz q≤530):cb2 p q<2 ^ 1060:=by
 refine NK (kU p q) ?_
 rw[show 1060=530+530 from rfl,Og]
 exact Ov (p8 _ h1) (p8 _ h2)
theorem Jn{p q:Rat}(h1:sz p≤530)(h2:sz q≤530):(wtF p q).1.natAbs<2 ^ 1060∧(wtF p q).2.natAbs<2 ^ 1060:=by
 have e:=kU p q
 have d1:=p8 _ h1
 have d2:=p8 _ h2
 refine⟨?_,?_⟩
 ·show(P9 p (cb2 p q)).natAbs<_
  unfold P9
  rw[NQ,Np,show 1060=530+530 from rfl,Og]
  exact Oj (N0 p h1) (Nr (OK e) (Ou d2)) (Pu (by decide))
 ·show(P9 q (cb2 p q)).natAbs<_
  unfold P9
  rw[NQ,Np,show 1060=530+530 from rfl,Og]
  exact Oj (N0 q h2) (Nr (OK (by rw[OX];exact e)) (Ou d1)) (Pu (by decide))
theorem IW{l:T3}(h:LSz 262 l):cbL l<2 ^ 786:=by
 have e:cbL l≤l.1.den*l.2.1.den*l.2.2.den:=by
  have a:=D5 (B0 (B0 1 l.1.den) l.2.1.den) l.2.2.den
  have b:=D5 (B0 1 l.1.den) l.2.1.den
  have c:=D5 1 l.1.den
  rw[QY]at c
  exact Nr a (Oc _ (Nr b (Oc _ c)))
 refine NK e ?_
 rw[show 786=262+262+262 from rfl,Og,Og]
 exact Ov (Ov (p8 _ h.p) (p8 _ h.q)) (p8 _ h.r)
theorem HH{ls:List T3}(h:bz ls):∀ s∈f7 ls,s.2.2.2.2.natAbs<2 ^ 786:=fun s hs=>by
 obtain⟨l,hl,j,e⟩:=F3 hs
 have:=IW (h.2 l hl).z
 rcases e with rfl|rfl
 ·show((cbL l:Nat):Int).natAbs<_;rw[Np];exact this
 ·show(-((cbL l:Nat):Int)).natAbs<_;rw[Oo,Np];exact this
theorem oY{a b:Int}{n:Nat}(h1:a.natAbs<2 ^ n)(h2:b.natAbs<2 ^ n):(a - b).natAbs<2 ^ (n+1):=by
 have:=Pa a b
 rw[Om]
 omega
theorem Dy{x y c s:Int}(hx:x.natAbs<2 ^ 1861)(hs:s.natAbs<2 ^ 786)(hc:c.natAbs<2 ^ 1060)(hy:y.natAbs<2 ^ 1601)(hn:c*y≠0):sz (NM (x*s) (c*y))≤2700 :=
 O2 (by decide) (Nf (o8 hx hs) (Nl (by decide) (by decide))) (Nf (o8 hc hy) (Nl (by decide) (by decide))) hn
theorem BF{ls:List T3}(h24:bz ls){p q:Rat}(hp:sz p≤530)(hq:sz q≤530):MSk 0 (F5 ls p q):=by
 have h:=h24.a
 have s1:=RM.oX
 have s0:=RM.au
 unfold F5
 by_cases c:p=0∧q=0
 ·rw[if_pos c]
  refine⟨fun z hz=>(by cases hz),fun v z sh hz=>?_⟩
  cases hz
  exact⟨by show sz 0≤_;omega,⟨by show sz 0≤_;omega,by show sz 0≤_;omega⟩,Oa _,fun s hs=>by cases hs⟩
 rw[if_neg c]
 by_cases hne:ls=[]
 ·subst hne
  refine⟨fun z hz=>?_,fun v z sh hz=>by cases hz⟩
  cases hz
  exact⟨by show sz p≤_;omega,by show sz q≤_;omega⟩
 obtain⟨h0,l,e,m0,hh⟩:=E9 h.lo hne
 rw[e]
 cases l with
 | nil =>
  obtain⟨m,j,em,en,eq⟩:=O7 m0
  have hm:=(h24.2 m (Nq em)).z
  have mn:=(h24.2 m (Nq em)).ok.ne
  have z1:=hm.p
  have z2:=hm.q
  have z3:=hm.r
  show MSk 0 (A0 (ls.getD h0.2.2.2.1.toNat (0,0,0)) h0.2.2.2.1 p q)
  rw[en,NI,Nz,em]
  show MSk 0 (A0 m (j:Int) p q)
  unfold A0
  split
  ·refine⟨fun z hz=>?_,fun v z sh hz=>by cases hz⟩
   cases hz
   exact⟨by show sz m.2.1≤_;omega,by show sz (-m.1)≤_;rw[RM.T4];omega⟩
  ·split
   ·refine⟨fun z hz=>?_,fun v z sh hz=>by cases hz⟩
    cases hz
    exact⟨by show sz (-m.2.1)≤_;rw[RM.T4];omega,by show sz m.1≤_;omega⟩
   ·have sh:sz (if m.1=0 then q / m.2.1 else p / m.1)≤792:=by
     split
     ·rename_i w
      have:=RM.J5 q m.2.1 (fun w2=>mn ⟨w,w2⟩)
      omega
     ·rename_i w
      have:=RM.J5 p m.1 w
      omega
    generalize (if m.1=0 then q / m.2.1 else p / m.1)=s at *
    refine⟨fun z hz=>(by cases hz),fun v z sh hz=>?_⟩
    cases hz
    have a1:=Q0 s
    have a2:=RM.j9 (j0 s) m.2.2
    have sq:=ey c
    have a3:=RM.j9 p p
    have a4:=RM.j9 q q
    have a5:sz (sqZ p q)≤sz (p*p)+sz (q*q)+1:=RM.C9 (p*p) (q*q)
    have a6:=RM.J5 (j0 s*m.2.2) (sqZ p q) (D2 sq)
    have a7:=RM.j9 p (j0 s*m.2.2 / sqZ p q)
    have a8:=RM.j9 q (j0 s*m.2.2 / sqZ p q)
    exact⟨by omega,⟨by show sz (p*_)≤_;omega,by show sz (q*_)≤_;omega⟩,by show 1≤_;omega,fun t ht=>by rw[NS.mp ht];show sz s≤_;omega⟩
 | cons x l =>
  obtain⟨a,b,ea,A⟩:=V9 h.lo e (mB c)
  obtain⟨v1,_⟩:=lq A
  have vp:=A.ve
  obtain⟨r1,r2⟩:=DA h A.ma A.mb (by omega)
  show MSk 0 (match cJ (h0 :: x :: l) (wtF p q)with|none=>G1.free (0,0)|some (a,b)=>.most (vlF a b (wtF p q) (cb2 p q)) (ry (tri a) (tri b)) (shF a b (wtF p q) (cb2 p q)))
  rw[ea]
  refine⟨fun z hz=>(by cases hz),fun v z sh hz=>?_⟩
  cases hz
  rw[v1]
  have m1:=RM.j9 p (ry (tri a) (tri b)).1
  have m2:=RM.j9 q (ry (tri a) (tri b)).2
  have m3:=RM.C9 (p*(ry (tri a) (tri b)).1) (q*(ry (tri a) (tri b)).2)
  refine⟨by omega,⟨by omega,by omega⟩,?_,fun t ht=>?_⟩
  ·unfold shF
   rw[mI]
   exact Nr (OH _ _) (by show 2≤2+0;decide)
  ·have hb1:=h.bits a A.ma
   have hb2:=h.bits b A.mb
   obtain⟨w1,w2⟩:=Jn hp hq
   have cc:=Ki hp hq
   have cpos:=br p q
   have hy:(veZ a b).natAbs<2 ^ 1601:=by
    unfold veZ
    exact oY (o8 hb1.1 hb2.2.1) (o8 hb1.2.1 hb2.1)
   have hx1:(wVe (wtF p q) b).natAbs<2 ^ 1861:=by
    unfold wVe
    exact oY (o8 w1 hb2.2.1) (o8 w2 hb2.1)
   have hx2:(veW a (wtF p q)).natAbs<2 ^ 1861:=by
    unfold veW
    have q1:=o8 hb1.1 w2
    have q2:=o8 hb1.2.1 w1
    exact oY (n:=1860) q1 q2
   have hn:((cb2 p q:Nat):Int)*veZ a b≠0:=NY (by omega) (by omega)
   have hc:((cb2 p q:Nat):Int).natAbs<2 ^ 1060:=by rw[Np];exact cc
   have mem:t∈[(a.2.2.2.1,NM (wVe (wtF p q) b*a.2.2.2.2) (cb2 p q*veZ a b)),(b.2.2.2.1,NM (veW a (wtF p q)*b.2.2.2.2) (cb2 p q*veZ a b))]:=by
    have:∀(L:List (Int × Rat)),t∈eu L→t∈L:=fun L h=>by
     unfold eu at h
     split at h
     ·split at h
      ·simp only[Nh,Nv,or_false]at h ⊢
       exact h.symm
      ·exact h
     ·exact h
    exact(QD.mp (this _ ht)).1
   simp only[Nh,Nv,or_false]at mem
   rcases mem with rfl|rfl
   ·exact Dy hx1 (HH h24 a A.ma) hc hy hn
   ·exact Dy hx2 (HH h24 b A.mb) hc hy hn
end GM
namespace GM
open PySem PySem.Spec L2 DL
open RM (sz)
noncomputable def BW(ls:List T3)(k:Nat)(l:T3)(sh:List (Int × Rat)):Bool:=decide (¬ (k:Int)∈sh.map (·.1)) && shB ls.length sh && decide (ad t0 ls sh=l.1∧ad t1 ls sh=l.2.1) && decide (ad t2 ls sh≤l.2.2)
noncomputable def sA(ls:List T3)(k:Nat)(l:T3):cL→Bool
 | .needed z=>C6 (G8 ls k) z.1 z.2 && !G0 l z.1 z.2
 | .idle sh=>BW ls k l sh
noncomputable def lD(M:Mem)(t:D):cL→Prop
 | .needed z=>t = .tup [.str "needed",A5 z.1 z.2]
 | .idle sh=>∃ x,t = .tup [.str "idle",x]∧m9 M x (sh.map shD)
structure ISk(k:Nat)(m:cL):Prop where
 needed:∀ z,m = .needed z→sz z.1≤3710+42*k∧sz z.2≤3710+42*k
 idle:∀ sh,m = .idle sh→sh.length≤2+k∧∀ s∈sh,sz s.2≤2700+42*k
theorem ISk.up{k:Nat}{m:cL}(h:ISk k m):ISk (k+1) m:=⟨fun z e=>by have:=h.needed z e;omega,fun sh e=>by obtain⟨c,d⟩:=h.idle sh e;exact⟨by omega,fun s hs=>by have:=d s hs;omega⟩⟩
theorem wF{n:Nat}{a:Int × Int}{q r:Rat}(h:Raw n a q):r.num*a.2<a.1*(r.den:Int)↔r<q:=by
 rw[← h.val]
 conv=>rhs;lhs;rw[← Od r]
 have d:=r.den_pos
 have p:=h.pos
 have e:=Y6 (a:=a.1) (b:=a.2) (c:=r.num) (d:=(r.den:Int)) p (by omega)
 rw[show NM r.num (r.den:Int)<NM a.1 a.2 ↔ ¬ NM a.1 a.2≤NM r.num (r.den:Int)from RR.symm,e]
 omega
theorem sx(k:Int):∀ ns:List Int,inV (.int k) (ns.map V.int)=decide (k∈ns)
 | []=>rfl
 | n :: ns=>by
  have ih:=sx k ns
  rw[NO]
  have e:inV (.int k) (V.int n :: ns.map V.int)=((n == k) || inV (.int k) (ns.map V.int)):=by
   unfold inV
   rw[QZ]
   rfl
  rw[e,ih,OM]
  simp only[RO,beq_iff_eq,decide_eq_true_eq,Nh]
  constructor
  ·rintro(h|h)
   ·exact .inl h.symm
   ·exact .inr h
  ·rintro(h|h)
   ·exact .inl h.symm
   ·exact .inr h
theorem yV{k:Int}{ns:List Int}{M:Mem}{R:DK}(r:R (.bl (decide (k∈ns))) M):gIn false (.int k) (.vl (ns.map D.int)) M R :=
 ⟨.int k,ns.map D.int,ns.map V.int,rfl,by simp only[t7],by rw[Of,Of];rfl,by rw[if_neg (by decide),sx];exact r⟩
theorem ke{ls:List T3}(h:bz ls)(k:Nat):bz (G8 ls k):=by
 refine⟨(h.a.oth k).1,fun l hl=>?_⟩
 unfold G8 at hl
 rcases NL.mp hl with h1|h1
 ·exact h.2 l (Ot h1)
 ·exact h.2 l (OL h1)
theorem BY{ls:List T3}(h:bz ls){k:Nat}{l:T3}(hl:ls[k]? = some l):ISk 0 (ff ls k l):=by
 have ok:=h.2 l (Nq hl)
 obtain⟨z1,z2,z3⟩:=ok.z
 have r0:=ok.ok.pos
 have ms:=BF (ke h k) (p:=l.1) (q:=l.2.1) (by omega) (by omega)
 have mm:=X3 (ke h k).a.lo l.1 l.2.1
 obtain⟨s1,_⟩:=rX (ke h k).a (p:=l.1) (q:=l.2.1) (N:=600) (by omega) (by omega) (Ny _) (by decide)
 unfold ff
 cases e:F5 (G8 ls k) l.1 l.2.1 with
 | free z =>
  rw[e]at ms mm
  obtain⟨y1,y2⟩:=s1 z e
  obtain⟨_,_,_,f4,_⟩:=mm.free z rfl
  have m1:=RM.j9 l.1 z.1
  have m2:=RM.j9 l.2.1 z.2
  have m3:=RM.C9 (l.1*z.1) (l.2.1*z.2)
  have m4:=vN l.2.2
  have m5:=RM.J5 (l.2.2+l.2.2) (l.1*z.1+l.2.1*z.2) (D2 f4)
  have m6:=RM.j9 z.1 ((l.2.2+l.2.2) / (l.1*z.1+l.2.1*z.2))
  have m7:=RM.j9 z.2 ((l.2.2+l.2.2) / (l.1*z.1+l.2.1*z.2))
  refine⟨fun w hw=>?_,fun sh hs=>by cases hs⟩
  cases hw
  exact⟨by show sz (z.1*_)≤_;omega,by show sz (z.2*_)≤_;omega⟩
 | most v z sh =>
  rw[e]at ms
  obtain⟨_,zz,zl,zs⟩:=ms.most v z sh rfl
  show ISk 0 (if l.2.2<v then .needed z else .idle (sh.map fun s=>(if s.1<(k:Int)then s.1 else s.1+1,s.2)))
  split
  ·refine⟨fun w hw=>?_,fun sh hs=>by cases hs⟩
   cases hw
   exact zz
  ·refine⟨fun w hw=>(by cases hw),fun s hs=>?_⟩
   cases hs
   refine⟨by rw[Nm];exact zl,fun s hs=>?_⟩
   obtain⟨s0,h0,rfl⟩:=Nu.mp hs
   exact zs s0 h0
local macro_rules|`(tactic| walk_at "inj")=>`(tactic| (rename_i e h;simp only[List.cons.injEq,GM.A1,GM.v7,GM.D1,GM.A7,and_true,true_and,GM.h7,GM.i0,GM.f9,GM.i3,GM.g5,D.tup.injEq,D.ref.injEq,D.int.injEq,D.str.injEq,D.bl.injEq,D.vl.injEq,NG,and_assoc]at e;(repeat(obtain⟨e1,e⟩:=e;subst e1));subst e;exact h))
local macro_rules|`(tactic| walk_at "injs")=>`(tactic| (rename_i e o h;rcases o with o|o<;>(subst o;first|(exfalso;simp only[D.tup.injEq,List.cons.injEq,reduceCtorEq,false_and,and_false]at e;done)|(simp only[List.cons.injEq,GM.A1,GM.v7,GM.D1,GM.A7,and_true,true_and,GM.h7,GM.i0,GM.f9,GM.i3,GM.g5,D.tup.injEq,D.ref.injEq,D.int.injEq,D.str.injEq,D.bl.injEq,D.vl.injEq,NG,and_assoc]at e;(repeat(obtain⟨e1,e⟩:=e;subst e1));subst e;exact h))))
abbrev aK(q:Rat)(d:D)(M:Mem)(R:DK)(Y:DXK):Prop:=∃ a:Int × Int,d=rwD a∧(big a.1∧big a.2)∧sz q≤1100∧R (.bl (decide (q.num*a.2<a.1*(q.den:Int)))) M
def pH:DSp:=fun ds M R Y=>∃(q:Rat) (d:D),ds=[e8 q,d]∧aK q d M R Y
theorem lT{q:Rat}{d:D}{M:Mem}{R:DK}{Y:DXK}:pH [e8 q,d] M R Y=(aK q d M R Y):=propext ⟨fun z=>by obtain⟨_,_,_,_⟩:=z;walk_at "inj",fun h=>⟨q,d,rfl,h⟩⟩
abbrev jG(ls:List T3)(k:Nat)(x:D)(M:Mem)(R:DK)(Y:DXK):Prop:=∃(sh:List (Int × Rat)) (l:T3),m9 M x (sh.map shD)∧L9 ls∧ls[k]? = some l∧sh.length≤20∧(∀ s∈sh,sz s.2≤3000)∧R (.bl (BW ls k l sh)) M
def EN:DSp:=fun ds M R Y=>∃(ls:List T3) (k:Nat) (x:D),ds=[.vl (ls.map e9),.int (k:Int),x]∧jG ls k x M R Y
theorem uo{ls:List T3}{k:Nat}{x:D}{M:Mem}{R:DK}{Y:DXK}:EN [.vl (ls.map e9),.int (k:Int),x] M R Y=(jG ls k x M R Y):=propext ⟨fun z=>by obtain⟨_,_,_,_,_⟩:=z;walk_at "inj",fun h=>⟨ls,k,x,rfl,h⟩⟩
abbrev aN(ls:List T3)(k:Nat)(t:D)(M:Mem)(R:DK)(Y:DXK):Prop:=∃(m:cL) (l:T3),lD M t m∧L9 ls∧ls[k]? = some l∧ISk 2 m∧R (.bl (sA ls k l m)) M
def pJ:DSp:=fun ds M R Y=>∃(ls:List T3) (k:Nat) (t:D),ds=[.vl (ls.map e9),.int (k:Int),t]∧aN ls k t M R Y
theorem lW{ls:List T3}{k:Nat}{t:D}{M:Mem}{R:DK}{Y:DXK}:pJ [.vl (ls.map e9),.int (k:Int),t] M R Y=(aN ls k t M R Y):=propext ⟨fun z=>by obtain⟨_,_,_,_,_⟩:=z;walk_at "inj",fun h=>⟨ls,k,t,rfl,h⟩⟩
abbrev R5(ls:List T3)(k:Nat)(t:D)(M:Mem)(R:DK)(Y:DXK):Prop:=∃(m:cL) (l:T3),lD M t m∧bz ls∧ls[k]? = some l∧ISk 2 m∧R (.bl (sA ls k l m)) M
def eL:DSp:=fun ds M R Y=>∃(ls:List T3) (k:Nat) (t:D),ds=[.vl (ls.map e9),.int (k:Int),t]∧R5 ls k t M R Y
theorem dE{ls:List T3}{k:Nat}{t:D}{M:Mem}{R:DK}{Y:DXK}:eL [.vl (ls.map e9),.int (k:Int),t] M R Y=(R5 ls k t M R Y):=propext ⟨fun z=>by obtain⟨_,_,_,_,_⟩:=z;walk_at "inj",fun h=>⟨ls,k,t,rfl,h⟩⟩
theorem GB{ls:List T3}(h:bz ls){sh:List (Int × Rat)}(hb:shB ls.length sh=true)(hz:∀ s∈sh,sz s.2≤3000):sz (ad t2 ls sh)≤7000:=by
 obtain⟨h2,hm⟩:=cS hb
 have one:∀ s∈sh,sz (t2 s.2 (ls.getD s.1.toNat (0,0,0)))≤3262:=fun s hs=>by
  obtain⟨a,b,c⟩:=hm s hs
  have hj:ls[s.1.toNat]? = some (ls[s.1.toNat]'(by omega)):=NB (by omega)
  rw[Nz,hj]
  have:=(h.2 _ (Nq hj)).z.r
  have m:=RM.j9 (j0 s.2) (ls[s.1.toNat]'(by omega)).2.2
  have e:=Q0 s.2
  have f:=hz s hs
  show sz (j0 s.2*(ls[s.1.toNat]'(by omega)).2.2)≤_
  omega
 have s0:=RM.au
 match sh,h2,one with
 | [],_,_=>show sz 0≤_;omega
 | [a],_,one =>
  have o:=one a Nk
  have:=RM.C9 0 (t2 a.2 (ls.getD a.1.toNat (0,0,0)))
  show sz (0+t2 a.2 (ls.getD a.1.toNat (0,0,0)))≤_
  omega
 | [a,b],_,one =>
  have o:=one a Nk
  have o2:=one b (by simp)
  have p1:=RM.C9 0 (t2 a.2 (ls.getD a.1.toNat (0,0,0)))
  have p2:=RM.C9 (0+t2 a.2 (ls.getD a.1.toNat (0,0,0))) (t2 b.2 (ls.getD b.1.toNat (0,0,0)))
  show sz (0+t2 a.2 (ls.getD a.1.toNat (0,0,0))+t2 b.2 (ls.getD b.1.toNat (0,0,0)))≤_
  omega
theorem yr{ds:List D}{n:Nat}:O4 ds (some (n:Int)) none=ds.drop n:=by
 unfold O4
 rw[HT.AJ,HT.wt]
 by_cases h:n≤ds.length
 ·rw[RN h,OB (by rw[OD];omega)]
 ·rw[Ry (by omega),QC (by omega),QC (by omega),List.take_nil]
theorem FK{l:T3}(h:LOk 41 l)(h0:0<l.2.2):∀ m∈[l],L24 m:=(CP.nil.app (P7.nil.new h) h0).l24 (by decide)
end GM
namespace GM
open PySem PySem.Spec L2 DL
open RM (sz)
theorem oV(l:T3):t0 0 l=0∧t1 0 l=0∧t2 0 l=0:=by
 have:j0 0=0:=by decide +kernel
 unfold t0 t1 t2
 rw[this]
 exact⟨by grind,by grind,by grind⟩
theorem Ez{n:Nat}{i j:Int}{r1 r2:Rat}(hi:0≤i∧i<n)(hj:0≤j∧j<n)(hn:i≠j):shB n (eu ([(i,r1),(j,r2)].filter fun s=>decide (s.2≠0)))=true ∧
  ∀(t:Rat→T3→Rat) (ls:List T3),(∀ l,t 0 l=0)→ad t ls (eu ([(i,r1),(j,r2)].filter fun s=>decide (s.2≠0)))=t r1 (ls.getD i.toNat (0,0,0))+t r2 (ls.getD j.toNat (0,0,0)):=by
 have one:∀(k:Int) (r:Rat),0≤k∧k<n→r≠0→shB n [(k,r)]=true:=fun k r hk hr=>by
  unfold shB
  rw[decide_eq_true (show([(k,r)]:List (Int × Rat)).length≤2 from Pe 1),NR,O9 (by show -1<k;omega) hk.2 hr]
  rfl
 have two:∀(k m:Int) (r s:Rat),0≤k∧k<n→0≤m∧m<n→k<m→r≠0→s≠0→shB n [(k,r),(m,s)]=true:=fun k m r s hk hm hkm hr hs=>by
  unfold shB
  rw[decide_eq_true (show([(k,r),(m,s)]:List (Int × Rat)).length≤2 from Ny 2),NR,O9 (by show -1<k;omega) hk.2 hr,O9 hkm hm.2 hs]
  rfl
 have ad1:∀(t:Rat→T3→Rat) (ls:List T3) (k:Int) (r:Rat),ad t ls [(k,r)]=t r (ls.getD k.toNat (0,0,0)):=fun t ls k r=>by
  show 0+t r (ls.getD k.toNat (0,0,0))=_
  rw[Pg]
 have ad2:∀(t:Rat→T3→Rat) (ls:List T3) (k m:Int) (r s:Rat),ad t ls [(k,r),(m,s)]=t r (ls.getD k.toNat (0,0,0))+t s (ls.getD m.toNat (0,0,0)):=fun t ls k m r s=>by
  show 0+t r (ls.getD k.toNat (0,0,0))+t s (ls.getD m.toNat (0,0,0))=_
  rw[Pg]
 by_cases c1:r1=0
 ·by_cases c2:r2=0
  ·have e:([(i,r1),(j,r2)]:List (Int × Rat)).filter (fun s=>decide (s.2≠0))=[]:=by simp[c1,c2]
   rw[e]
   refine⟨rfl,fun t ls h0=>?_⟩
   rw[c1,c2,h0,h0]
   show(0:Rat)=0+0
   rw[Pg]
  ·have e:([(i,r1),(j,r2)]:List (Int × Rat)).filter (fun s=>decide (s.2≠0))=[(j,r2)]:=by simp[c1,c2]
   rw[e]
   refine⟨one j r2 hj c2,fun t ls h0=>?_⟩
   show ad t ls [(j,r2)]=_
   rw[ad1,c1,h0,Pg]
 ·by_cases c2:r2=0
  ·have e:([(i,r1),(j,r2)]:List (Int × Rat)).filter (fun s=>decide (s.2≠0))=[(i,r1)]:=by simp[c1,c2]
   rw[e]
   refine⟨one i r1 hi c1,fun t ls h0=>?_⟩
   show ad t ls [(i,r1)]=_
   rw[ad1,c2,h0,Qc]
  ·have e:([(i,r1),(j,r2)]:List (Int × Rat)).filter (fun s=>decide (s.2≠0))=[(i,r1),(j,r2)]:=by simp[c1,c2]
   rw[e]
   by_cases d:j<i
   ·have e2:eu [(i,r1),(j,r2)]=[(j,r2),(i,r1)]:=by show(if j<i then _ else _)=_;rw[if_pos d]
    rw[e2]
    exact⟨two j i r2 r1 hj hi d c2 c1,fun t ls _=>by rw[ad2,Rat.add_comm]⟩
   ·have e2:eu [(i,r1),(j,r2)]=[(i,r1),(j,r2)]:=by show(if j<i then _ else _)=_;rw[if_neg d]
    rw[e2]
    exact⟨two i j r1 r2 hi hj (by omega) c1 c2,fun t ls _=>ad2 t ls i j r1 r2⟩
theorem hV{ls:List T3}{s:Sd}(hok:∀ l∈ls,LineOk l)(hs:s∈f7 ls):∃(l:T3) (j:Nat),ls[j]? = some l∧s.2.2.2.1=(j:Int)∧(tri s).1=l.1*(s.2.2.2.2:Rat)∧(tri s).2.1=l.2.1*(s.2.2.2.2:Rat)∧(tri s).2.2=l.2.2*j0 (s.2.2.2.2:Rat):=by
 obtain⟨l,j,e,en,q⟩:=O7 hs
 have ts:=C8 l j
 have cp:(0:Rat)<(cbL l:Rat):=F8 l
 refine⟨l,j,e,en,?_⟩
 rcases q with rfl|rfl
 ·have sc:(((h9 l j).2.2.2.2:Int):Rat)=(cbL l:Rat):=by show(((cbL l:Nat):Int):Rat)=_;rw[Ob]
  rw[sc,ts]
  refine⟨rfl,rfl,?_⟩
  rcases B2 (cbL l:Rat)with⟨_,w⟩|⟨h,_⟩
  ·rw[w]
  ·grind
 ·have sc:(((j4 (h9 l j)).2.2.2.2:Int):Rat) = -(cbL l:Rat):=by show((-((cbL l:Nat):Int):Int):Rat)=_;rw[Pp,Ob]
  rw[sc,D3,ts]
  refine⟨?_,?_,?_⟩
  ·show -(l.1*(cbL l:Rat))=_;grind
  ·show -(l.2.1*(cbL l:Rat))=_;grind
  ·show l.2.2*(cbL l:Rat)=_
   rcases B2 (-(cbL l:Rat))with⟨h,_⟩|⟨_,w⟩
   ·grind
   ·rw[w];grind
theorem oJ(x y:Rat):j0 (x*y)=j0 x*j0 y:=by
 rcases B2 x with⟨h1,e1⟩|⟨h1,e1⟩<;>rcases B2 y with⟨h2,e2⟩|⟨h2,e2⟩<;>rw[e1,e2]
 ·have:=NH h1 h2
  rcases B2 (x*y)with⟨h,e⟩|⟨h,e⟩
  ·exact e
  ·grind
 ·have:=NH h1 (show 0 ≤ -y by grind)
  rcases B2 (x*y)with⟨h,e⟩|⟨h,e⟩
  ·rw[e];grind
  ·rw[e];grind
 ·have:=NH (show 0 ≤ -x by grind) h2
  rcases B2 (x*y)with⟨h,e⟩|⟨h,e⟩
  ·rw[e];grind
  ·rw[e];grind
 ·have:=NH (show 0 ≤ -x by grind) (show 0 ≤ -y by grind)
  rcases B2 (x*y)with⟨h,e⟩|⟨h,e⟩
  ·rw[e];grind
  ·grind
theorem yO{x:Rat}(h:0≤x):j0 x=x:=by
 rcases B2 x with⟨_,e⟩|⟨h2,_⟩
 ·exact e
 ·grind
theorem oI(x y d:Rat):(x+y) / d=x / d+y / d:=by rw[OZ,OZ,OZ,Rat.add_mul]
theorem aw{x s d:Rat}(hx:0≤x)(hd:0<d){P L:Rat}(e:P=L*s):x*s / d*L=x*P / d:=by
 rw[e]
 have n:=D2 hd
 have:x*s / d*L*d=x*(L*s):=by
  have:=NZ (a:=x*s) n
  grind
 have h2:=NZ (a:=x*(L*s)) n
 grind
theorem rK{x s d:Rat}(hx:0≤x)(hd:0<d){P L:Rat}(e:P=L*j0 s):j0 (x*s / d)*L=x*P / d:=by
 have n:=D2 hd
 have e1:j0 (x*s / d)=x*j0 s / d:=by
  rw[OZ,oJ,oJ,yO hx,yO (R9 (Rat.inv_pos.mpr hd)),← OZ]
 rw[e1]
 exact aw hx hd e
theorem BH{ls:List T3}(hok:∀ l∈ls,LineOk l)(p q:Rat):wC ls p q (F5 ls p q)=true:=by
 have mm:=X3 hok p q
 cases e:F5 ls p q with
 | free z =>
  obtain⟨h1,h2,h3,h4,h5⟩:=mm.free z e
  show xV ls p q z=true
  unfold xV
  rw[decide_eq_true h4,NR,OF]
  exact fun l hl=>decide_eq_true (h3 l hl)
 | most v z sh =>
  obtain⟨h1,h2,h3,h4⟩:=mm.most v z sh e
  show nS ls p q v z sh=true
  unfold nS
  rw[h1,decide_eq_true h2.symm,NR,NR,NP,decide_eq_true_eq]
  unfold F5 at e
  by_cases c:p=0∧q=0
  ·rw[if_pos c]at e
   cases e
   exact⟨rfl,c.1.symm,c.2.symm,rfl⟩
  rw[if_neg c]at e
  by_cases hne:ls=[]
  ·subst hne;cases e
  obtain⟨h0,l,eh,m0,hh⟩:=E9 hok hne
  rw[eh]at e
  cases l with
  | nil =>
   obtain⟨m,j,em,en,eq⟩:=O7 m0
   have hm:=Nq em
   have mn:=(hok m hm).ne
   have hj:j<ls.length:=(Nw.mp em).1
   have e:A0 (ls.getD h0.2.2.2.1.toNat (0,0,0)) h0.2.2.2.1 p q = .most v z sh:=e
   rw[en,NI,Nz,em]at e
   have e:A0 m (j:Int) p q = .most v z sh:=e
   unfold A0 at e
   by_cases c1:m.1*q - p*m.2.1<0
   ·rw[if_pos c1]at e;cases e
   rw[if_neg c1]at e
   by_cases c2:0<m.1*q - p*m.2.1
   ·rw[if_pos c2]at e;cases e
   rw[if_neg c2]at e
   have c0:m.1*q - p*m.2.1=0:=by grind
   obtain⟨s,es,ep,eq⟩:∃ s:Rat,(if m.1=0 then q / m.2.1 else p / m.1)=s∧p=s*m.1∧q=s*m.2.1:=by
    by_cases z:m.1=0
    ·have n2:m.2.1≠0:=fun w=>mn ⟨z,w⟩
     rw[if_pos z]
     refine⟨q / m.2.1,rfl,?_,?_⟩
     ·rw[z]at c0 ⊢
      have:p*m.2.1=0:=by grind
      grind
     ·grind
    ·rw[if_neg z]
     exact⟨p / m.1,rfl,by grind,by grind⟩
   rw[es]at e
   have s0:s≠0:=fun w=>c ⟨by rw[ep,w];grind,by rw[eq,w];grind⟩
   cases e
   have gj:ls.getD ((j:Int)).toNat (0,0,0)=m:=by rw[NI,Nz,em];rfl
   refine⟨?_,?_,?_,?_⟩
   ·unfold shB
    rw[decide_eq_true (show([((j:Int),s)]:List (Int × Rat)).length≤2 from Pe 1),NR,O9 (by show -1<(j:Int);omega) (by show(j:Int)<_;omega) s0]
    rfl
   ·show 0+t0 s (ls.getD ((j:Int)).toNat (0,0,0))=p
    rw[gj,Pg];exact ep.symm
   ·show 0+t1 s (ls.getD ((j:Int)).toNat (0,0,0))=q
    rw[gj,Pg];exact eq.symm
   ·show 0+t2 s (ls.getD ((j:Int)).toNat (0,0,0))=_
    rw[gj,Pg];rfl
  | cons x l =>
   obtain⟨a,b,ea,A⟩:=V9 hok eh (mB c)
   have e:(match cJ (h0 :: x :: l) (wtF p q)with|none=>G1.free (0,0)|some (a,b)=>.most (vlF a b (wtF p q) (cb2 p q)) (ry (tri a) (tri b)) (shF a b (wtF p q) (cb2 p q))) = .most v z sh:=e
   rw[ea]at e
   obtain⟨la,i,ei,ni,a1,a2,a3⟩:=hV hok A.ma
   obtain⟨lb,j,ej,nj,b1,b2,b3⟩:=hV hok A.mb
   have hi:=(Nw.mp ei).1
   have hj:=(Nw.mp ej).1
   have hn:a.2.2.2.1≠b.2.2.2.1:=rW A.ma A.mb (by have:=A.ve;omega)
   obtain⟨w1,w2⟩:=iU p q
   have cc:(0:Rat)<(cb2 p q:Rat):=by exact_mod_cast br p q
   have V:(0:Rat)<ve (tri a) (tri b):=by rw[w6];exact A4.mpr A.ve
   have ka:(0:Rat)≤ve (tri a) (wT (wtF p q)):=by rw[oR];exact oz.mpr A.ka
   have kb:(0:Rat)<ve (wT (wtF p q)) (tri b):=by rw[oQ];exact A4.mpr A.kb
   have hd:(0:Rat)<(cb2 p q:Rat)*ve (tri a) (tri b):=OY cc V
   have d1:NM (wVe (wtF p q) b*a.2.2.2.2) (cb2 p q*veZ a b)=ve (wT (wtF p q)) (tri b)*(a.2.2.2.2:Rat) / ((cb2 p q:Rat)*ve (tri a) (tri b)):=by
    rw[t9,Nx,Nx,Ob,← w6,← oQ]
   have d2:NM (veW a (wtF p q)*b.2.2.2.2) (cb2 p q*veZ a b)=ve (tri a) (wT (wtF p q))*(b.2.2.2.2:Rat) / ((cb2 p q:Rat)*ve (tri a) (tri b)):=by
    rw[t9,Nx,Nx,Ob,← w6,← oR]
   have d3:vlF a b (wtF p q) (cb2 p q)=(ve (wT (wtF p q)) (tri b)*(tri a).2.2+ve (tri a) (wT (wtF p q))*(tri b).2.2) / ((cb2 p q:Rat)*ve (tri a) (tri b)):=by
    unfold vlF
    rw[t9,Po,Nx,Nx,Nx,Ob,← w6,← oQ,← oR]
    rfl
   cases e
   unfold shF
   rw[d1,d2,d3]
   obtain⟨t1',t2'⟩:=Ez (n:=ls.length) (i:=a.2.2.2.1) (j:=b.2.2.2.1) (r1:=ve (wT (wtF p q)) (tri b)*(a.2.2.2.2:Rat) / ((cb2 p q:Rat)*ve (tri a) (tri b))) (r2:=ve (tri a) (wT (wtF p q))*(b.2.2.2.2:Rat) / ((cb2 p q:Rat)*ve (tri a) (tri b))) (by rw[ni];omega) (by rw[nj];omega) hn
   have gi:ls.getD a.2.2.2.1.toNat (0,0,0)=la:=by rw[ni,NI,Nz,ei];rfl
   have gj:ls.getD b.2.2.2.1.toNat (0,0,0)=lb:=by rw[nj,NI,Nz,ej];rfl
   have n:=D2 hd
   have fin:∀ X Y Z:Rat,(X+Y)=Z*((cb2 p q:Rat)*ve (tri a) (tri b))→X / ((cb2 p q:Rat)*ve (tri a) (tri b))+Y / ((cb2 p q:Rat)*ve (tri a) (tri b))=Z:=fun X Y Z h=>by
    rw[← oI,h,Pq n]
   refine⟨t1',?_,?_,?_⟩
   ·rw[t2' t0 ls fun l=>(oV l).1,gi,gj]
    unfold t0
    rw[aw (R9 kb) hd a1,aw ka hd b1]
    refine fin _ _ _ ?_
    have wt1:(wT (wtF p q)).1=p*(cb2 p q:Rat):=w1
    unfold ve
    generalize (wT (wtF p q)).2.1=W2 at *
    rw[wt1]
    grind
   ·rw[t2' t1 ls fun l=>(oV l).2.1,gi,gj]
    unfold t1
    rw[aw (R9 kb) hd a2,aw ka hd b2]
    refine fin _ _ _ ?_
    have wt2:(wT (wtF p q)).2.1=q*(cb2 p q:Rat):=w2
    unfold ve
    generalize (wT (wtF p q)).1=W1 at *
    rw[wt2]
    grind
   ·rw[t2' t2 ls fun l=>(oV l).2.2,gi,gj]
    unfold t2
    rw[rK (R9 kb) hd a3,rK ka hd b3,← oI]
def Ef(m:G1)(M:Mem)(R:DK):Prop:=match m with
 | .free z=>R (.tup [.str "free",A5 z.1 z.2]) M
 | .most v z sh=>∀ l,M l=none→R (.tup [.str "most",e8 v,A5 z.1 z.2,.ref l]) (C1 M l (.lst (sh.map shD)))
local macro_rules|`(tactic| walk_at "inj")=>`(tactic| (rename_i e h;simp only[List.cons.injEq,GM.A1,GM.v7,GM.D1,GM.A7,and_true,true_and,GM.h7,GM.i0,GM.f9,GM.i3,GM.g5,D.tup.injEq,D.ref.injEq,D.int.injEq,D.str.injEq,D.bl.injEq,D.vl.injEq,NG,and_assoc]at e;(repeat(obtain⟨e1,e⟩:=e;subst e1));subst e;exact h))
local macro_rules|`(tactic| walk_at "injs")=>`(tactic| (rename_i e o h;rcases o with o|o<;>(subst o;first|(exfalso;simp only[D.tup.injEq,List.cons.injEq,reduceCtorEq,false_and,and_false]at e;done)|(simp only[List.cons.injEq,GM.A1,GM.v7,GM.D1,GM.A7,and_true,true_and,GM.h7,GM.i0,GM.f9,GM.i3,GM.g5,D.tup.injEq,D.ref.injEq,D.int.injEq,D.str.injEq,D.bl.injEq,D.vl.injEq,NG,and_assoc]at e;(repeat(obtain⟨e1,e⟩:=e;subst e1));subst e;exact h))))
abbrev nk(half:List Sd)(p q:Rat)(M:Mem)(R:DK)(Y:DXK):Prop:=((half.length≤30∧(∀ s∈half,SzS s))∧(sz p≤1100∧sz q≤1100)∧∃ a b,cJ half (wtF p q)=some (a,b)∧(SzS a∧SzS b)∧0<veZ a b∧a.2.2.2.1≠b.2.2.2.1∧(a.2.2.2.2.natAbs<2 ^ 1400∧b.2.2.2.2.natAbs<2 ^ 1400))∧Ef (fm half p q) M R
abbrev nh(x:D)(n:Int)(p q:Rat)(M:Mem)(R:DK)(Y:DXK):Prop:=(∃(ls:List T3) (l:T3) (j:Nat),(x = .vl (ls.map e9)∨x = .tup (ls.map e9))∧n=(j:Int)∧ls[j]? = some l∧L28 l∧¬ (p=0∧q=0)∧(sz p≤1100∧sz q≤1100)∧Ef (A0 l n p q) M R)
abbrev aM(q:Rat)(M:Mem)(R:DK)(Y:DXK):Prop:=R (.bl true) M
def jM:DSp:=fun ds M R Y=>∃(q:Rat),ds=[e8 q]∧aM q M R Y
theorem lV{q:Rat}{M:Mem}{R:DK}{Y:DXK}:jM [e8 q] M R Y=(aM q M R Y):=propext ⟨fun z=>by obtain⟨_,_,_⟩:=z;walk_at "inj",fun h=>⟨q,rfl,h⟩⟩
abbrev aL(y u:Rat)(M:Mem)(R:DK)(Y:DXK):Prop:=R (.bl true) M
def pI:DSp:=fun ds M R Y=>∃(y u:Rat),ds=[A5 y u]∧aL y u M R Y
theorem lU{y u:Rat}{M:Mem}{R:DK}{Y:DXK}:pI [A5 y u] M R Y=(aL y u M R Y):=propext ⟨fun z=>by obtain⟨_,_,_,_⟩:=z;walk_at "inj",fun h=>⟨y,u,rfl,h⟩⟩
abbrev dg(l:Addr)(M:Mem)(R:DK)(Y:DXK):Prop:=∃ sh:List (Int × Rat),M l=some (.lst (sh.map shD))∧sh.length≤20∧R (.bl true) M
def wu:DSp:=fun ds M R Y=>∃(l:Addr),ds=[.ref l]∧dg l M R Y
theorem qH{l:Addr}{M:Mem}{R:DK}{Y:DXK}:wu [.ref l] M R Y=(dg l M R Y):=propext ⟨fun z=>by obtain⟨_,_,_⟩:=z;walk_at "inj",fun h=>⟨l,rfl,h⟩⟩
noncomputable def AO(n k:Nat):T3:=(((k:Int):Rat),(((n:Int) - (k:Int):Int):Rat),((1+(k:Int) % 2:Int):Rat))
theorem EZ{n:Nat}(h6:6≤n)(h12:n≤12):bz ((OC n).map (AO n)):=by
 refine⟨by rw[Nm,Rl];exact h12,fun l hl=>?_⟩
 obtain⟨k,hk,rfl⟩:=Nu.mp hl
 have hk:=QQ.mp hk
 have z1:sz (((k:Int):Rat))≤10:=iW (by decide) (by show(k:Int).natAbs<2 ^ 10;omega)
 have z2:sz ((((n:Int) - (k:Int):Int):Rat))≤10:=iW (by decide) (by show((n:Int) - (k:Int)).natAbs<2 ^ 10;omega)
 have z3:sz (((1+(k:Int) % 2:Int):Rat))≤10:=iW (by decide) (by show(1+(k:Int) % 2).natAbs<2 ^ 10;omega)
 refine⟨L28.mk3 ⟨fun z=>?_,?_⟩ (by show sz (((k:Int):Rat))≤_;omega) (by show sz ((((n:Int) - (k:Int):Int):Rat))≤_;omega) (by show sz (((1+(k:Int) % 2:Int):Rat))≤_;omega),⟨by show sz (((k:Int):Rat))≤_;omega,by show sz ((((n:Int) - (k:Int):Int):Rat))≤_;omega,by show sz (((1+(k:Int) % 2:Int):Rat))≤_;omega⟩⟩
 ·have e1:((k:Int):Rat)=0:=z.1
  have e2:(((n:Int) - (k:Int):Int):Rat)=0:=z.2
  rw[Qs]at e1 e2
  omega
 ·show(0:Rat)<((1+(k:Int) % 2:Int):Rat)
  exact A4.mpr (by omega)
end GM
namespace GM
open PySem PySem.Spec L2 DL
open RM (sz)
def Eh(m:cL)(M:Mem)(R:DK):Prop:=match m with
 | .needed z=>R (.tup [.str "needed",A5 z.1 z.2]) M
 | .idle sh=>∀ l,M l=none→R (.tup [.str "idle",.ref l]) (C1 M l (.lst (sh.map shD)))
local macro_rules|`(tactic| walk_at "inj")=>`(tactic| (rename_i e h;simp only[List.cons.injEq,GM.A1,GM.v7,GM.D1,GM.A7,and_true,true_and,GM.h7,GM.i0,GM.f9,GM.i3,GM.g5,D.tup.injEq,D.ref.injEq,D.int.injEq,D.str.injEq,D.bl.injEq,D.vl.injEq,NG,and_assoc]at e;(repeat(obtain⟨e1,e⟩:=e;subst e1));subst e;exact h))
local macro_rules|`(tactic| walk_at "injs")=>`(tactic| (rename_i e o h;rcases o with o|o<;>(subst o;first|(exfalso;simp only[D.tup.injEq,List.cons.injEq,reduceCtorEq,false_and,and_false]at e;done)|(simp only[List.cons.injEq,GM.A1,GM.v7,GM.D1,GM.A7,and_true,true_and,GM.h7,GM.i0,GM.f9,GM.i3,GM.g5,D.tup.injEq,D.ref.injEq,D.int.injEq,D.str.injEq,D.bl.injEq,D.vl.injEq,NG,and_assoc]at e;(repeat(obtain⟨e1,e⟩:=e;subst e1));subst e;exact h))))
abbrev nc(x:D)(n:Int)(p q:Rat)(M:Mem)(R:DK)(Y:DXK):Prop:=(∃(ls:List T3) (l:T3) (j:Nat),(x = .vl (ls.map e9)∨x = .tup (ls.map e9))∧n=(j:Int)∧ls[j]? = some l∧L28 l∧¬ (p=0∧q=0)∧(sz p≤1100∧sz q≤1100)∧R (A0 l n p q).toD M)
abbrev aF(ls:List T3)(k:Nat)(M:Mem)(R:DK)(Y:DXK):Prop:=ls.length≤12∧R (.vl ((G8 ls k).map e9)) M
def mZ:DSp:=fun ds M R Y=>∃(x0:D) (ls:List T3) (k:Nat),ds=[x0,.int (k:Int)]∧(x0 = .vl (ls.map e9)∨x0 = .tup (ls.map e9))∧aF ls k M R Y
theorem qB{ls:List T3}{k:Nat}{M:Mem}{R:DK}{Y:DXK}:mZ [.vl (ls.map e9),.int (k:Int)] M R Y=(aF ls k M R Y):=propext ⟨fun z=>by obtain⟨_,_,_,_,_,_⟩:=z;walk_at "injs",fun h=>⟨_,ls,k,rfl,.inl rfl,h⟩⟩
theorem gx{ls:List T3}{k:Nat}{M:Mem}{R:DK}{Y:DXK}:mZ [.tup (ls.map e9),.int (k:Int)] M R Y=(aF ls k M R Y):=propext ⟨fun z=>by obtain⟨_,_,_,_,_,_⟩:=z;walk_at "injs",fun h=>⟨_,ls,k,rfl,.inr rfl,h⟩⟩
abbrev U8(ls:List T3)(k:Nat)(M:Mem)(R:DK)(Y:DXK):Prop:=(L9 ls∧∃ l,ls[k]? = some l∧Eh (ff ls k l) M R)
def jN:DSp:=fun ds M R Y=>∃(x0:D) (ls:List T3) (k:Nat),ds=[x0,.int (k:Int)]∧(x0 = .vl (ls.map e9)∨x0 = .tup (ls.map e9))∧U8 ls k M R Y
theorem lX{ls:List T3}{k:Nat}{M:Mem}{R:DK}{Y:DXK}:jN [.vl (ls.map e9),.int (k:Int)] M R Y=(U8 ls k M R Y):=propext ⟨fun z=>by obtain⟨_,_,_,_,_,_⟩:=z;walk_at "injs",fun h=>⟨_,ls,k,rfl,.inl rfl,h⟩⟩
theorem dG{ls:List T3}{k:Nat}{M:Mem}{R:DK}{Y:DXK}:jN [.tup (ls.map e9),.int (k:Int)] M R Y=(U8 ls k M R Y):=propext ⟨fun z=>by obtain⟨_,_,_,_,_,_⟩:=z;walk_at "injs",fun h=>⟨_,ls,k,rfl,.inr rfl,h⟩⟩
abbrev R6(t:D)(M:Mem)(R:DK)(Y:DXK):Prop:=∃ m:cL,((∃ z,m = .needed z∧t = .tup [.str "needed",A5 z.1 z.2]) ∨ ∃ sh l,m = .idle sh∧t = .tup [.str "idle",.ref l]∧M l=some (.lst (sh.map shD))∧sh.length≤20)∧R (.bl true) M
def eM:DSp:=fun ds M R Y=>∃(t:D),ds=[t]∧R6 t M R Y
theorem dF{t:D}{M:Mem}{R:DK}{Y:DXK}:eM [t] M R Y=(R6 t M R Y):=propext ⟨fun z=>by obtain⟨_,_,_⟩:=z;walk_at "inj",fun h=>⟨t,rfl,h⟩⟩
theorem qq{t:Rat→T3→Rat}{ls ls':List T3}{f:Int→Int}(sh:List (Int × Rat))(h:∀ s∈sh,ls'.getD (f s.1).toNat (0,0,0)=ls.getD s.1.toNat (0,0,0)):ad t ls' (sh.map fun s=>(f s.1,s.2))=ad t ls sh:=by
 have key:∀(sh:List (Int × Rat)) (z:Rat),(∀ s∈sh,ls'.getD (f s.1).toNat (0,0,0)=ls.getD s.1.toNat (0,0,0))→(sh.map fun s=>(f s.1,s.2)).foldl (fun acc s=>acc+t s.2 (ls'.getD s.1.toNat (0,0,0))) z=sh.foldl (fun acc s=>acc+t s.2 (ls.getD s.1.toNat (0,0,0))) z:=by
  intro sh
  induction sh with
  | nil=>intro z _;rfl
  | cons a r ih =>
   intro z h
   rw[NO,PZ,PZ]
   show List.foldl _ (z+t a.2 (ls'.getD (f a.1).toNat (0,0,0))) _=_
   rw[h a Nk]
   exact ih _ fun s hs=>h s (Nj _ hs)
 exact key sh 0 h
theorem FF{ls:List T3}{k:Nat}(hk:k<ls.length){i:Int}(h0:0≤i):ls.getD (if i<(k:Int)then i else i+1).toNat (0,0,0)=(G8 ls k).getD i.toNat (0,0,0):=by
 unfold G8
 obtain⟨j,rfl⟩:∃ j:Nat,i=(j:Int):=⟨i.toNat,by omega⟩
 rw[NI,Nz,Nz]
 by_cases c:(j:Int)<(k:Int)
 ·rw[if_pos c,NI,Qe (by rw[NU];omega),List.getElem?_take,if_pos (by omega)]
 ·rw[if_neg c,show((j:Int)+1).toNat=j+1 by omega,Qa (by rw[NU];omega),List.getElem?_drop,NU]
  congr 1
  congr 1
  omega
theorem rP{n k:Nat}:∀(sh:List (Int × Rat)) (a b:Int),-1≤a→G2 n a sh=true→(b=if a<(k:Int)then a else a+1)→G2 (n+1) b (sh.map fun s=>(if s.1<(k:Int)then s.1 else s.1+1,s.2))=true
 | [],_,_,_,_,_=>rfl
 | s :: r,a,b,ha,h,hb=>by
  have h':=h
  unfold G2 at h'
  simp only[NP,decide_eq_true_eq]at h'
  obtain⟨⟨⟨h1,h2⟩,h3⟩,h4⟩:=h'
  rw[NO,O9 (s:=(if s.1<(k:Int)then s.1 else s.1+1,s.2)) ?_ ?_ h3]
  ·exact rP r s.1 _ (by omega) h4 rfl
  ·show b<if s.1<(k:Int)then s.1 else s.1+1
   rw[hb];split<;>split<;>omega
  ·show(if s.1<(k:Int)then s.1 else s.1+1)<((n+1:Nat):Int)
   split<;>omega
theorem BZ{ls:List T3}(hok:∀ l∈ls,LineOk l){k:Nat}{l:T3}(hl:ls[k]? = some l):sA ls k l (ff ls k l)=true:=by
 have hk:=(Nw.mp hl).1
 have lok:=hok l (Nq hl)
 have oo:∀ m∈G8 ls k,LineOk m:=fun m hm=>by
  unfold G8 at hm
  rcases NL.mp hm with h|h
  ·exact hok m (Ot h)
  ·exact hok m (OL h)
 have olen:(G8 ls k).length+1=ls.length:=by
  unfold G8
  rw[NX,NU,OD]
  omega
 have mm:=X3 oo l.1 l.2.1
 have mo:=BH oo l.1 l.2.1
 unfold ff
 cases e:F5 (G8 ls k) l.1 l.2.1 with
 | free z =>
  obtain⟨h1,h2,h3,h4,h5⟩:=mm.free z e
  have r0:=lok.pos
  show(C6 (G8 ls k) (z.1*((l.2.2+l.2.2) / (l.1*z.1+l.2.1*z.2))) (z.2*((l.2.2+l.2.2) / (l.1*z.1+l.2.1*z.2))) && !G0 l (z.1*((l.2.2+l.2.2) / (l.1*z.1+l.2.1*z.2))) (z.2*((l.2.2+l.2.2) / (l.1*z.1+l.2.1*z.2))))=true
  have hcd:(l.2.2+l.2.2) / (l.1*z.1+l.2.1*z.2)*(l.1*z.1+l.2.1*z.2)=l.2.2+l.2.2:=NZ (D2 h4)
  generalize (l.2.2+l.2.2) / (l.1*z.1+l.2.1*z.2)=c at *
  rw[NP]
  constructor
  ·unfold C6
   rw[OF]
   intro m hm
   rw[E3]
   have z0:=h3 m hm
   have mp:=(oo m hm).pos
   have:m.1*(z.1*c)+m.2.1*(z.2*c)=0:=by
    have:m.1*(z.1*c)+m.2.1*(z.2*c)=c*(m.1*z.1+m.2.1*z.2):=by grind
    rw[this,z0];grind
   rw[this]
   constructor<;>grind
  ·cases b:G0 l (z.1*c) (z.2*c)with
   | false=>rfl
   | true =>
    have:=(E3 l (z.1*c) (z.2*c)).mp b
    have e2:l.1*(z.1*c)+l.2.1*(z.2*c)=l.2.2+l.2.2:=by rw[← hcd];grind
    grind
 | most v z sh =>
  rw[e]at mo
  obtain⟨h1,h2,h3,h4⟩:=mm.most v z sh e
  have mo:nS (G8 ls k) l.1 l.2.1 v z sh=true:=mo
  unfold nS at mo
  simp only[NP,decide_eq_true_eq]at mo
  obtain⟨⟨⟨m1,m2⟩,m3⟩,m4,m5,m6⟩:=mo
  show sA ls k l (if l.2.2<v then .needed z else .idle (sh.map fun s=>(if s.1<(k:Int)then s.1 else s.1+1,s.2)))=true
  by_cases c:l.2.2<v
  ·rw[if_pos c]
   show(C6 (G8 ls k) z.1 z.2 && !G0 l z.1 z.2)=true
   rw[h1,NR]
   cases b:G0 l z.1 z.2 with
   | false=>rfl
   | true =>
    have:=(E3 l z.1 z.2).mp b
    grind
  ·rw[if_neg c]
   show BW ls k l _=true
   unfold BW
   obtain⟨s2,sm⟩:=cS m3
   have gm:∀ s∈sh,ls.getD ((fun i:Int=>if i<(k:Int)then i else i+1) s.1).toNat (0,0,0)=(G8 ls k).getD s.1.toNat (0,0,0):=fun s hs=>FF hk (sm s hs).1
   have a0:=qq (t:=t0) (f:=fun i:Int=>if i<(k:Int)then i else i+1) sh gm
   have a1:=qq (t:=t1) (f:=fun i:Int=>if i<(k:Int)then i else i+1) sh gm
   have a2:=qq (t:=t2) (f:=fun i:Int=>if i<(k:Int)then i else i+1) sh gm
   simp only[NP,decide_eq_true_eq]
   refine⟨⟨⟨fun hm=>?_,?_⟩,a0.trans m4,a1.trans m5⟩,?_⟩
   ·rw[Of]at hm
    obtain⟨s,hs,e2⟩:=Nu.mp hm
    have e2:(if s.1<(k:Int)then s.1 else s.1+1)=(k:Int):=e2
    split at e2<;>omega
   ·unfold shB at m3 ⊢
    rw[NP,decide_eq_true_eq]at m3 ⊢
    refine⟨by rw[Nm];exact m3.1,?_⟩
    rw[← olen]
    exact rP sh (-1) (-1) (by omega) m3.2 (by rw[if_pos (by omega)])
   ·have:ad t2 ls (sh.map fun s=>(if s.1<(k:Int)then s.1 else s.1+1,s.2))=v:=a2.trans m6
    rw[this]
    grind
end GM
namespace K26
open PySem PySem.Spec L2 DL GM
open RM (sz)
open PyProof.Rows hiding St
local macro_rules|`(tactic| walk_at "sim")=>do
 let f:=fun(b:Bool) (p:String) (s:String)=>((s.splitOn " ").mapM (fun s=>(let i:=Lean.mkIdent (p++s).toName;if b then `(Lean.Parser.Tactic.simpLemma| ↓$i:ident)else `(Lean.Parser.Tactic.simpLemma| $i:ident))):Lean.MacroM _)
 let a := "z_C Ho Hm Hk Hl Hj Hi Hh uW Dt Dv Hn Dc vy vg Hr Dk Dd vq CT Dh vw Hs vh CV vn CW rn iR uV qT dZ mj Du CY vd Di Dw Dg De Dj Dn Dm vj vt CU my vc rk rp ml gY mi mq qS uU qR Dp Dr rA rB CS qV uY uX mx rz rq qU rd qX qZ qY qW uZ mw rj Dq Ds vk vm Hq vz vx rC bV dJ gK dM gJ bU dH gH dI gG bY dR gQ dS gP bX dP gO dQ gN bW dN gM dO gL cf dX gX dY gW bZ dU gT dW gR GW GV GU GS GR GQ GP GO GN GL CA Cz Cy Hg Ex Hf He Hd Hb Ha GZ GY GX CQ CO CN Z0 Y9 iQ uT uS uR uQ uP uO uN uM uL uK uJ uI uH CM CL CK CJ CI CH CG CF CD CC rh mr CZ iS rf"
 let b := "mh gE qJ uG uF uE uD qM qL qK qN qQ qP qO me md uC gD lZ uB uA gC gB uz lY qI gA lX dG lW lV lU qH dF qG gz qF dE lT lS lR dD lQ gy uy qE qD qC ux qB gx qA uw uv lP uu ur uq uo lO dB gw gv lN lM qz qy qx lL lK gu qw bT lJ qv gr lI dA qu lH lG lF gq aS aR jU X2 aQ jT jS X1 X0 jP aP aO U8 aN aM aL dg R6 df W9 de R5 aK aJ aI R4 aG W8 jI nq dc nk cZ nh nc cY jH aF cX aE jG U7 W7 W6 aD aC cV ic cU aB aA cT W5"
 let xs:=((← f true "DL." a)++(← f true "GM." b)++(← f false "GM." b)++(← f false "DL." a)++(← f false "" "DL.Am DL.Ag DL.zW DL.zQ DL.An DL.Ah DL.zX DL.zR DL.Ao DL.Ai DL.zY DL.zS DL.Ap DL.Aj DL.zZ DL.zT DL.Aq DL.Ak DL.Aa DL.zU DL.Ar DL.Al DL.Ab DL.zV DL.zx DL.zK DL.zy DL.zL DL.zF DL.zM DL.zH DL.zN DL.zI DL.zO DL.zJ DL.zP GM.Ac GM.Ad GM.Ae GM.Af DL.Ew DL.Eu DL.Et DL.Es DL.Er DL.Ep DL.Eo DL.En DL.Em DL.zw DL.zv DL.zu Nat.reduceAdd Nat.reduceLT Nat.reduceLeDiff QK Int.reduceLT Int.reduceLE Int.reduceEq eq_self decide_true decide_false D.int.injEq D.str.injEq beq_self_eq_true and_self true_and and_true not_true_eq_false not_false_eq_true false_implies true_implies forall_const V6 NO OU List.cons_append RJ Pk NV List.length_nil OS gk List.getElem?_cons_zero List.getElem?_cons_succ Option.getD_some decide_eq_true_eq decide_eq_false_iff_not Bool.not_eq_true' Bool.not_eq_false' Bool.and_self NR Pr Bool.xor_false Bool.false_xor Bool.true_xor Bool.not_true Bool.not_false OT Bool.true_eq_false reduceIte GM.r0 GM.r1 GM.r2 GM.r4 GM.rm1 GM.rm2 GM.h7 GM.Fc GM.HK GM.HJ GM.Fb")).toArray
 `(tactic| try simp only[$xs,*])
local macro_rules|`(tactic| walk_at "fn")=>do
 let i:=fun(s:String)=>Lean.mkIdent s.toName
 let x:=(("f cdv A outer s H E ds M R Y hr h".splitOn " ").map i).toArray
 `(tactic| (refine $(i "i4") $(i "d") $(i "sc") (by walk_at "len") (fun $x*=>?_);have $(i "hu"):ident:=$(i "hr.units")))
local macro_rules|`(tactic| walk_at "len")=>`(tactic| (intro ds M R Y h;repeat(first|exact congrArg RB h.1|(obtain⟨_,h⟩:=h))))
local macro_rules|`(tactic| walk_at "size")=>`(tactic| first|omega|grind only[RM.j9,RM.C9,RM.EG,RM.T4,RM.oX,RM.au,GM.Q0])
local macro_rules|`(tactic| walk_at "sc")=>`(tactic| exact⟨rfl,rfl,rfl,by decide +kernel,rfl,by decide +kernel,by decide +kernel⟩)
noncomputable def top(i:Nat):Stmt:=PySem.Challenge.pw_roundglass_k26_idle_told.main.body.getD i (.Pass ⟨0,0,0,0⟩)
noncomputable abbrev R0:Stmt:=top 54
noncomputable abbrev jw:Stmt:=top 17
noncomputable abbrev bF:Stmt:=top 7
noncomputable abbrev Z7:Stmt:=top 6
noncomputable abbrev ju:Stmt:=top 8
noncomputable abbrev jt:Stmt:=top 13
noncomputable abbrev jy:Stmt:=top 21
noncomputable abbrev pq:Stmt:=top 14
noncomputable abbrev az:Stmt:=top 23
noncomputable abbrev Z3:Stmt:=top 38
noncomputable abbrev pk:Stmt:=top 11
noncomputable abbrev eG:Stmt:=top 29
noncomputable abbrev eI:Stmt:=top 35
noncomputable abbrev eJ:Stmt:=top 27
noncomputable abbrev K8:Stmt:=top 39
noncomputable abbrev M0:Stmt:=top 16
noncomputable abbrev E5:Stmt:=top 15
noncomputable abbrev N9:Stmt:=top 40
noncomputable abbrev Z4:Stmt:=top 10
noncomputable abbrev Z6:Stmt:=top 9
noncomputable abbrev jv:Stmt:=top 12
noncomputable abbrev jz:Stmt:=top 20
noncomputable abbrev Q3:Stmt:=top 41
noncomputable abbrev ph:Stmt:=top 30
noncomputable abbrev T9:Stmt:=top 33
noncomputable abbrev U0:Stmt:=top 31
noncomputable abbrev T7:Stmt:=top 32
noncomputable abbrev Z5:Stmt:=top 28
noncomputable abbrev Z8:Stmt:=top 34
noncomputable abbrev pz:Stmt:=top 42
noncomputable abbrev T8:Stmt:=top 47
noncomputable abbrev pB:Stmt:=top 48
noncomputable abbrev bE:Stmt:=top 24
noncomputable abbrev pA:Stmt:=top 25
noncomputable abbrev pj:Stmt:=top 18
noncomputable abbrev jA:Stmt:=top 44
noncomputable abbrev Q5:Stmt:=top 43
noncomputable abbrev Z9:Stmt:=top 45
noncomputable abbrev K9:Stmt:=top 49
noncomputable abbrev Q4:Stmt:=top 50
noncomputable abbrev R1:Stmt:=top 60
noncomputable abbrev ae:Stmt:=top 56
noncomputable abbrev aa:Stmt:=top 57
noncomputable abbrev Q7:Stmt:=top 58
noncomputable abbrev U6:Stmt:=top 65
noncomputable abbrev R3:Stmt:=top 67
noncomputable abbrev F4:Stmt:=top 68
noncomputable abbrev Q6:Stmt:=top 64
noncomputable abbrev U5:Stmt:=top 66
noncomputable abbrev Q8:Stmt:=top 69
noncomputable abbrev J6:Stmt:=top 70
noncomputable abbrev G6:Stmt:=top 72
noncomputable abbrev O1:Stmt:=top 71
noncomputable abbrev L0:Stmt:=top 73
noncomputable abbrev U3:Stmt:=top 53
noncomputable abbrev U1:Stmt:=top 55
noncomputable abbrev O0:Stmt:=top 61
noncomputable abbrev U4:Stmt:=top 62
noncomputable abbrev Q9:Stmt:=top 63
noncomputable abbrev U2:Stmt:=top 52
noncomputable abbrev wd:Stmt:=top 74
theorem fO:f6 ["script","bound","found","k"] ["script","bound"] (e6 R0):=by walk_at "sc"
theorem rL:f6 ["one","other"] ["one","other"] (e6 jw):=by walk_at "sc"
theorem pf:f6 ["one","other"] ["one","other"] (e6 bF):=by walk_at "sc"
theorem mT:f6 ["thing"] ["thing"] (e6 Z7):=by walk_at "sc"
theorem vX:f6 ["top","bottom","share"] ["top","bottom"] (e6 ju):=by walk_at "sc"
theorem vW:f6 ["one","other"] ["one","other"] (e6 jt):=by walk_at "sc"
theorem vZ:f6 ["ray","share"] ["ray","share"] (e6 jy):=by walk_at "sc"
theorem AF:f6 ["one","other"] ["one","other"] (e6 pq):=by walk_at "sc"
theorem hZ:f6 ["p","q","ray","y","u","top"] ["p","q","ray"] (e6 az):=by walk_at "sc"
theorem mP:f6 ["p","q","ray","top","bottom"] ["p","q","ray"] (e6 Z3):=by walk_at "sc"
theorem AE:f6 ["one","other"] ["one","other"] (e6 pk):=by walk_at "sc"
theorem jf:f6 ["one","other"] ["one","other"] (e6 eG):=by walk_at "sc"
theorem tI:f6 ["one","other","bottom","y","u"] ["one","other"] (e6 eI):=by walk_at "sc"
theorem tK:f6 ["side","p","q","r","number","scale"] ["side"] (e6 eJ):=by walk_at "sc"
theorem cx:f6 ["half","wanted","rim","found","one","other"] ["half","wanted"] (e6 K8):=by walk_at "sc"
theorem ax:f6 ["ratios","bottom"] ["ratios","bottom"] (e6 M0):=by walk_at "sc"
theorem O8:f6 ["ratios","bottom","one"] ["ratios"] (e6 E5):=by walk_at "sc"
theorem eD:f6 ["half","p","q","bottom","wanted","one","other","of_one","of_other","whole","value","shares"] ["half","p","q"] (e6 N9):=by walk_at "sc"
theorem mQ:f6 ["one"] ["one"] (e6 Z4):=by walk_at "sc"
theorem mS:f6 ["one"] ["one"] (e6 Z6):=by walk_at "sc"
theorem vY:f6 ["one","other"] ["one","other"] (e6 jv):=by walk_at "sc"
theorem wa:f6 ["one","other","y","u","z","w"] ["one","other"] (e6 jz):=by walk_at "sc"
theorem fG:f6 ["lines","number","p","q","own_p","own_q","r","bend","share","value","ray"] ["lines","number","p","q"] (e6 Q3):=by walk_at "sc"
theorem AB:f6 ["one","other","third"] ["one","other","third"] (e6 ph):=by walk_at "sc"
theorem ji:f6 ["sides","here","found","side","bend"] ["sides","here"] (e6 T9):=by walk_at "sc"
theorem jj:f6 ["one","other","more"] ["one","other"] (e6 U0):=by walk_at "sc"
theorem jg:f6 ["sides","found","side"] ["sides"] (e6 T7):=by walk_at "sc"
theorem mR:f6 ["lines","sides","number","line","scale","p","q","r","side"] ["lines"] (e6 Z5):=by walk_at "sc"
theorem mU:f6 ["lines","sides","half","here"] ["lines"] (e6 Z8):=by walk_at "sc"
theorem AG:f6 ["lines","p","q","half"] ["lines","p","q"] (e6 pz):=by walk_at "sc"
theorem jh:f6 ["lines","k"] ["lines","k"] (e6 T8):=by walk_at "sc"
theorem AI:f6 ["lines","k","p","q","r","told","ray","word","value","shares"] ["lines","k"] (e6 pB):=by walk_at "sc"
theorem pe:f6 ["line","ray","p","q","r","top","bottom"] ["line","ray"] (e6 bE):=by walk_at "sc"
theorem AH:f6 ["lines","ray"] ["lines","ray"] (e6 pA):=by walk_at "sc"
theorem AD:f6 ["one","other"] ["one","other"] (e6 pj):=by walk_at "sc"
theorem wb:f6 ["lines","shares","sums","number","share","weights"] ["lines","shares"] (e6 jA):=by walk_at "sc"
theorem fJ:f6 ["lines","shares","last","number","share"] ["lines","shares"] (e6 Q5):=by walk_at "sc"
theorem mV:f6 ["lines","shares","p","q","sums"] ["lines","shares","p","q"] (e6 Z9):=by walk_at "sc"
theorem cy:f6 ["lines","k","shares","p","q","r","bound"] ["lines","k","shares"] (e6 K9):=by walk_at "sc"
theorem fH:f6 ["lines","k","told","word","shown"] ["lines","k","told"] (e6 Q4):=by walk_at "sc"
theorem fP:f6 ["one","other"] ["one","other"] (e6 R1):=by walk_at "sc"
theorem mX:f6 ["top","bottom","one","other"] ["top","bottom"] (e6 ae):=by walk_at "sc"
theorem mW:f6 ["one","other"] ["one","other"] (e6 aa):=by walk_at "sc"
theorem fL:f6 ["one","other"] ["one","other"] (e6 Q7):=by walk_at "sc"
theorem js:f6 ["one"] ["one"] (e6 U6):=by walk_at "sc"
theorem fQ:f6 ["lines","shares","found","number","share","by"] ["lines","shares"] (e6 R3):=by walk_at "sc"
theorem Z2:f6 ["lines","shares","numbers"] ["lines","shares"] (e6 F4):=by walk_at "sc"
theorem fK:f6 ["p","q","ray"] ["p","q","ray"] (e6 Q6):=by walk_at "sc"
theorem jr:f6 ["lines","ray","p","q","r"] ["lines","ray"] (e6 U5):=by walk_at "sc"
theorem fM:f6 ["lines","k","told","others","shares","p","q","r"] ["lines","k","told"] (e6 Q8):=by walk_at "sc"
theorem bD:f6 ["found"] ["found"] (e6 J6):=by walk_at "sc"
theorem ay:f6 ["found","one"] ["found"] (e6 G6):=by walk_at "sc"
theorem eF:f6 ["found"] ["found"] (e6 O1):=by walk_at "sc"
theorem cz:f6 ["found"] ["found"] (e6 L0):=by walk_at "sc"
theorem jo:f6 ["pool","base","digit","near","stir"] ["pool","base"] (e6 U3):=by walk_at "sc"
theorem jk:f6 ["pool","base","number","turn_v"] ["pool","base"] (e6 U1):=by walk_at "sc"
theorem eE:f6 ["pool","pick","far"] ["pool"] (e6 O0):=by walk_at "sc"
theorem jq:f6 ["pool","p","q"] ["pool"] (e6 U4):=by walk_at "sc"
theorem fN:f6 ["pool","most_lines","found","k","line","pick","ahead","by","one","other"] ["pool","most_lines"] (e6 Q9):=by walk_at "sc"
theorem jl:f6 ["cell"] ["cell"] (e6 U2):=by walk_at "sc"
theorem EM:f6 ["script","cell","pool","lines","around","k","handed","found","kept","again"] ["script"] (e6 wd):=by walk_at "sc"
structure Txt(K:Nd)(mg:Str→Option Value):Prop where
 b_abs:mg "abs" = none
 b_all:mg "all" = none
 b_any:mg "any" = none
 b_bool:mg "bool" = none
 b_enumerate:mg "enumerate" = none
 b_int:mg "int" = none
 b_isinstance:mg "isinstance" = none
 b_len:mg "len" = none
 b_list:mg "list" = none
 b_max:mg "max" = none
 b_min:mg "min" = none
 b_range:mg "range" = none
 b_set:mg "set" = none
 b_sorted:mg "sorted" = none
 b_tuple:mg "tuple" = none
 b_zip:mg "zip" = none
 sub:yQ K
 c_MOST_SHARES:GlD K mg "MOST_SHARES" (.int 2)
 c_NOUGHT:GlD K mg "NOUGHT" (.tup [(.int 0),(.int 1)])
 c_ONE:GlD K mg "ONE" (.tup [(.int 1),(.int 1)])
section
variable {P:Program} {w:World} {K:Nd} {mg:Str→Option Value} {base:Heap}
theorem fZ(T:Txt K mg)(d:Df K mg "_law_cells" R0 ["script","bound"]):Fn P w K mg base "_law_cells" 1 ["script","bound"] jR:=by
 have sc:=fO
 walk_at "fn"
 obtain⟨xs,nn,rfl,ns,c,rfl,⟨c1,c5⟩,rfl,hl,k⟩:=h
 refine⟨_,(d7 (jst 2 sc.nd (xA (bb (nX rfl T.b_list lh (a9 (D6 (d4 0) C5 (C4 (d4 1))) d5)) (B6 (a9 d6 d5))) C5 (C4 (j3 (Eb rfl) rfl T.b_max yL (a9 d6 (a9 (j3 (Ea rfl) rfl T.b_min yK (a9 (d4 1) (a9 (j3 N4 rfl T.b_len F9 (a9 (d4 0) d5)) d5))) d5)))))) (d7 (v8 PassesOwn.never rfl (xx rfl T.b_range (a9 (d4 1) (a9 (j3 N4 rfl T.b_len F9 (a9 (d4 0) d5)) d5))) (jn 3 sc.nd) (d8 (t8 (e7 C2 (e7 g9 (jx (d4 2) (e7 S8 (d4 3) (d4 1))) d6) (jx (d4 0) (d4 3))) (kI (d4 2) (e7 S8 (d4 3) (d4 1)))))) (d8 (e5 (fe (fc (d4 2))))))),?_⟩
 walk_at "sim"
 unfold dSl
 walk_at "sim"
 have l1:(ns.map D.int).length=ns.length:=Nm ..
 have e3:DL.O4 (ns.map D.int) none (some (c:Int))=(ns.take c).map D.int:=by rw[kP,Qt]
 obtain⟨m,hm,hm1,hm2⟩:∃ m:Nat,max 1 (min (c:Int) ((ns.map D.int).length:Int))=(m:Int)∧m≤c∧(c<ns.length→m=c):=⟨max 1 (min c ns.length),by rw[l1];omega,by omega,by omega⟩
 rw[e3,hm,show(ns.take c).map D.int++[D.int 0]=(ns.take c++[0]).map D.int by rw[NF];rfl]
 refine⟨Nr (show _≤6 by rw[Nm,NU];omega) (by decide),?_⟩
 have hz:((ns.take c++[0]).take m).length≤c∧(c<ns.length→((ns.take c++[0]).take m).length=c):=by
  rw[NU,NX,NU]
  show min m (min c ns.length+1)≤c∧_
  exact⟨by omega,fun h=>by show min m (min c ns.length+1)=c;have:=hm2 h;omega⟩
 refine⟨_,rfl,fun p hp=>?_⟩
 rw[kP,← Qt]
 generalize (ns.take c++[0]).take m=ms0 at *
 refine⟨by omega,?_⟩
 refine T1.by (fun i e M'=>(∃ z3:Option D,e=[some (D.vl (ns.map D.int)),some (D.int (c:Int)),some (D.ref p),z3])∧∃ ms:List Int,ms.length=ms0.length∧M'=C1 M p (.lst (ms.map D.int))) ⟨⟨_,rfl⟩,ms0,rfl,rfl⟩ (fun i e M' _ _=>trivial) ?_ ?_
 ·rintro i dd e M' hd ⟨⟨z3,rfl⟩,ms,hml,rfl⟩
  obtain⟨hi,rfl⟩:=bG hd
  have h3:ms.length=c:=by rw[hml];exact hz.2 (by omega)
  have hj:∃ j:Nat,((c:Int)+(i:Int)) % (c:Int)=(j:Int)∧j<c:=⟨((c+i) % c),by rw[← Int.natCast_add,RA],PK _ (by omega)⟩
  obtain⟨j,ej,hj⟩:=hj
  have hgj:ms[j]? = some (ms[j]'(by omega)):=NB (by omega)
  generalize ms[j]'(by omega)=v at hgj
  have hgi:ns[c+i]? = some (ns[c+i]'(by omega)):=NB (by omega)
  generalize ns[c+i]'(by omega)=w at hgi
  walk_at "sim"
  rw[ej]
  refine⟨by omega,_,F7 g7 (u8 (n:=j) (by rw[ND,hgj];rfl)),?_⟩
  walk_at "sim"
  refine⟨IntMulOk.of_right (by decide),?_⟩
  rw[show(c:Int)+(i:Int)=((c+i:Nat):Int)by omega]
  refine⟨_,(show ixD _ (D.vl (ns.map D.int)) _=some (D.int w)from u8 (n:=c+i) (by rw[ND,hgi];rfl)),?_⟩
  walk_at "sim"
  refine⟨by omega,Cu (j:=j) g7 (by rw[Nm];omega) ⟨⟨_,rfl⟩,ms.set j (v*31+w),by rw[RC];exact hml,?_⟩⟩
  rw[aq,List.map_set]
 ·rintro e M' ⟨⟨z3,rfl⟩,ms,hml,rfl⟩
  walk_at "sim"
  rw[iT g7,bo hp]
  exact⟨_,fun _ _ h=>h,k ms (by omega)⟩
theorem Bz(T:Txt K mg)(d:Df K mg "less" jw ["one","other"]):Fn P w K mg base "less" 1 ["one","other"] pb:=by
 have sc:=rL
 refine i4 d sc (fun ds M R Y h=>?_) (fun f cdv A outer s H E ds M R Y hr h=>?_)
 ·obtain⟨q,r,rfl,_⟩:=h;rfl
 ·obtain⟨q,r,rfl,hz,k⟩:=h
  refine⟨_,(d8 (e5 (jm cF (e7 g9 (jx (d4 0) d6) (jx (d4 1) d6)) (e7 g9 (jx (d4 1) d6) (jx (d4 0) d6))))),?_⟩
  refine⟨_,rfl,_,rfl,_,rfl,_,rfl,_,_,rfl,rfl,mND hz,_,rfl,_,rfl,_,rfl,_,rfl,_,_,rfl,rfl,mND (by omega),_,rfl,?_⟩
  rw[← RM.DE]at k
  exact k
theorem pT(T:Txt K mg)(d:Df K mg "divisor" bF ["one","other"]):Fn P w K mg base "divisor" 1 ["one","other"] O5:=by
 have sc:=pf
 refine i4 d sc (fun ds M R Y h=>?_) (fun f cdv A outer s H E ds M R Y hr h=>?_)
 ·obtain⟨a,b,rfl,_⟩:=h;rfl
 ·obtain⟨a,b,rfl,k⟩:=h
  refine⟨_,(d7 (bL PassesOwn.never (jtm rT (d4 1) d6) (d8 (dm (i:=0) (j:=1) rfl sc.nd rfl rfl (by decide) rfl rfl (a9 (d4 1) (a9 (e7 S8 (d4 0) (d4 1)) d5))))) (d8 (e5 (d4 0)))),?_⟩
  refine⟨fun m e M'=>M'=M∧∃ u:Nat,e=[some (.int (u:Int)),some (.int (m:Int))]∧Ow u m=Ow a b,⟨b,rfl,a,rfl,rfl⟩,?_⟩
  rintro v e M' ⟨rfl,u,rfl,hg⟩
  refine⟨_,rfl,_,rfl,_,rfl,?_⟩
  refine Ik (fun h0=>?_) (fun h0=>?_)
  ·have hv:0<v:=by omega
   refine⟨_,rfl,_,rfl,_,rfl,_,_,rfl,rfl,by omega,_,_,rfl,?_⟩
   exact⟨u % v,PK _ hv,rfl,v,rfl,by rw[← RM.og u v (by omega)];exact hg⟩
  ·have hv:v=0:=by omega
   subst hv
   rw[Rh]at hg
   subst hg
   exact⟨_,rfl,k⟩
theorem nJ(T:Txt K mg)(d:Df K mg "is_whole" Z7 ["thing"]):Fn P w K mg base "is_whole" 1 ["thing"] rF:=by
 have sc:=mT
 refine i4 d sc (fun ds M R Y h=>?_) (fun f cdv A outer s H E ds M R Y hr h=>?_)
 ·obtain⟨n,rfl,_⟩:=h;rfl
 ·obtain⟨n,rfl,k⟩:=h
  refine⟨_,(d8 (e5 (A8 (j3 (V8 T.sub) rfl T.b_isinstance o7 (a9 (d4 0) (a9 (V3 rfl T.b_int qk) d5))) (C7 (K4 (j3 (V8 T.sub) rfl T.b_isinstance o7 (a9 (d4 0) (a9 (V3 rfl T.b_bool lj) d5)))))))),?_⟩
  refine⟨_,rfl,_,_,_,_,rfl,rfl,rfl,_,rfl,?_⟩
  refine Ij ?_
  exact⟨_,rfl,_,_,_,_,rfl,rfl,rfl,_,rfl,k⟩
theorem xf(T:Txt K mg)(d:Df K mg "ratio" ju ["top","bottom"])(Li:Fn P w K mg base "is_whole" 1 ["thing"] rF)(Kz:Fn P w K mg base "divisor" 1 ["one","other"] O5):Fn P w K mg base "ratio" 2 ["top","bottom"] J3:=by
 have sc:=vX
 refine i4 d sc (fun ds M R Y h=>?_) (fun f cdv A outer s H E ds M R Y hr h=>?_)
 ·obtain⟨p,b,rfl,_⟩:=h;rfl
 ·obtain⟨a,b,rfl,hb,hl,k⟩:=h
  refine⟨_,(d7 (h8 (E8 (J9 (E7 (u7 (jc Li hr (a9 (d4 0) d5)))) (J9 (E7 (u7 (jc Li hr (a9 (d4 1) d5)))) (J7 (jtm G4 (d4 1) d6))))) (d8 tY) f8) (d7 (jst 2 sc.nd (jc Kz hr (a9 (j3 fj rfl T.b_abs ak (a9 (d4 0) d5)) (a9 (j3 fj rfl T.b_abs ak (a9 (d4 1) d5)) d5)))) (d7 (h8 (jtm cF (d4 1) d6) (d8 (jst 2 sc.nd (ai (d4 2)))) f8) (d8 (e5 (g8 (a9 (e7 L4 (d4 0) (d4 2)) (a9 (e7 L4 (d4 1) (d4 2)) d5)))))))),?_⟩
  refine⟨_,rfl,_,rfl,true,rfl,?_⟩
  refine Il ?_
  refine⟨_,rfl,_,rfl,true,rfl,?_⟩
  refine Il ?_
  refine⟨_,rfl,_,rfl,_,rfl,?_⟩
  refine xF (fun h=>absurd h hb) (fun _=>?_)
  refine⟨_,rfl,_,rfl,_,rfl,_,rfl,a.natAbs,b.natAbs,rfl,?_⟩
  have hn:=xM (a:=a) hb
  have hlg:=sD (a:=a) hb hl
  refine⟨_,rfl,_,rfl,_,rfl,?_⟩
  refine xF (fun h1=>?_) (fun h1=>?_)
  ·have c1:∀ i:Int,CFd i (-((Ow a.natAbs b.natAbs:Nat):Int)):=fun i=>⟨by omega,by rw[Oo];exact hlg⟩
   refine⟨_,rfl,_,rfl,_,rfl,_,rfl,_,_,rfl,rfl,c1 _,_,rfl,_,rfl,_,_,rfl,rfl,c1 _,sl 2,?_⟩
   exact dk hb (by rw[if_pos h1]) k
  ·have c1:∀ i:Int,CFd i ((Ow a.natAbs b.natAbs:Nat):Int):=fun i=>⟨hn,hlg⟩
   refine⟨_,rfl,_,rfl,_,_,rfl,rfl,c1 _,_,rfl,_,rfl,_,_,rfl,rfl,c1 _,sl 2,?_⟩
   exact dk hb (by rw[if_neg h1]) k
theorem xc(T:Txt K mg)(d:Df K mg "times" jt ["one","other"])(Ks:Fn P w K mg base "ratio" 2 ["top","bottom"] J3):Fn P w K mg base "times" 3 ["one","other"] K1:=by
 have sc:=vW
 refine i4 d sc (fun ds M R Y h=>?_) (fun f cdv A outer s H E ds M R Y hr h=>?_)
 ·obtain⟨q,r,rfl,_⟩:=h;rfl
 ·obtain⟨q,r,rfl,hz,k⟩:=h
  refine⟨_,(d8 (e5 (jc Ks hr (a9 (e7 g9 (jx (d4 0) d6) (jx (d4 1) d6)) (a9 (e7 g9 (jx (d4 0) d6) (jx (d4 1) d6)) d5))))),?_⟩
  refine⟨_,rfl,_,rfl,_,rfl,_,rfl,_,_,rfl,rfl,mNN hz,_,rfl,_,rfl,_,rfl,_,rfl,_,_,rfl,rfl,mDD hz,_,_,rfl,NY (RM.u6 q) (RM.u6 r),lDD hz,?_⟩
  rw[RM.pU]at k
  exact k
theorem xh(T:Txt K mg)(d:Df K mg "grown" jy ["ray","share"])(KI:Fn P w K mg base "times" 3 ["one","other"] K1):Fn P w K mg base "grown" 4 ["ray","share"] jO:=by
 have sc:=vZ
 walk_at "fn"
 obtain⟨y,u,g,rfl,⟨h1,h2⟩,k⟩:=h
 refine⟨_,(d8 (e5 (g8 (a9 (jc KI hr (a9 (jx (d4 0) d6) (a9 (d4 1) d5))) (a9 (jc KI hr (a9 (jx (d4 0) d6) (a9 (d4 1) d5))) d5))))),?_⟩
 walk_at "sim"
 exact⟨h1,h2,k⟩
theorem Bw(T:Txt K mg)(d:Df K mg "over" pq ["one","other"])(Ks:Fn P w K mg base "ratio" 2 ["top","bottom"] J3):Fn P w K mg base "over" 3 ["one","other"] iY:=by
 have sc:=AF
 refine i4 d sc (fun ds M R Y h=>?_) (fun f cdv A outer s H E ds M R Y hr h=>?_)
 ·obtain⟨q,r,rfl,_⟩:=h;rfl
 ·obtain⟨q,r,rfl,h0,hz,k⟩:=h
  refine⟨_,(d8 (e5 (jc Ks hr (a9 (e7 g9 (jx (d4 0) d6) (jx (d4 1) d6)) (a9 (e7 g9 (jx (d4 0) d6) (jx (d4 1) d6)) d5))))),?_⟩
  refine⟨_,rfl,_,rfl,_,rfl,_,rfl,_,_,rfl,rfl,mND hz,_,rfl,_,rfl,_,rfl,_,rfl,_,_,rfl,rfl,mDN hz,_,_,rfl,NY (RM.u6 q) (FP h0),lDN hz,?_⟩
  rw[RM.yd]at k
  exact k
theorem tR(T:Txt K mg)(d:Df K mg "sum_by" az ["p","q","ray"]):Fn P w K mg base "sum_by" 1 ["p","q","ray"] cW:=by
 have sc:=hZ
 walk_at "fn"
 obtain⟨p,q,y,u,rfl,hz,k⟩:=h
 refine⟨_,(d7 (t8 (d4 2) (j8 (n:=2) rfl (d9 (jn 3 sc.nd) (d9 (jn 4 sc.nd) i5)))) (d7 (jst 5 sc.nd (e7 C2 (e7 g9 (e7 g9 (e7 g9 (jx (d4 0) d6) (jx (d4 3) d6)) (jx (d4 1) d6)) (jx (d4 4) d6)) (e7 g9 (e7 g9 (e7 g9 (jx (d4 1) d6) (jx (d4 4) d6)) (jx (d4 0) d6)) (jx (d4 3) d6)))) (d8 (e5 (g8 (a9 (d4 5) (a9 (e7 g9 (e7 g9 (e7 g9 (jx (d4 0) d6) (jx (d4 3) d6)) (jx (d4 1) d6)) (jx (d4 4) d6)) d5))))))),?_⟩
 walk_at "sim"
 exact⟨j5 _ _ (m8 p) (m8 y) (by omega),j5 _ _ (o8 (m8 p) (m8 y)) (i9 q) (by omega),j5 _ _ (o8 (o8 (m8 p) (m8 y)) (i9 q)) (i9 u) (by omega),j5 _ _ (m8 q) (m8 u) (by omega),j5 _ _ (o8 (m8 q) (m8 u)) (i9 p) (by omega),j5 _ _ (o8 (o8 (m8 q) (m8 u)) (i9 p)) (i9 y) (by omega),j5 _ _ (i9 p) (i9 y) (by omega),j5 _ _ (o8 (i9 p) (i9 y)) (i9 q) (by omega),j5 _ _ (o8 (o8 (i9 p) (i9 y)) (i9 q)) (i9 u) (by omega),k⟩
theorem nE(T:Txt K mg)(d:Df K mg "value_of" Z3 ["p","q","ray"])(Ks:Fn P w K mg base "ratio" 2 ["top","bottom"] J3)(Lg:Fn P w K mg base "sum_by" 1 ["p","q","ray"] cW):Fn P w K mg base "value_of" 3 ["p","q","ray"] rM:=by
 have sc:=mP
 walk_at "fn"
 obtain⟨p,q,y,u,rfl,hz,k⟩:=h
 refine⟨_,(d7 (t8 (jc Lg hr (a9 (d4 0) (a9 (d4 1) (a9 (d4 2) d5)))) (j8 (n:=2) rfl (d9 (jn 3 sc.nd) (d9 (jn 4 sc.nd) i5)))) (d8 (e5 (jc Ks hr (a9 (d4 3) (a9 (d4 4) d5)))))),?_⟩
 walk_at "sim"
 have b:=yM p q y u
 refine⟨by omega,Gv p q y u,Nf (L6 (V1 b (show _≤8001 by omega)) (by decide)) (by decide),?_⟩
 rw[Av]
 exact k
theorem Bv(T:Txt K mg)(d:Df K mg "plus" pk ["one","other"])(Ks:Fn P w K mg base "ratio" 2 ["top","bottom"] J3):Fn P w K mg base "plus" 3 ["one","other"] T5:=by
 have sc:=AE
 refine i4 d sc (fun ds M R Y h=>?_) (fun f cdv A outer s H E ds M R Y hr h=>?_)
 ·obtain⟨q,r,rfl,_⟩:=h;rfl
 ·obtain⟨q,r,rfl,hz,k⟩:=h
  refine⟨_,(d8 (e5 (jc Ks hr (a9 (e7 C2 (e7 g9 (jx (d4 0) d6) (jx (d4 1) d6)) (e7 g9 (jx (d4 1) d6) (jx (d4 0) d6))) (a9 (e7 g9 (jx (d4 0) d6) (jx (d4 1) d6)) d5))))),?_⟩
  refine⟨_,rfl,_,rfl,_,rfl,_,rfl,_,_,rfl,rfl,mND hz,_,rfl,_,rfl,_,rfl,_,rfl,_,_,rfl,rfl,mND (by omega),_,rfl,_,rfl,_,rfl,_,rfl,_,rfl,_,_,rfl,rfl,mDD hz,_,_,rfl,NY (RM.u6 q) (RM.u6 r),lDD hz,?_⟩
  rw[RM.qp]at k
  exact k
theorem Bs(T:Txt K mg)(d:Df K mg "veer" eG ["one","other"]):Fn P w K mg base "veer" 1 ["one","other"] eK:=by
 have sc:=jf
 walk_at "fn"
 obtain⟨a,b,rfl,⟨ha,hb⟩,k⟩:=h
 unfold sdD
 refine⟨_,(d8 (e5 (e7 G3 (e7 g9 (jx (d4 0) d6) (jx (d4 1) d6)) (e7 g9 (jx (d4 0) d6) (jx (d4 1) d6))))),?_⟩
 walk_at "sim"
 exact⟨j5 _ _ ha.p hb.q (by decide),j5 _ _ ha.q hb.p (by decide),k⟩
theorem tS(T:Txt K mg)(d:Df K mg "met_at" eI ["one","other"])(Ks:Fn P w K mg base "ratio" 2 ["top","bottom"] J3)(Kw:Fn P w K mg base "veer" 1 ["one","other"] eK):Fn P w K mg base "met_at" 3 ["one","other"] ER:=by
 have sc:=tI
 walk_at "fn"
 obtain⟨a,b,rfl,⟨ha,hb,hv⟩,k⟩:=h
 refine⟨_,(d7 (jst 2 sc.nd (jc Kw hr (a9 (d4 0) (a9 (d4 1) d5)))) (d7 (jst 3 sc.nd (jc Ks hr (a9 (e7 G3 (e7 g9 (jx (d4 0) d6) (jx (d4 1) d6)) (e7 g9 (jx (d4 1) d6) (jx (d4 0) d6))) (a9 (d4 2) d5)))) (d7 (jst 4 sc.nd (jc Ks hr (a9 (e7 G3 (e7 g9 (jx (d4 0) d6) (jx (d4 1) d6)) (e7 g9 (jx (d4 1) d6) (jx (d4 0) d6))) (a9 (d4 2) d5)))) (d8 (e5 (g8 (a9 (d4 3) (a9 (d4 4) d5)))))))),?_⟩
 walk_at "sim"
 have lv:(veZ a b).natAbs.log2<9000:=Nf (L6 (ha.ve hb) (by decide)) (by decide)
 refine⟨⟨ha,hb⟩,j5 _ _ ha.r hb.q (by decide),j5 _ _ hb.r ha.q (by decide),hv,lv,j5 _ _ ha.p hb.r (by decide),j5 _ _ hb.p ha.r (by decide),hv,lv,?_⟩
 rw[← wA]at k
 exact k
theorem pQ(T:Txt K mg)(d:Df K mg "veer" eG ["one","other"]):Fn P w K mg base "veer" 1 ["one","other"] jD:=by
 have sc:=jf
 walk_at "fn"
 obtain⟨a,x,y,rfl,⟨ha,hw⟩,k⟩:=h
 unfold sdD
 refine⟨_,(d8 (e5 (e7 G3 (e7 g9 (jx (d4 0) d6) (jx (d4 1) d6)) (e7 g9 (jx (d4 0) d6) (jx (d4 1) d6))))),?_⟩
 walk_at "sim"
 exact⟨j5 _ _ ha.p hw.2 (by decide),j5 _ _ ha.q hw.1 (by decide),k⟩
theorem pP(T:Txt K mg)(d:Df K mg "veer" eG ["one","other"]):Fn P w K mg base "veer" 1 ["one","other"] jC:=by
 have sc:=jf
 walk_at "fn"
 obtain⟨x,y,b,rfl,⟨hb,hw⟩,k⟩:=h
 unfold sdD
 refine⟨_,(d8 (e5 (e7 G3 (e7 g9 (jx (d4 0) d6) (jx (d4 1) d6)) (e7 g9 (jx (d4 0) d6) (jx (d4 1) d6))))),?_⟩
 walk_at "sim"
 exact⟨j5 _ _ hw.1 hb.q (by decide),j5 _ _ hw.2 hb.p (by decide),k⟩
theorem tT(T:Txt K mg)(d:Df K mg "facing" eJ ["side"]):Fn P w K mg base "facing" 1 ["side"] AK:=by
 have sc:=tK
 walk_at "fn"
 obtain⟨a,rfl,k⟩:=h
 unfold sdD
 refine⟨_,(d7 (t8 (d4 0) (j8 (n:=5) rfl (d9 (jn 1 sc.nd) (d9 (jn 2 sc.nd) (d9 (jn 3 sc.nd) (d9 (jn 4 sc.nd) (d9 (jn 5 sc.nd) i5))))))) (d8 (e5 (g8 (a9 (ai (d4 1)) (a9 (ai (d4 2)) (a9 (d4 3) (a9 (d4 4) (a9 (ai (d4 5)) d5))))))))),?_⟩
 walk_at "sim"
 exact k
theorem cC(T:Txt K mg)(d:Df K mg "sides_around" K8 ["half","wanted"])(KW:Fn P w K mg base "veer" 1 ["one","other"] jC)(KY:Fn P w K mg base "veer" 1 ["one","other"] jD)(Lh:Fn P w K mg base "facing" 1 ["side"] AK):Fn P w K mg base "sides_around" 2 ["half","wanted"] EV:=by
 have sc:=cx
 walk_at "fn"
 obtain⟨half,x,y,rfl,⟨hl,hs,hw⟩,k⟩:=h
 refine⟨_,(d7 (jst 2 sc.nd (bb (d4 0) (A3 [] ["side"] [] rfl (by decide +kernel) rfl (by decide +kernel) (by decide +kernel) rfl L8 L8 (p7 (d4 0)) (fun _ _ _ _ _ _=>(jn 0 (show(["side"]:List Str).Nodup by decide +kernel))) (fun _ _ _ _ _ _=>r9) (fun _ _ _ _ _ _=>(jc Lh hr (a9 (d4 0) d5)))))) (d7 (jst 3 sc.nd V4) (d7 (v8 PassesOwn.never rfl (BP rfl T.b_zip (a9 (d4 2) (a9 (bb (D6 (d4 2) (C4 d6) C5) (D6 (d4 2) C5 (C4 d6))) d5))) (j8 (n:=2) rfl (d9 (jn 4 sc.nd) (d9 (jn 5 sc.nd) i5))) (d8 (h8 (E8 (V5 (jtm Ib (jc KY hr (a9 (d4 4) (a9 (d4 1) d5))) d6) (N3 (jtm aW (jc KW hr (a9 (d4 1) (a9 (d4 5) d5))) d6)))) (d8 (jst 3 sc.nd (g8 (a9 (d4 4) (a9 (d4 5) d5))))) f8))) (d8 (e5 (d4 3)))))),?_⟩
 walk_at "sim"
 refine t5 (fun s=>sdD (j4 s)) (by omega) (by simp only[t7]) (fun s hm Q hQ=>?_) ?_
 ·walk_at "sim"
  exact hQ
 have em:half.map (fun s=>sdD (j4 s))=(half.map j4).map sdD:=by rw[Of];rfl
 rw[em]
 walk_at "sim"
 have hrl:(cA half).length≤60:=by unfold cA;rw[NX,Nm];omega
 have hrs:∀ s∈cA half,SzS s:=fun s hm=>by
  rcases NL.mp hm with hm|hm
  ·exact hs s hm
  ·obtain⟨t,ht,rfl⟩:=Nu.mp hm
   obtain⟨a,b,c⟩:=hs t ht
   exact⟨by show(-t.1).natAbs<_;rw[Oo];exact a,by show(-t.2.1).natAbs<_;rw[Oo];exact b,c⟩
 have l1:(Ol sdD half).length+(Ol sdD (Ol j4 half)).length≤60:=by rw[Nm,Nm,Nm];omega
 have k:R (Bo ((cI (cA half)).foldl (bw (x,y)) none)) M:=k
 rw[B3 (by omega),AR]
 generalize cA half=rm at *
 have c1:DL.O4 (rm.map sdD) (some 1) none=(rm.drop 1).map sdD:=by rw[show(1:Int)=((1:Nat):Int)from rfl,Ci,RU]
 have c2:DL.O4 (rm.map sdD) none (some 1)=(rm.take 1).map sdD:=by rw[show(1:Int)=((1:Nat):Int)from rfl,kP,Qt]
 rw[c1,c2,B3 (by rw[Nm,Nm,OD,NU];omega),← NF,uk]
 have ez:rm.zip (rm.drop 1++rm.take 1)=cI rm:=rfl
 rw[ez]
 refine T1.by (fun i e M'=>M'=M∧∃ z4 z5:Option D,e=[some (D.vl (Ol sdD half)),some (D.vl [D.int x,D.int y]),some (D.vl (rm.map sdD)),some (Bo (((cI rm).take i).foldl (bw (x,y)) none)),z4,z5]) ⟨rfl,_,_,rfl⟩ (fun i e M' _ _=>by simp only[t7,and_self]) ?_ ?_
 ·rintro i dd e M' hd ⟨rfl,z4,z5,rfl⟩
  rw[ND]at hd
  cases hq:(cI rm)[i]? with
  | none=>rw[hq]at hd;cases hd
  | some ab =>
   rw[hq]at hd
   obtain rfl:=Option.some.inj hd
   have e1:((cI rm).take (i+1)).foldl (bw (x,y)) none=bw (x,y) (((cI rm).take i).foldl (bw (x,y)) none) ab:=by
    rw[Oz,hq,OO];rfl
   have hm:=Nq hq
   obtain⟨ha,hb⟩:ab.1∈rm∧ab.2∈rm:=by
    have hz:=PN (show(ab.1,ab.2)∈rm.zip (rm.drop 1++rm.take 1)from hm)
    refine⟨hz.1,?_⟩
    rcases NL.mp hz.2 with h|h
    ·exact OL h
    ·exact Ot h
   rw[e1]
   generalize ((cI rm).take i).foldl (bw (x,y)) none=f at *
   walk_at "sim"
   unfold bw
   refine⟨⟨hrs _ ha,hw⟩,fun h1=>⟨⟨hrs _ hb,hw⟩,fun h2=>⟨some (sdD ab.1),some (sdD ab.2),?_⟩,fun h2=>⟨some (sdD ab.1),some (sdD ab.2),?_⟩⟩,fun h1=>⟨some (sdD ab.1),some (sdD ab.2),?_⟩⟩
   ·rw[if_pos ⟨h1,h2⟩];rfl
   ·rw[if_neg (fun z=>h2 z.2)]
   ·rw[if_neg (fun z=>h1 z.1)]
 ·rw[Nm,Ox]
  rintro e M' ⟨rfl,z4,z5,rfl⟩
  walk_at "sim"
  exact k
theorem cB(T:Txt K mg)(d:Df K mg "tops_over" M0 ["ratios","bottom"]):Fn P w K mg base "tops_over" 1 ["ratios","bottom"] pD:=by
 have sc:=ax
 walk_at "fn"
 obtain⟨p,q,c,rfl,⟨⟨h1,h2⟩,rfl⟩,k⟩:=h
 refine⟨_,(d8 (e5 (A3 [1] ["one"] ["bottom"] rfl (by decide +kernel) rfl (by decide +kernel) (by decide +kernel) rfl (bx ⟨rfl,rfl⟩) (bx (Or.inl rfl)) (p7 (d4 0)) (fun _ _ _ _ _ _=>(jn 0 (show(["one","bottom"]:List Str).Nodup by decide +kernel))) (fun _ _ _ _ _ _=>r9) (fun _ _ _ _ _ _=>(e7 g9 (jx (d4 0) d6) (e7 L4 (d4 1) (jx (d4 0) d6))))))),?_⟩
 walk_at "sim"
 refine t5 (xs:=[p,q]) (enc:=e8) (fun r=>.int (P9 r (cb2 p q))) (by show 2≤1000;decide) (by simp only[v6]) (fun r hr Q hQ=>?_) k
 have hrz:sz r≤1100:=by
  simp only[Nh,Nv,or_false]at hr
  rcases hr with rfl|rfl
  ·exact h1
  ·exact h2
 have d0:=r.den_pos
 have hd:r.den<2 ^ 1100:=p8 r hrz
 have ef:((cb2 p q:Nat):Int).fdiv (r.den:Int)=((cb2 p q / r.den:Nat):Int):=by rw[bj (by omega) (by omega)];rfl
 walk_at "sim"
 rw[ef]
 exact⟨⟨by omega,Nf (L6 (by rw[Np];exact hd) (by decide)) (by decide)⟩,j5 1100 2200 (N0 r hrz) (by rw[Np];exact NK (OV _ _) (yz h1 h2)) (by decide),hQ⟩
theorem Y1(T:Txt K mg)(d:Df K mg "common_bottom" E5 ["ratios"])(Kz:Fn P w K mg base "divisor" 1 ["one","other"] O5):Fn P w K mg base "common_bottom" 2 ["ratios"] EU:=by
 have sc:=O8
 walk_at "fn"
 obtain⟨p,q,rfl,⟨h1,h2⟩,k⟩:=h
 refine⟨_,(d7 (jst 1 sc.nd d6) (d7 (v8 PassesOwn.never rfl (p7 (d4 0)) (jn 2 sc.nd) (d8 (jst 1 sc.nd (e7 g9 (e7 L4 (d4 1) (jc Kz hr (a9 (d4 1) (a9 (jx (d4 2) d6) d5)))) (jx (d4 2) d6))))) (d8 (e5 (d4 1))))),?_⟩
 walk_at "sim"
 refine T1.by (fun i e M'=>M'=M∧∃ z:Option D,e=[some (A5 p q),some (.int ((([p,q].take i).foldl (fun c q=>B0 c q.den) 1:Nat):Int)),z]) ⟨rfl,_,rfl⟩ (fun i e M' _ h=>by rw[h.1];simp only[v6]) ?_ ?_
 ·rintro i dd e M' hd ⟨rfl,z,rfl⟩
  obtain⟨r,hr,hrz,hi,rfl⟩:∃ r:Rat,[p,q][i]? = some r∧sz r≤1100∧i<2∧dd=e8 r:=by
   have hi:i<2:=(Nw.mp hd).1
   rcases(show i=0∨i=1 by omega)with rfl|rfl
   ·cases hd;exact⟨p,rfl,h1,hi,rfl⟩
   ·cases hd;exact⟨q,rfl,h2,hi,rfl⟩
  have e1:([p,q].take (i+1)).foldl (fun c q=>B0 c q.den) 1=B0 (([p,q].take i).foldl (fun c q=>B0 c q.den) 1) r.den:=by
   rw[Oz,hr,OO];rfl
  have hc:0<([p,q].take i).foldl (fun c q=>B0 c q.den) 1∧([p,q].take i).foldl (fun c q=>B0 c q.den) 1<2 ^ 1101:=by
   rcases(show i=0∨i=1 by omega)with rfl|rfl
   ·exact⟨Nat.one_pos,Rf (by decide)⟩
   ·refine⟨by show 0<B0 1 p.den;rw[S0];exact Qr (by decide) p.den_pos,?_⟩
    show B0 1 p.den<_
    have:=D5 1 p.den
    exact NK (by omega) (V1 (p8 p h1) (by decide))
  have hd2:r.den<2 ^ 1100:=p8 r hrz
  rw[e1]
  obtain⟨hc0,hb⟩:=hc
  generalize ([p,q].take i).foldl (fun c q=>B0 c q.den) 1=c at *
  have g0:0<Ow c r.den:=Pf _ r.den_pos
  have g1:Ow c r.den<2 ^ 1100:=NK (Nat.le_of_dvd r.den_pos (Rm _ _)) hd2
  have ef:(c:Int).fdiv (Ow c r.den:Nat)=((c / Ow c r.den:Nat):Int):=by rw[bj (by omega) (by omega)];rfl
  walk_at "sim"
  rw[ef]
  refine⟨⟨by omega,Nf (L6 (by rw[Np];exact g1) (by decide)) (by decide)⟩,?_,some (e8 r),?_⟩
  ·exact j5 1101 1100 (by rw[Np];exact NK (OV _ _) hb) (by rw[Np];exact hd2) (by decide)
  ·unfold B0
   rw[Pn]
 ·rintro e M' ⟨rfl,z,rfl⟩
  walk_at "sim"
  exact k
theorem eO(T:Txt K mg)(d:Df K mg "most_around" N9 ["half","p","q"])(LK:Fn P w K mg base "met_at" 3 ["one","other"] ER)(Ks:Fn P w K mg base "ratio" 2 ["top","bottom"] J3)(Kw:Fn P w K mg base "veer" 1 ["one","other"] eK)(KY:Fn P w K mg base "veer" 1 ["one","other"] jD)(KW:Fn P w K mg base "veer" 1 ["one","other"] jC)(KZ:Fn P w K mg base "sides_around" 2 ["half","wanted"] EV)(La:Fn P w K mg base "tops_over" 1 ["ratios","bottom"] pD)(KA:Fn P w K mg base "common_bottom" 2 ["ratios"] EU):Fn P w K mg base "most_around" 4 ["half","p","q"] wj:=by
 have sc:=eD
 walk_at "fn"
 obtain⟨half,p,q,rfl,⟨⟨hl,hs⟩,⟨hp,hq⟩,a,b,ea,⟨sa,sb⟩,hv,hn,ca,cb⟩,k⟩:=h
 have wz:=Jm hp hq
 refine⟨_,(d7 (jst 3 sc.nd (jc KA hr (a9 (g8 (a9 (d4 1) (a9 (d4 2) d5))) d5))) (d7 (jst 4 sc.nd (jc La hr (a9 (g8 (a9 (d4 1) (a9 (d4 2) d5))) (a9 (d4 3) d5)))) (d7 (t8 (jc KZ hr (a9 (d4 0) (a9 (d4 4) d5))) (j8 (n:=2) rfl (d9 (jn 5 sc.nd) (d9 (jn 6 sc.nd) i5)))) (d7 (jst 7 sc.nd (jc KW hr (a9 (d4 4) (a9 (d4 6) d5)))) (d7 (jst 8 sc.nd (jc KY hr (a9 (d4 5) (a9 (d4 4) d5)))) (d7 (jst 9 sc.nd (e7 g9 (d4 3) (jc Kw hr (a9 (d4 5) (a9 (d4 6) d5))))) (d7 (jst 10 sc.nd (jc Ks hr (a9 (e7 C2 (e7 g9 (d4 7) (jx (d4 5) d6)) (e7 g9 (d4 8) (jx (d4 6) d6))) (a9 (d4 9) d5)))) (d7 (jst 11 sc.nd (B6 (a9 (g8 (a9 (jx (d4 5) d6) (a9 (jc Ks hr (a9 (e7 g9 (d4 7) (jx (d4 5) d6)) (a9 (d4 9) d5))) d5))) (a9 (g8 (a9 (jx (d4 6) d6) (a9 (jc Ks hr (a9 (e7 g9 (d4 8) (jx (d4 6) d6)) (a9 (d4 9) d5))) d5))) d5)))) (d8 (e5 (g8 (a9 B5 (a9 (d4 10) (a9 (jc LK hr (a9 (d4 5) (a9 (d4 6) d5))) (a9 (fc (j3 yJ rfl T.b_sorted iJ (a9 (A3 [] ["pair"] [] rfl (by decide +kernel) rfl (by decide +kernel) (by decide +kernel) rfl L8 L8 (p7 (d4 11)) (fun _ _ _ _ _ _=>(jn 0 (show(["pair"]:List Str).Nodup by decide +kernel))) (fun _ _ _ _ _ _=>(iy (jtm (rV hu) (jx (d4 0) d6) (B1 rfl T.c_NOUGHT)))) (fun _ _ _ _ _ _=>(d4 0))) d5))) d5))))))))))))))),?_⟩
 walk_at "sim"
 refine⟨⟨hp,hq⟩,⟨hp,hq⟩,⟨hl,hs,wz⟩,?_⟩
 have ea':cJ half ((wtF p q).1,(wtF p q).2)=some (a,b):=ea
 rw[ea']
 unfold Bo
 walk_at "sim"
 have k:R (match cJ half (wtF p q)with|none=>G1.free (0,0)|some (a,b)=>.most (vlF a b (wtF p q) (cb2 p q)) (ry (tri a) (tri b)) (shF a b (wtF p q) (cb2 p q)):G1).toD M:=k
 rw[ea]at k
 have c0:=br p q
 have cl:=yz hp hq
 have vl:=sa.ve sb
 have w1:(wVe (wtF p q) b).natAbs<2 ^ 3401:=by
  have h1:=B7 wz.1 sb.q
  have h2:=B7 wz.2 sb.p
  unfold wVe
  have:=Pa ((wtF p q).1*b.2.1) ((wtF p q).2*b.1)
  rw[show 3401=2200+1200+1 from rfl,Om]
  omega
 have w2:(veW a (wtF p q)).natAbs<2 ^ 3401:=by
  have h1:=B7 sa.p wz.2
  have h2:=B7 sa.q wz.1
  unfold veW
  have:=Pa (a.1*(wtF p q).2) (a.2.1*(wtF p q).1)
  rw[show 3401=1200+2200+1 from rfl,Om]
  omega
 have wn:(((cb2 p q:Nat):Int)*veZ a b).natAbs<2 ^ 4601:=by
  have:=B7 (a:=((cb2 p q:Nat):Int)) (by rw[Np];exact cl) vl
  exact this
 have w0:((cb2 p q:Nat):Int)*veZ a b≠0:=NY (by omega) (by omega)
 have wl:(((cb2 p q:Nat):Int)*veZ a b).natAbs.log2<9000:=Nf (L6 wn (by decide)) (by decide)
 refine⟨⟨sb,wz⟩,⟨sa,wz⟩,⟨sa,sb⟩,j5 2200 2401 (by rw[Np];exact cl) vl (by decide),j5 _ _ w1 sa.r (by decide),j5 _ _ w2 sb.r (by decide),w0,wl,?_⟩
 refine⟨.int a.2.2.2.1,rfl,.int a.2.2.2.2,rfl,_,_,rfl,rfl,j5 _ _ w1 ca (by decide),?_⟩
 show J3 [.int (wVe (wtF p q) b*a.2.2.2.2),.int (((cb2 p q:Nat):Int)*veZ a b)] M _ Y0
 walk_at "sim"
 refine⟨w0,wl,.int b.2.2.2.1,rfl,.int b.2.2.2.2,rfl,_,_,rfl,rfl,j5 _ _ w2 cb (by decide),?_⟩
 show J3 [.int (veW a (wtF p q)*b.2.2.2.2),.int (((cb2 p q:Nat):Int)*veZ a b)] M _ Y0
 walk_at "sim"
 refine⟨w0,wl,⟨sa,sb,by omega⟩,?_⟩
 have eS:∀(n:Int) (r:Rat),D.tup [.int n,e8 r]=shD (n,r):=fun _ _=>rfl
 refine bp (xs:=[(a.2.2.2.1,NM (wVe (wtF p q) b*a.2.2.2.2) (((cb2 p q:Nat):Int)*veZ a b)),(b.2.2.2.1,NM (veW a (wtF p q)*b.2.2.2.2) (((cb2 p q:Nat):Int)*veZ a b))]) (enc:=shD) (fun s=>decide (s.2≠0)) shD (by show 2≤1000;decide) (by simp only[t7]) (fun s hs Q N h1 h2=>?_) ?_
 ·unfold shD at h1 ⊢
  walk_at "sim"
  exact⟨fun h=>h1 (decide_eq_true h),fun h=>h2 (decide_eq_false fun z=>z h)⟩
 ·have k:R (.tup [.str "most",e8 (vlF a b (wtF p q) (cb2 p q)),rD (ry (tri a) (tri b)),.vl ((shF a b (wtF p q) (cb2 p q)).map shD)]) M:=k
  unfold shF at k
  have two:∀ fs:List (Int × Rat),(fs.length<2 ∨ ∃ x y,fs=[x,y]∧x.1≠y.1)→R (.tup [.str "most",e8 (vlF a b (wtF p q) (cb2 p q)),rD (ry (tri a) (tri b)),.vl ((eu fs).map shD)]) M→Iv [.vl (fs.map shD)] M fun x M1=>yX x M1 fun x M1=>R (.tup [.str "most",e8 (vlF a b (wtF p q) (cb2 p q)),rD (ry (tri a) (tri b)),x]) M1:=fun fs hf kf=>by
   refine⟨_,fs.map shD,rfl,rfl,?_⟩
   rcases hf with hf|⟨x,y,rfl,hne⟩
   ·have es:eu fs=fs:=by
     match fs,hf with
     | [],_=>rfl
     | [_],_=>rfl
    rw[es]at kf
    exact .inl ⟨by rw[Nm];exact hf,fun ad had=>yW had kf⟩
   ·refine .inr ⟨x.1,y.1,[e8 x.2],[e8 y.2],rfl,hne,fun ad had=>yW had ?_⟩
    have kf:R (.tup [.str "most",e8 (vlF a b (wtF p q) (cb2 p q)),rD (ry (tri a) (tri b)),.vl ((if y.1<x.1 then[y,x]else[x,y]).map shD)]) M:=kf
    by_cases c:y.1<x.1
    ·rw[if_pos c]at kf ⊢;exact kf
    ·rw[if_neg c]at kf ⊢;exact kf
  refine two _ ?_ k
  generalize NM (wVe (wtF p q) b*a.2.2.2.2) (((cb2 p q:Nat):Int)*veZ a b)=r1
  generalize NM (veW a (wtF p q)*b.2.2.2.2) (((cb2 p q:Nat):Int)*veZ a b)=r2
  by_cases q1:r1=0
  ·left
   rw[Oe (by simp[q1])]
   exact NK (OH _ _) (by show 1<2;decide)
  ·by_cases q2:r2=0
   ·left
    rw[NN (by simp[q1]),Oe (by simp[q2])]
    show 1<2;decide
   ·right
    refine⟨(a.2.2.2.1,r1),(b.2.2.2.1,r2),?_,hn⟩
    rw[NN (by simp[q1]),NN (by simp[q2])];rfl
theorem nF(T:Txt K mg)(d:Df K mg "unsigned" Z4 ["one"]):Fn P w K mg base "unsigned" 1 ["one"] eB:=by
 have sc:=mQ
 walk_at "fn"
 obtain⟨q,rfl,k⟩:=h
 refine⟨_,(d8 (e5 (g8 (a9 (j3 fj rfl T.b_abs ak (a9 (jx (d4 0) d6) d5)) (a9 (jx (d4 0) d6) d5))))),?_⟩
 walk_at "sim"
 exact k
theorem nI(T:Txt K mg)(d:Df K mg "opposite" Z6 ["one"]):Fn P w K mg base "opposite" 1 ["one"] rG:=by
 have sc:=mS
 refine i4 d sc (fun ds M R Y h=>?_) (fun f cdv A outer s H E ds M R Y hr h=>?_)
 ·obtain⟨q,rfl,_⟩:=h;rfl
 ·obtain⟨q,rfl,k⟩:=h
  refine⟨_,(d8 (e5 (g8 (a9 (ai (jx (d4 0) d6)) (a9 (jx (d4 0) d6) d5))))),?_⟩
  refine⟨_,rfl,_,rfl,_,rfl,_,rfl,_,rfl,sl 2,?_⟩
  have e:e8 (-q) = .tup [.int (-q.num),.int (q.den:Int)]:=by unfold e8;rw[Qq,QU]
  rw[e]at k
  exact k
theorem xg(T:Txt K mg)(d:Df K mg "minus" jv ["one","other"])(LF:Fn P w K mg base "plus" 3 ["one","other"] T5)(KC:Fn P w K mg base "opposite" 1 ["one"] rG):Fn P w K mg base "minus" 4 ["one","other"] iZ:=by
 have sc:=vY
 refine i4 d sc (fun ds M R Y h=>?_) (fun f cdv A outer s H E ds M R Y hr h=>?_)
 ·obtain⟨q,r,rfl,_⟩:=h;rfl
 ·obtain⟨q,r,rfl,hz,k⟩:=h
  refine⟨_,(d8 (e5 (jc LF hr (a9 (d4 0) (a9 (jc KC hr (a9 (d4 1) d5)) d5))))),?_⟩
  refine⟨_,rfl,_,rfl,r,rfl,q,-r,rfl,by rw[RM.T4];exact hz,?_⟩
  rw[Rb]at k
  exact k
theorem xi(T:Txt K mg)(d:Df K mg "cross" jz ["one","other"])(LR:Fn P w K mg base "minus" 4 ["one","other"] iZ)(KI:Fn P w K mg base "times" 3 ["one","other"] K1):Fn P w K mg base "cross" 5 ["one","other"] jQ:=by
 have sc:=wa
 walk_at "fn"
 obtain⟨y,u,z,w,rfl,hz,k⟩:=h
 refine⟨_,(d7 (t8 (d4 0) (j8 (n:=2) rfl (d9 (jn 2 sc.nd) (d9 (jn 3 sc.nd) i5)))) (d7 (t8 (d4 1) (j8 (n:=2) rfl (d9 (jn 4 sc.nd) (d9 (jn 5 sc.nd) i5)))) (d8 (e5 (jc LR hr (a9 (jc KI hr (a9 (d4 2) (a9 (d4 5) d5))) (a9 (jc KI hr (a9 (d4 4) (a9 (d4 3) d5))) d5))))))),?_⟩
 walk_at "sim"
 have m1:=RM.j9 y w
 have m2:=RM.j9 z u
 exact⟨by omega,by omega,by omega,k⟩
theorem fR(T:Txt K mg)(d:Df K mg "most_along" Q3 ["lines","number","p","q"])(Lz:Fn P w K mg base "grown" 4 ["ray","share"] jO)(Lr:Fn P w K mg base "over" 3 ["one","other"] iY)(KN:Fn P w K mg base "value_of" 3 ["p","q","ray"] rM)(KI:Fn P w K mg base "times" 3 ["one","other"] K1)(KO:Fn P w K mg base "unsigned" 1 ["one"] eB)(KC:Fn P w K mg base "opposite" 1 ["one"] rG)(LS:Fn P w K mg base "cross" 5 ["one","other"] jQ):Fn P w K mg base "most_along" 6 ["lines","number","p","q"] rN:=by
 have sc:=fG
 walk_at "fn"
 obtain⟨ls,n,p,q,rfl,l,j,rfl,hj,ok,hpq,⟨hp,hq⟩,k⟩:=h
 have z1:=ok.p6
 have z2:=ok.q6
 have z3:=ok.r6
 have r0:=ok.pos
 have ne:=ok.ne
 refine⟨_,(d7 (t8 (jx (d4 0) (d4 1)) (j8 (n:=3) rfl (d9 (jn 4 sc.nd) (d9 (jn 5 sc.nd) (d9 (jn 6 sc.nd) i5))))) (d7 (jst 7 sc.nd (jc LS hr (a9 (g8 (a9 (d4 4) (a9 (d4 5) d5))) (a9 (g8 (a9 (d4 2) (a9 (d4 3) d5))) d5)))) (d7 (h8 (jtm cF (jx (d4 7) d6) d6) (d8 (e5 (g8 (a9 B5 (a9 (g8 (a9 (d4 5) (a9 (jc KC hr (a9 (d4 4) d5)) d5))) d5))))) f8) (d7 (h8 (jtm aW (jx (d4 7) d6) d6) (d8 (e5 (g8 (a9 B5 (a9 (g8 (a9 (jc KC hr (a9 (d4 5) d5)) (a9 (d4 4) d5))) d5))))) f8) (d7 (jst 8 sc.nd (fb (jtm (eU hu) (d4 4) (B1 rfl T.c_NOUGHT)) (jc Lr hr (a9 (d4 3) (a9 (d4 5) d5))) (jc Lr hr (a9 (d4 2) (a9 (d4 4) d5))))) (d7 (jst 9 sc.nd (jc KI hr (a9 (jc KO hr (a9 (d4 8) d5)) (a9 (d4 6) d5)))) (d7 (jst 10 sc.nd (jc Lz hr (a9 (g8 (a9 (d4 2) (a9 (d4 3) d5))) (a9 (jc Lr hr (a9 (d4 9) (a9 (jc KN hr (a9 (d4 2) (a9 (d4 3) (a9 (g8 (a9 (d4 2) (a9 (d4 3) d5))) d5)))) d5))) d5)))) (d8 (e5 (g8 (a9 B5 (a9 (d4 9) (a9 (d4 10) (a9 (B6 (a9 (g8 (a9 (d4 1) (a9 (d4 8) d5))) d5)) d5)))))))))))))),?_⟩
 walk_at "sim"
 refine⟨e9 l,by show atI (ls.map e9) (j:Int)=_;rw[N5 (by rw[ND,hj];rfl)],?_⟩
 walk_at "sim"
 have sq:=ey hpq
 have a3:=RM.j9 p p
 have a4:=RM.j9 q q
 have a5:=RM.C9 (p*p) (q*q)
 rw[cm,xl]
 unfold A0 at k
 refine⟨by omega,fun c1=>?_,fun c1=>⟨fun c2=>?_,fun c2=>⟨fun c3=>?_,fun c3=>?_⟩⟩⟩
 ·rw[if_pos c1]at k;exact k
 ·rw[if_neg c1,if_pos c2]at k;exact k
 ·have n2:l.2.1≠0:=fun w=>ne ⟨c3,w⟩
  have a1:=RM.J5 q l.2.1 n2
  have a2:=Q0 (q / l.2.1)
  have a6:=RM.j9 (j0 (q / l.2.1)) l.2.2
  have a7:=RM.J5 (j0 (q / l.2.1)*l.2.2) (p*p+q*q) (D2 sq)
  rw[if_neg c1,if_neg c2,if_pos c3]at k
  exact⟨n2,by omega,by omega,by omega,D2 sq,by omega,⟨by omega,by omega⟩,k⟩
 ·have a1:=RM.J5 p l.1 c3
  have a2:=Q0 (p / l.1)
  have a6:=RM.j9 (j0 (p / l.1)) l.2.2
  have a7:=RM.J5 (j0 (p / l.1)*l.2.2) (p*p+q*q) (D2 sq)
  rw[if_neg c1,if_neg c2,if_neg c3]at k
  exact⟨c3,by omega,by omega,by omega,D2 sq,by omega,⟨by omega,by omega⟩,k⟩
theorem Bt(T:Txt K mg)(d:Df K mg "turn" ph ["one","other","third"])(Kw:Fn P w K mg base "veer" 1 ["one","other"] eK):Fn P w K mg base "turn" 2 ["one","other","third"] we:=by
 have sc:=AB
 walk_at "fn"
 obtain⟨a,b,c,rfl,⟨ha,hb,hc⟩,k⟩:=h
 refine⟨_,(d8 (e5 (e7 C2 (e7 G3 (e7 g9 (jx (d4 0) d6) (jc Kw hr (a9 (d4 1) (a9 (d4 2) d5)))) (e7 g9 (jx (d4 1) d6) (jc Kw hr (a9 (d4 0) (a9 (d4 2) d5))))) (e7 g9 (jx (d4 2) d6) (jc Kw hr (a9 (d4 0) (a9 (d4 1) d5))))))),?_⟩
 walk_at "sim"
 have v1:=ha.ve hb
 have v2:=ha.ve hc
 have v3:=hb.ve hc
 exact⟨⟨hb,hc⟩,j5 _ _ ha.r v3 (by decide),⟨ha,hc⟩,j5 _ _ hb.r v2 (by decide),⟨ha,hb⟩,j5 _ _ hc.r v1 (by decide),k⟩
theorem km(T:Txt K mg)(d:Df K mg "next_side" T9 ["sides","here"])(Kw:Fn P w K mg base "veer" 1 ["one","other"] eK)(Mt:Fn P w K mg base "turn" 2 ["one","other","third"] we):Fn P w K mg base "next_side" 3 ["sides","here"] EO:=by
 have sc:=ji
 walk_at "fn"
 obtain⟨ss,g,rfl,⟨hg,hz⟩,k⟩:=h
 refine⟨_,(d7 (jst 2 sc.nd V4) (d7 (v8 PassesOwn.never rfl (p7 (d4 0)) (jn 3 sc.nd) (d8 (h8 (jtm aW (jc Kw hr (a9 (d4 1) (a9 (d4 3) d5))) d6) (d7 (jst 4 sc.nd (fb (jtm JN (d4 2) V4) (ai d6) (jc Mt hr (a9 (d4 1) (a9 (d4 2) (a9 (d4 3) d5)))))) (d8 (h8 (E8 (J9 (jtm cF (d4 4) d6) (J7 (E8 (V5 (jtm G4 (d4 4) d6) (N3 (jtm aW (jc Kw hr (a9 (d4 2) (a9 (d4 3) d5))) d6))))))) (d8 (jst 2 sc.nd (d4 3))) f8))) f8))) (d8 (e5 (d4 2))))),?_⟩
 walk_at "sim"
 refine T1.by (fun i e M'=>M'=M∧(∀ f,(ss.take i).foldl (R8 g) none=some f→SzS f)∧∃ z3 z4:Option D,e=[some (.vl (ss.map sdD)),some (sdD g),some (nD ((ss.take i).foldl (R8 g) none)),z3,z4]) ⟨rfl,fun f z=>(by cases z),_,_,rfl⟩ (fun i e M' _ h=>by rw[h.1];simp only[t7]) ?_ ?_
 ·rintro i dd e M' hd ⟨rfl,hf,z3,z4,rfl⟩
  rw[ND]at hd
  cases hq:ss[i]? with
  | none=>rw[hq]at hd;cases hd
  | some t =>
   rw[hq]at hd
   obtain rfl:=Option.some.inj hd
   have ht:=hz t (Nq hq)
   have e1:(ss.take (i+1)).foldl (R8 g) none=R8 g ((ss.take i).foldl (R8 g) none) t:=by
    rw[Oz,hq,OO];rfl
   rw[e1]
   generalize (ss.take i).foldl (R8 g) none=f at *
   walk_at "sim"
   refine⟨⟨hg,ht⟩,fun z=>?_,fun z=>?_⟩
   ·cases f with
    | none =>
     have en:R8 g none t=some t:=by unfold R8;rw[if_pos z];rfl
     rw[en,show nD none=D.non from rfl,mz (b:=true) rfl]
     walk_at "sim"
     refine⟨fun f' hf'=>by cases hf';exact ht,_,_,rfl⟩
    | some f =>
     have hff:=hf f rfl
     rw[show nD (some f)=sdD f from rfl,mz (b:=false) rfl]
     walk_at "sim"
     refine⟨⟨hg,hff,ht⟩,?_⟩
     have en:∀ b:Bool,Cp g (some f) t=b→R8 g (some f) t=if b=true then some t else some f:=fun b hb=>by unfold R8;rw[if_pos z,hb]
     have done:∀ b:Bool,Cp g (some f) t=b→(∀ f',R8 g (some f) t=some f'→SzS f')∧nD (R8 g (some f) t)=if b=true then sdD t else sdD f:=fun b hb=>by
      rw[en b hb]
      cases b with
      | true=>exact⟨fun f' h=>by cases h;exact ht,rfl⟩
      | false=>exact⟨fun f' h=>by cases h;exact hff,rfl⟩
     refine⟨fun z1=>?_,fun z1=>⟨fun z2=>⟨⟨hff,ht⟩,fun z3=>?_,fun z3=>?_⟩,fun z2=>?_⟩⟩
     ·obtain⟨q1,q2⟩:=done true (by show(decide _ || _)=true;rw[decide_eq_true z1];rfl)
      exact⟨q1,some (sdD t),some (.int (tnZ g f t)),by rw[q2];rfl⟩
     ·obtain⟨q1,q2⟩:=done true (by show(decide _ || (decide _ && decide _))=true;rw[decide_eq_true z2,decide_eq_true z3,RO];exact .inr rfl)
      exact⟨q1,some (sdD t),some (.int (tnZ g f t)),by rw[q2];rfl⟩
     ·obtain⟨q1,q2⟩:=done false (by show(decide _ || (decide _ && decide _))=false;rw[decide_eq_false z1,decide_eq_false z3,Pb];rfl)
      exact⟨q1,some (sdD t),some (.int (tnZ g f t)),by rw[q2];rfl⟩
     ·obtain⟨q1,q2⟩:=done false (by show(decide _ || (decide _ && decide _))=false;rw[decide_eq_false z1,decide_eq_false z2];rfl)
      exact⟨q1,some (sdD t),some (.int (tnZ g f t)),by rw[q2];rfl⟩
   ·have en:R8 g f t=f:=by unfold R8;rw[if_neg z]
    rw[en]
    exact⟨hf,_,_,rfl⟩
 ·rintro e M' ⟨rfl,hf,z3,z4,rfl⟩
  walk_at "sim"
  rw[Nm,Ox]
  exact k
theorem ko(T:Txt K mg)(d:Df K mg "juts_more" U0 ["one","other"]):Fn P w K mg base "juts_more" 1 ["one","other"] wq:=by
 have sc:=jj
 walk_at "fn"
 obtain⟨a,b,rfl,⟨ha,hb⟩,k⟩:=h
 refine⟨_,(d7 (jst 2 sc.nd (e7 G3 (e7 g9 (jx (d4 0) d6) (jx (d4 1) d6)) (e7 g9 (jx (d4 1) d6) (jx (d4 0) d6)))) (d7 (h8 (jtm G4 (d4 2) d6) (d8 (jst 2 sc.nd (e7 G3 (e7 g9 (jx (d4 0) d6) (jx (d4 1) d6)) (e7 g9 (jx (d4 1) d6) (jx (d4 0) d6))))) f8) (d8 (e5 (jm aW (d4 2) d6))))),?_⟩
 walk_at "sim"
 refine⟨j5 _ _ ha.p hb.r (by decide),j5 _ _ hb.p ha.r (by decide),fun z=>⟨j5 _ _ ha.q hb.r (by decide),j5 _ _ hb.q ha.r (by decide),?_⟩,fun z=>?_⟩
 ·unfold F6 at k
  rw[if_pos z]at k
  exact k
 ·unfold F6 at k
  rw[if_neg z]at k
  exact k
theorem kj(T:Txt K mg)(d:Df K mg "outermost" T7 ["sides"])(Ls:Fn P w K mg base "juts_more" 1 ["one","other"] wq):Fn P w K mg base "outermost" 2 ["sides"] wg:=by
 have sc:=jg
 walk_at "fn"
 obtain⟨ss,rfl,⟨s,r,e⟩,hz,k⟩:=h
 have e0:ss.headD (0,0,0,0,0)=s:=by rw[e];rfl
 rw[e0]at k
 refine⟨_,(d7 (jst 1 sc.nd (jx (d4 0) d6)) (d7 (v8 PassesOwn.never rfl (p7 (d4 0)) (jn 2 sc.nd) (d8 (h8 (u7 (jc Ls hr (a9 (d4 2) (a9 (d4 1) d5)))) (d8 (jst 1 sc.nd (d4 2))) f8))) (d8 (e5 (d4 1))))),?_⟩
 walk_at "sim"
 have ei:atI (ss.map sdD) 0=some (sdD s):=by rw[e];exact u8 (n:=0) rfl
 refine⟨_,ei,?_⟩
 have hs:SzS s:=hz s (by rw[e];exact Nk)
 refine T1.by (fun i e M'=>M'=M∧∃ z:Option D,e=[some (.vl (ss.map sdD)),some (sdD (D4 (ss.take i) s)),z]) ⟨rfl,_,rfl⟩ (fun i e M' _ h=>by rw[h.1];simp only[t7]) ?_ ?_
 ·rintro i dd e M' hd ⟨rfl,z,rfl⟩
  rw[ND]at hd
  cases hq:ss[i]? with
  | none=>rw[hq]at hd;cases hd
  | some t =>
   rw[hq]at hd
   obtain rfl:=Option.some.inj hd
   have ht:=hz t (Nq hq)
   have ho:SzS (D4 (ss.take i) s):=by
    rcases aU (ss.take i) s with h|h
    ·rw[h];exact hs
    ·exact hz _ (Ot h)
   have e1:D4 (ss.take (i+1)) s=if F6 t (D4 (ss.take i) s)=true then t else D4 (ss.take i) s:=by
    unfold D4
    rw[Oz,hq,OO];rfl
   rw[e1]
   walk_at "sim"
   refine⟨⟨ht,ho⟩,fun z=>⟨some (sdD t),?_⟩,fun z=>⟨some (sdD t),?_⟩⟩
   ·rw[if_pos z]
   ·rw[if_neg (by rw[z];decide)]
 ·rintro e M' ⟨rfl,z,rfl⟩
  walk_at "sim"
  rw[Nm,Ox]
  exact k
theorem kg(T:Txt K mg)(d:Df K mg "tops_over" M0 ["ratios","bottom"]):Fn P w K mg base "tops_over" 1 ["ratios","bottom"] pC:=by
 have sc:=ax
 walk_at "fn"
 obtain⟨l,c,rfl,⟨hl,rfl⟩,k⟩:=h
 refine⟨_,(d8 (e5 (A3 [1] ["one"] ["bottom"] rfl (by decide +kernel) rfl (by decide +kernel) (by decide +kernel) rfl (bx ⟨rfl,rfl⟩) (bx (Or.inl rfl)) (p7 (d4 0)) (fun _ _ _ _ _ _=>(jn 0 (show(["one","bottom"]:List Str).Nodup by decide +kernel))) (fun _ _ _ _ _ _=>r9) (fun _ _ _ _ _ _=>(e7 g9 (jx (d4 0) d6) (e7 L4 (d4 1) (jx (d4 0) d6))))))),?_⟩
 walk_at "sim"
 refine J2 (ds:=[l.1,l.2.1,l.2.2].map e8) (by show m9 M (.tup _) _;rw[v6];rfl) ?_
 refine t5 (xs:=[l.1,l.2.1,l.2.2]) (enc:=e8) (fun q=>.int (P9 q (cbL l))) (by show 3≤1000;decide) (by show m9 M (.tup _) _;rw[v6];rfl) (fun q hq Q hQ=>?_) k
 have hqs:sz q≤1300:=by
  simp only[Nh,Nv,or_false]at hq
  rcases hq with rfl|rfl|rfl
  ·exact hl.p
  ·exact hl.q
  ·exact hl.r
 have d0:=q.den_pos
 have hd:q.den<2 ^ 1300:=p8 q hqs
 have ef:((cbL l:Nat):Int).fdiv (q.den:Int)=((cbL l / q.den:Nat):Int):=by rw[bj (by omega) (by omega)];rfl
 walk_at "sim"
 rw[ef]
 refine⟨⟨by omega,Nf (L6 (by rw[Np];exact hd) (by decide)) (by decide)⟩,j5 1300 3901 (N0 q hqs) (by rw[Np];exact NK (OV _ _) hl.cb) (by decide),hQ⟩
theorem bJ(T:Txt K mg)(d:Df K mg "common_bottom" E5 ["ratios"])(Kz:Fn P w K mg base "divisor" 1 ["one","other"] O5):Fn P w K mg base "common_bottom" 2 ["ratios"] ET:=by
 have sc:=O8
 walk_at "fn"
 obtain⟨l,rfl,hl,k⟩:=h
 refine⟨_,(d7 (jst 1 sc.nd d6) (d7 (v8 PassesOwn.never rfl (p7 (d4 0)) (jn 2 sc.nd) (d8 (jst 1 sc.nd (e7 g9 (e7 L4 (d4 1) (jc Kz hr (a9 (d4 1) (a9 (jx (d4 2) d6) d5)))) (jx (d4 2) d6))))) (d8 (e5 (d4 1))))),?_⟩
 walk_at "sim"
 refine J2 (ds:=[l.1,l.2.1,l.2.2].map e8) (by show m9 M (.tup _) _;rw[v6];rfl) ?_
 refine T1.by (fun i e M'=>M'=M∧∃ z:Option D,e=[some (e9 l),some (.int ((([l.1,l.2.1,l.2.2].take i).foldl (fun c q=>B0 c q.den) 1:Nat):Int)),z]) ⟨rfl,_,rfl⟩ (fun i e M' _ h=>by rw[h.1];show m9 M (.tup _) _;rw[v6];rfl) ?_ ?_
 ·rintro i dd e M' hd ⟨rfl,z,rfl⟩
  rw[ND]at hd
  cases hq:[l.1,l.2.1,l.2.2][i]? with
  | none=>rw[hq]at hd;cases hd
  | some q =>
   rw[hq]at hd
   obtain rfl:=Option.some.inj hd
   have e1:([l.1,l.2.1,l.2.2].take (i+1)).foldl (fun c q=>B0 c q.den) 1=B0 (([l.1,l.2.1,l.2.2].take i).foldl (fun c q=>B0 c q.den) 1) q.den:=by
    rw[Oz,hq,OO];rfl
   have hi:=(Nw.mp hq).1
   have hqs:sz q≤1300:=by
    have:=Nq hq
    simp only[Nh,Nv,or_false]at this
    rcases this with rfl|rfl|rfl
    ·exact hl.p
    ·exact hl.q
    ·exact hl.r
   have hc:0<([l.1,l.2.1,l.2.2].take i).foldl (fun c q=>B0 c q.den) 1:=by
    have:∀(xs:List Rat) (c:Nat),0<c→0<xs.foldl (fun c q=>B0 c q.den) c:=fun xs=>by
     induction xs with
     | nil=>exact fun c h=>h
     | cons x xs ih=>exact fun c h=>ih _ (by show 0<B0 c x.den;rw[S0];exact Qr h x.den_pos)
    exact this _ _ (by decide)
   have hd:q.den<2 ^ 1300:=p8 q hqs
   rw[e1]
   have hb:([l.1,l.2.1,l.2.2].take i).foldl (fun c q=>B0 c q.den) 1<2 ^ 4000:=by
    have:=kS ([l.1,l.2.1,l.2.2].take i) 1 1 (fun x hx=>hl.all x (Ot hx)) (by decide)
    refine Nf this (Nl (by decide) ?_)
    have:([l.1,l.2.1,l.2.2].take i).length≤3:=by rw[NU];exact PC _ _
    omega
   generalize ([l.1,l.2.1,l.2.2].take i).foldl (fun c q=>B0 c q.den) 1=c at *
   have g0:0<Ow c q.den:=Pf _ q.den_pos
   have g1:Ow c q.den<2 ^ 1300:=NK (Nat.le_of_dvd q.den_pos (Rm _ _)) hd
   have ef:(c:Int).fdiv (Ow c q.den:Nat)=((c / Ow c q.den:Nat):Int):=by rw[bj (by omega) (by omega)];rfl
   walk_at "sim"
   rw[ef]
   refine⟨⟨by omega,Nf (L6 (by rw[Np];exact g1) (by decide)) (by decide)⟩,?_,some (e8 q),?_⟩
   ·exact j5 4000 1300 (by rw[Np];exact NK (OV _ _) hb) (by rw[Np];exact hd) (by decide)
   ·unfold B0
    rw[Pn]
 ·rintro e M' ⟨rfl,z,rfl⟩
  walk_at "sim"
  exact k
theorem nG(T:Txt K mg)(d:Df K mg "sides_of" Z5 ["lines"])(Lh:Fn P w K mg base "facing" 1 ["side"] AK)(Lu:Fn P w K mg base "tops_over" 1 ["ratios","bottom"] pC)(KS:Fn P w K mg base "common_bottom" 2 ["ratios"] ET):Fn P w K mg base "sides_of" 3 ["lines"] jF:=by
 have sc:=mR
 walk_at "fn"
 obtain⟨x0,ls,rfl,hx0,hok,k⟩:=h
 rcases hx0 with rfl|rfl
 all_goals
  refine⟨_,(d7 (jst 1 sc.nd (kJ d5)) (d7 (v8 PassesOwn.never rfl (nV rfl T.b_enumerate (a9 (d4 0) d5)) (j8 (n:=2) rfl (d9 (jn 2 sc.nd) (d9 (jn 3 sc.nd) i5))) (d7 (jst 4 sc.nd (jc KS hr (a9 (d4 3) d5))) (d7 (t8 (jc Lu hr (a9 (d4 3) (a9 (d4 4) d5))) (eZ (n:=3) rfl (d9 (jn 5 sc.nd) (d9 (jn 6 sc.nd) (d9 (jn 7 sc.nd) i5))))) (d7 (jst 8 sc.nd (g8 (a9 (d4 5) (a9 (d4 6) (a9 (d4 7) (a9 (d4 2) (a9 (d4 4) d5))))))) (d7 (V2 (nW PySem.F.slot_list_append PySem.F.type_list_append P5 (d4 1) (a9 (d4 8) d5))) (d8 (V2 (nW PySem.F.slot_list_append PySem.F.type_list_append P5 (d4 1) (a9 (jc Lh hr (a9 (d4 8) d5)) d5))))))))) (d8 (e5 (fe (fc (d4 1))))))),?_⟩
  walk_at "sim"
  intro p hp
  refine T1.by (fun i e M'=>M'=C1 M p (.lst ((N8 0 (ls.take i)).map sdD))∧∃ z0 z2 z3 z4 z5 z6 z7 z8:Option D,e=[z0,some (.ref p),z2,z3,z4,z5,z6,z7,z8]) ⟨rfl,_,_,_,_,_,_,_,_,rfl⟩ (fun i e M' _ _=>by simp only[t7,v6]) ?_ ?_
  ·rintro i dd e M' hd ⟨rfl,z0,z2,z3,z4,z5,z6,z7,z8,rfl⟩
   obtain⟨d,hd2,rfl⟩:=yb hd
   obtain⟨l,hl,rfl⟩:=iw hd2
   have hm:=hok.2 l (Nq hl)
   have h12:=hok.1
   have hi:=(Nw.mp hl).1
   walk_at "sim"
   refine⟨hm,hm,?_⟩
   have es:D.tup [.int (h9 l 0).1,.int (h9 l 0).2.1,.int (h9 l 0).2.2.1,.int (i:Int),.int ((cbL l:Nat):Int)]=sdD (h9 l i):=rfl
   have hln:((N8 0 (ls.take i)).map sdD).length≤24:=by
    rw[Nm,cO,NU];omega
   rw[es]
   refine fq g7 (fA g7 (by omega) ?_)
   rw[aq]
   refine fq g7 ?_
   walk_at "sim"
   refine fA g7 (by rw[NX];show _+1<1000;omega) ⟨?_,_,_,_,_,_,_,_,_,rfl⟩
   rw[aq,mN ls 0 i l hl,QK,NF,Ql]
   rfl
  ·rintro e M' ⟨rfl,z0,z2,z3,z4,z5,z6,z7,z8,rfl⟩
   walk_at "sim"
   rw[iT g7,bo hp]
   walk_at "sim"
   rw[S3,Nm,Ox]
   exact⟨_,fun _ _ h=>h,k⟩
theorem nK(T:Txt K mg)(d:Df K mg "half_rim" Z8 ["lines"])(Kw:Fn P w K mg base "veer" 1 ["one","other"] eK)(Lc:Fn P w K mg base "next_side" 3 ["sides","here"] EO)(Lv:Fn P w K mg base "outermost" 2 ["sides"] wg)(LA:Fn P w K mg base "sides_of" 3 ["lines"] jF):Fn P w K mg base "half_rim" 4 ["lines"] rO:=by
 have sc:=mU
 walk_at "fn"
 obtain⟨x0,ls,rfl,hx0,hok,k⟩:=h
 have hlo:∀ l∈ls,LineOk l:=fun l hl=>(hok.2 l hl).toLineOk
 rcases hx0 with rfl|rfl
 all_goals
  refine⟨_,(d7 (h8 (jtm G4 (j3 N4 rfl T.b_len F9 (a9 (d4 0) d5)) d6) (d8 (e5 (fe (B6 d5)))) f8) (d7 (jst 1 sc.nd (jc LA hr (a9 (d4 0) d5))) (d7 (jst 2 sc.nd (kJ (a9 (jc Lv hr (a9 (d4 1) d5)) d5))) (d7 (jst 3 sc.nd (jc Lc hr (a9 (d4 1) (a9 (jx (d4 2) d6) d5)))) (d7 (bL PassesOwn.never (E8 (V5 (jtm kD (d4 3) V4) (N3 (jtm aW (jc Kw hr (a9 (jx (d4 2) d6) (a9 (d4 3) d5))) d6)))) (d7 (V2 (nW PySem.F.slot_list_append PySem.F.type_list_append P5 (d4 2) (a9 (d4 3) d5))) (d8 (jst 3 sc.nd (jc Lc hr (a9 (d4 1) (a9 (d4 3) d5))))))) (d8 (e5 (fe (fc (d4 2)))))))))),?_⟩
  walk_at "sim"
  refine⟨fun h0=>?_,fun h0=>?_⟩
  ·have e:ls=[]:=by
    cases ls with
    | nil=>rfl
    | cons a b=>rw[Nm,NV]at h0;omega
   subst e
   exact yZ (fun _ _ h=>h) k
  ·have hp:∀ s∈f7 ls,0<s.2.2.1:=cN hlo (i:=0)
   have hz:∀ s∈f7 ls,SzS s:=tE hok
   have hln:=cO ls 0
   have h12:=hok.1
   obtain⟨s1,r,es⟩:∃ s r,f7 ls=s :: r:=by
    cases ls with
    | nil=>exact absurd rfl h0
    | cons a b=>exact⟨_,_,rfl⟩
   have hln:(f7 ls).length≤24:=by show(N8 0 ls).length≤24;omega
   refine⟨hok,⟨s1,r,es⟩,hz,fun p hpn=>?_⟩
   have eh:(f7 ls).headD (0,0,0,0,0)=s1:=by rw[es];rfl
   rw[eh]
   have ek:C3 (f7 ls)=D4 (f7 ls) s1 :: R7 (D4 (f7 ls) s1) (f7 ls) (f7 ls).length (L5 (D4 (f7 ls) s1) (f7 ls)):=by rw[es];rfl
   have m0:D4 (f7 ls) s1∈f7 ls:=by
    rcases aU (f7 ls) s1 with h|h
    ·rw[h,es];exact Nk
    ·exact h
   rw[ek]at k
   generalize D4 (f7 ls) s1=h0 at *
   generalize f7 ls=ss at *
   refine⟨_,F7 g7 rfl,?_⟩
   walk_at "sim"
   refine⟨⟨hz _ m0,hz⟩,?_⟩
   refine sV (fun m e M'=>∃(pre:List Sd) (o:Option Sd) (z0:Option D),e=[z0,some (.vl (ss.map sdD)),some (.ref p),some (nD o)]∧M'=C1 M p (.lst ((h0 :: pre).map sdD))∧pre++R7 h0 ss m o=R7 h0 ss ss.length (L5 h0 ss)∧pre.length+m≤24∧(∀ f,o=some f→f∈ss)∧∀ f,o=some f→0<veZ h0 f→ue h0 ss f<m) ss.length ⟨[],L5 h0 ss,_,rfl,rfl,rfl,by simpa using hln,fun f hf=>(K6 hp hf).1,fun f hf hv=>Nf (bq hp hf (.inl rfl) hv) (yv h0 ss h0)⟩ ?_
   rintro m e M' ⟨pre,o,z0,rfl,rfl,hr,hlm,ho,hc⟩
   have fin:R7 h0 ss m o=[]→yX (D.ref p) (C1 M p (.lst ((h0 :: pre).map sdD))) (fun x M1=>GI x M1 R):=fun hn=>by
    rw[hn,Pk]at hr
    rw[iT g7,bo hpn,hr]
    exact yZ (fun _ _ h=>h) k
   cases o with
   | none =>
    rw[show nD none=D.non from rfl]
    walk_at "sim"
    rw[mz (b:=true) rfl]
    walk_at "sim"
    exact fin (by cases m<;>rfl)
   | some f =>
    have hf:=ho f rfl
    rw[show nD (some f)=sdD f from rfl]
    walk_at "sim"
    rw[mz (b:=false) rfl]
    walk_at "sim"
    refine⟨_,F7 g7 (u8 (n:=0) rfl),?_⟩
    walk_at "sim"
    refine⟨⟨hz _ m0,hz _ hf⟩,fun hv=>?_,fun hv=>?_⟩
    ·have hcm:=hc f rfl hv
     obtain⟨m,rfl⟩:∃ m',m=m'+1:=⟨m - 1,by omega⟩
     have er:R7 h0 ss (m+1) (some f)=f :: R7 h0 ss m (L5 f ss):=if_pos hv
     rw[er]at hr
     refine fq g7 (fA g7 (by rw[NV,Nm];omega) ⟨⟨hz _ hf,hz⟩,m,Qu _,pre++[f],L5 f ss,_,rfl,?_,by rw[Ql];exact hr,by rw[NX];show pre.length+1+m≤24;omega,fun g hg=>(K6 hp hg).1,fun g hg hg2=>?_⟩)
     ·rw[aq]
      congr 2
      rw[NF];rfl
     ·have:=bq hp hg (.inr hv) hg2
      omega
    ·refine fin ?_
     cases m with
     | zero=>rfl
     | succ m=>exact if_neg hv
theorem Bx(T:Txt K mg)(d:Df K mg "most" pz ["lines","p","q"])(Le:Fn P w K mg base "most_around" 4 ["half","p","q"] wj)(Lj:Fn P w K mg base "most_along" 6 ["lines","number","p","q"] rN)(LB:Fn P w K mg base "half_rim" 4 ["lines"] rO):Fn P w K mg base "most" 7 ["lines","p","q"] wm:=by
 have sc:=AG
 walk_at "fn"
 obtain⟨ls,p,q,rfl,⟨hls,hp,hq⟩,k⟩:=h
 have hlo:=hls.lo
 have hsz:=hls.szs
 have hsc:=hls.scale
 have hlen:=xJ hlo
 have h12:=hls.1
 refine⟨_,(d7 (h8 (E8 (V5 (jtm (eU hu) (d4 1) (B1 rfl T.c_NOUGHT)) (N3 (jtm (eU hu) (d4 2) (B1 rfl T.c_NOUGHT))))) (d8 (e5 (g8 (a9 B5 (a9 (B1 rfl T.c_NOUGHT) (a9 (g8 (a9 (B1 rfl T.c_NOUGHT) (a9 (B1 rfl T.c_NOUGHT) d5))) (a9 (B6 d5) d5))))))) f8) (d7 (jst 3 sc.nd (jc LB hr (a9 (d4 0) d5))) (d7 (h8 (jtm G4 (j3 N4 rfl T.b_len F9 (a9 (d4 3) d5)) d6) (d8 (e5 (g8 (a9 B5 (a9 (g8 (a9 (d4 1) (a9 (d4 2) d5))) d5))))) f8) (d7 (h8 (jtm G4 (j3 N4 rfl T.b_len F9 (a9 (d4 3) d5)) d6) (d8 (e5 (jc Lj hr (a9 (d4 0) (a9 (jx (jx (d4 3) d6) d6) (a9 (d4 1) (a9 (d4 2) d5))))))) f8) (d8 (e5 (jc Le hr (a9 (d4 3) (a9 (d4 1) (a9 (d4 2) d5)))))))))),?_⟩
 walk_at "sim"
 have kz:p=0∧q=0→R (D.tup [D.str "most",e8 0,D.tup [e8 0,e8 0],D.vl []]) M:=fun c=>by
  have k:=k
  unfold F5 at k
  rw[if_pos c]at k
  exact k
 have fin:¬ (p=0∧q=0)→yT ls∧(((C3 (f7 ls)).map sdD).length=(0:Int)→R (D.tup [D.str "free",D.tup [e8 p,e8 q]]) M)∧(¬ ((((C3 (f7 ls)).map sdD).length:Nat):Int)=0→(((((C3 (f7 ls)).map sdD).length:Nat):Int)=1→gIx (D.vl (Ol sdD (C3 (f7 ls)))) (D.int 0) M fun x M1=>gIx x (D.int 3) M1 fun x M1=>rN [D.vl (Ol e9 ls),x,e8 p,e8 q] M1 R Y0)∧(¬ ((((C3 (f7 ls)).map sdD).length:Nat):Int)=1→(((C3 (f7 ls)).length≤30∧∀(s:Sd),s∈C3 (f7 ls)→SzS s)∧(sz p≤1100∧sz q≤1100)∧∃ a b,cJ (C3 (f7 ls)) (wtF p q)=some (a,b)∧(SzS a∧SzS b)∧0<veZ a b∧a.2.2.2.1≠b.2.2.2.1∧a.2.2.2.2.natAbs<2 ^ 1400∧b.2.2.2.2.natAbs<2 ^ 1400)∧R (fm (C3 (f7 ls)) p q).toD M)):=fun c=>by
  have k:=k
  unfold F5 at k
  rw[if_neg c]at k
  refine⟨hls.ok,fun h0=>?_,fun h0=>⟨fun h1=>?_,fun h1=>?_⟩⟩
  ·have e:C3 (f7 ls)=[]:=by
    rw[Nm]at h0
    exact PF (by omega)
   rw[e]at k
   exact k
  ·obtain⟨h0',e⟩:∃ h,C3 (f7 ls)=[h]:=by
    rw[Nm]at h1
    exact List.length_eq_one_iff.mp (by omega)
   have hne:ls≠[]:=fun z=>by rw[z]at e;cases e
   obtain⟨g0,m,e',m0,_⟩:=E9 hlo hne
   rw[e]at e'
   cases e'
   obtain⟨l,j,el,en,_⟩:=O7 m0
   rw[e]at k ⊢
   have k:R (A0 (ls.getD h0'.2.2.2.1.toNat (0,0,0)) h0'.2.2.2.1 p q).toD M:=k
   rw[en,NI,Nz,el]at k
   refine⟨sdD h0',rfl,.int h0'.2.2.2.1,rfl,ls,h0'.2.2.2.1,p,q,rfl,l,j,en,el,hls.2 l (Nq el),c,⟨hp,hq⟩,?_⟩
   rw[en];exact k
  ·obtain⟨h0',x,l,e⟩:∃ h0 x l,C3 (f7 ls)=h0 :: x :: l:=by
    cases e:C3 (f7 ls)with
    | nil=>rw[e]at h0;exact absurd rfl h0
    | cons a r =>
     cases r with
     | nil=>rw[e]at h1;exact absurd rfl h1
     | cons b r=>exact⟨a,b,r,rfl⟩
   obtain⟨a,b,ea,A⟩:=V9 hlo e (mB c)
   have hne:ls≠[]:=fun z=>by rw[z]at e;cases e
   have hin:∀ s∈C3 (f7 ls),s∈f7 ls:=Cb hlo
   rw[e]at k hlen hin ⊢
   refine⟨⟨⟨by omega,fun s hs=>hsz s (hin s hs)⟩,⟨hp,hq⟩,a,b,ea,⟨hsz a A.ma,hsz b A.mb⟩,A.ve,rW A.ma A.mb (by have:=A.ve;omega),hsc a A.ma,hsc b A.mb⟩,k⟩
 exact⟨fun c1=>⟨fun c2=>kz ⟨c1,c2⟩,fun c2=>fin fun z=>c2 z.2⟩,fun c1=>fin fun z=>c1 z.1⟩
theorem kl(T:Txt K mg)(d:Df K mg "others_of" T8 ["lines","k"]):Fn P w K mg base "others_of" 1 ["lines","k"] mZ:=by
 have sc:=jh
 walk_at "fn"
 obtain⟨x0,ls,kk,rfl,hx0,hl,k⟩:=h
 have e:=qt ls 0 kk
 rw[QK]at e
 have e2:(List.filter (fun x:T3 × Nat=>decide (x.2≠kk)) ls.zipIdx).map (fun x=>e9 x.1)=(G8 ls kk).map e9:=by
  unfold G8
  rw[← e,Of];rfl
 rcases hx0 with rfl|rfl
 all_goals
  refine⟨_,(d8 (e5 (A3 [1] ["number","line"] ["k"] rfl (by decide +kernel) rfl (by decide +kernel) (by decide +kernel) rfl (bx ⟨rfl,rfl⟩) (bx (Or.inl rfl)) (nV rfl T.b_enumerate (a9 (d4 0) d5)) (fun _ _ _ _ _ _=>(j8 (n:=2) rfl (d9 (jn 0 (show(["number","line","k"]:List Str).Nodup by decide +kernel)) (d9 (jn 1 (show(["number","line","k"]:List Str).Nodup by decide +kernel)) i5)))) (fun _ _ _ _ _ _=>(iy (jtm (rV hu) (d4 0) (d4 2)))) (fun _ _ _ _ _ _=>(d4 1))))),?_⟩
  walk_at "sim"
  rw[Ce]
  refine bp (fun x:T3 × Nat=>decide (x.2≠kk)) (fun x=>e9 x.1) (by rw[List.length_zipIdx];omega) (by simp only[t7,v6]) (fun x hx Q N h1 h2=>?_) ?_
  ·walk_at "sim"
   exact⟨fun h=>h1 (decide_eq_true fun z=>h (by rw[z])),fun h=>h2 (decide_eq_false fun z=>z (by omega))⟩
  ·rw[e2]
   exact k
theorem BA(T:Txt K mg)(d:Df K mg "idle" pB ["lines","k"])(Mu:Fn P w K mg base "less" 1 ["one","other"] pb)(Lz:Fn P w K mg base "grown" 4 ["ray","share"] jO)(Lr:Fn P w K mg base "over" 3 ["one","other"] iY)(KN:Fn P w K mg base "value_of" 3 ["p","q","ray"] rM)(LF:Fn P w K mg base "plus" 3 ["one","other"] T5)(Mv:Fn P w K mg base "most" 7 ["lines","p","q"] wm)(Ky:Fn P w K mg base "others_of" 1 ["lines","k"] mZ):Fn P w K mg base "idle" 8 ["lines","k"] jN:=by
 have sc:=AI
 walk_at "fn"
 obtain⟨x0,ls,kk,rfl,hx0,hls,l,hk,k⟩:=h
 have hm:=Nq hk
 have ok:=hls.2 l hm
 have z1:=ok.p6
 have z2:=ok.q6
 have z3:=ok.r6
 have r0:=ok.pos
 have h12:=hls.1
 have mm:=X3 (hls.oth kk).lo l.1 l.2.1
 obtain⟨s1,s2⟩:=rX (hls.oth kk) (p:=l.1) (q:=l.2.1) (N:=600) (by omega) (by omega) (Ny _) (by decide)
 have atk:∀ M:Mem,ixD M x0 (D.int (kk:Int))=some (e9 l):=fun M=>by
  rcases hx0 with rfl|rfl
  ·show atI (ls.map e9) (kk:Int)=_;rw[N5 (by rw[ND,hk];rfl)]
  ·show atI (ls.map e9) (kk:Int)=_;rw[N5 (by rw[ND,hk];rfl)]
 refine⟨_,(d7 (t8 (jx (d4 0) (d4 1)) (j8 (n:=3) rfl (d9 (jn 2 sc.nd) (d9 (jn 3 sc.nd) (d9 (jn 4 sc.nd) i5))))) (d7 (jst 5 sc.nd (jc Mv hr (a9 (jc Ky hr (a9 (d4 0) (a9 (d4 1) d5))) (a9 (d4 2) (a9 (d4 3) d5))))) (d7 (h8 (jtm Y4 (jx (d4 5) d6) B5) (d7 (jst 6 sc.nd (jx (d4 5) d6)) (d8 (e5 (g8 (a9 B5 (a9 (jc Lz hr (a9 (d4 6) (a9 (jc Lr hr (a9 (jc LF hr (a9 (d4 4) (a9 (d4 4) d5))) (a9 (jc KN hr (a9 (d4 2) (a9 (d4 3) (a9 (d4 6) d5)))) d5))) d5))) d5)))))) f8) (d7 (t8 (d4 5) (j8 (n:=4) rfl (d9 (jn 7 sc.nd) (d9 (jn 8 sc.nd) (d9 (jn 6 sc.nd) (d9 (jn 9 sc.nd) i5)))))) (d7 (h8 (u7 (jc Mu hr (a9 (d4 4) (a9 (d4 8) d5)))) (d8 (e5 (g8 (a9 B5 (a9 (d4 6) d5))))) f8) (d8 (e5 (g8 (a9 B5 (a9 (xB [1] ["number","share"] ["k"] rfl (by decide +kernel) rfl (by decide +kernel) (by decide +kernel) rfl (bx ⟨rfl,rfl⟩) (bx (Or.inl rfl)) (p7 (d4 9)) (fun _ _ _ _ _ _=>(j8 (n:=2) rfl (d9 (jn 0 (show(["number","share","k"]:List Str).Nodup by decide +kernel)) (d9 (jn 1 (show(["number","share","k"]:List Str).Nodup by decide +kernel)) i5)))) (fun _ _ _ _ _ _=>r9) (fun _ _ _ _ _ _=>(g8 (a9 (fb (jtm cF (d4 0) (d4 2)) (d4 0) (e7 C2 (d4 0) d6)) (a9 (d4 1) d5))))) d5)))))))))),?_⟩
 walk_at "sim"
 refine⟨_,atk _,?_⟩
 walk_at "sim"
 refine⟨x0,ls,kk,rfl,hx0,h12,?_⟩
 walk_at "sim"
 refine⟨⟨hls.oth kk,by omega,by omega⟩,?_⟩
 unfold ff at k
 cases e:F5 (G8 ls kk) l.1 l.2.1 with
 | free z =>
  rw[e]at k
  obtain⟨y1,y2⟩:=s1 z e
  obtain⟨_,_,_,f4,_⟩:=mm.free z e
  have er:G1.toD (.free z) = .tup [.str "free",A5 z.1 z.2]:=rfl
  rw[er]
  walk_at "sim"
  have m1:=RM.j9 l.1 z.1
  have m2:=RM.j9 l.2.1 z.2
  have m3:=RM.C9 (l.1*z.1) (l.2.1*z.2)
  have m4:=RM.C9 l.2.2 l.2.2
  have m5:=RM.J5 (l.2.2+l.2.2) (l.1*z.1+l.2.1*z.2) (D2 f4)
  exact⟨by omega,by omega,D2 f4,by omega,⟨by omega,by omega⟩,k⟩
 | most v z sh =>
  rw[e]at k
  obtain⟨y1,y2⟩:=s2 v z sh e
  have hsl:=BG e
  have er:G1.toD (.most v z sh) = .tup [.str "most",e8 v,rD z,.vl (sh.map shD)]:=rfl
  rw[er]
  walk_at "sim"
  have k:Eh (if l.2.2<v then cL.needed z else .idle (sh.map fun s=>(if s.1<(kk:Int)then s.1 else s.1+1,s.2))) M R:=k
  refine⟨fun z=>absurd z (by decide +kernel),fun _=>⟨by omega,fun c=>?_,fun c=>?_⟩⟩
  ·rw[if_pos c]at k;exact k
  ·rw[if_neg c]at k
   refine t5 (fun s:Int × Rat=>shD (if s.1<(kk:Int)then s.1 else s.1+1,s.2)) (by omega) (by simp only[t7]) (fun s hs Q hQ=>?_) ?_
   ·unfold shD at hQ ⊢
    walk_at "sim"
    by_cases c2:s.1<(kk:Int)
    ·rw[if_pos c2]at hQ
     exact⟨fun _=>hQ,fun z=>absurd c2 z⟩
    ·rw[if_neg c2]at hQ
     exact⟨fun z=>absurd z c2,fun _=>hQ⟩
   ·have k:∀ l,M l=none→R (.tup [.str "idle",.ref l]) (C1 M l (.lst ((sh.map fun s=>(if s.1<(kk:Int)then s.1 else s.1+1,s.2)).map shD))):=k
    rw[Of]at k
    exact k
theorem pR(T:Txt K mg)(d:Df K mg "lets_by" bE ["line","ray"])(Lg:Fn P w K mg base "sum_by" 1 ["p","q","ray"] cW):Fn P w K mg base "lets_by" 2 ["line","ray"] aH:=by
 have sc:=pe
 walk_at "fn"
 obtain⟨l,y,u,rfl,⟨⟨h1,h2,h3⟩,h4,h5⟩,k⟩:=h
 refine⟨_,(d7 (t8 (d4 0) (j8 (n:=3) rfl (d9 (jn 2 sc.nd) (d9 (jn 3 sc.nd) (d9 (jn 4 sc.nd) i5))))) (d7 (t8 (jc Lg hr (a9 (d4 2) (a9 (d4 3) (a9 (d4 1) d5)))) (j8 (n:=2) rfl (d9 (jn 5 sc.nd) (d9 (jn 6 sc.nd) i5)))) (d8 (e5 (jm FN (e7 g9 (j3 fj rfl T.b_abs ak (a9 (d4 5) d5)) (jx (d4 4) d6)) (e7 g9 (jx (d4 4) d6) (d4 6))))))),?_⟩
 walk_at "sim"
 have e:decide (((fD l.1 l.2.1 y u).natAbs:Int)*(l.2.2.den:Int)≤l.2.2.num*bu l.1 l.2.1 y u)=G0 l y u:=by
  rw[OM,decide_eq_true_iff];exact tX
 rw[e]
 exact⟨by omega,j5 _ _ (by rw[Np];exact EB _ _ _ _) (i9 _) (by omega),j5 _ _ (m8 _) (yM _ _ _ _) (by omega),k⟩
theorem By(T:Txt K mg)(d:Df K mg "lets" pA ["lines","ray"])(KP:Fn P w K mg base "lets_by" 2 ["line","ray"] aH):Fn P w K mg base "lets" 3 ["lines","ray"] pG:=by
 have sc:=AH
 walk_at "fn"
 obtain⟨ls,y,u,rfl,⟨h1,h2,h3,h4⟩,k⟩:=h
 refine⟨_,(d8 (e5 (j3 (sS rfl) rfl T.b_all ll (a9 (A3 [1] ["line"] ["ray"] rfl (by decide +kernel) rfl (by decide +kernel) (by decide +kernel) rfl (bx ⟨rfl,rfl⟩) (bx (Or.inl rfl)) (p7 (d4 0)) (fun _ _ _ _ _ _=>(jn 0 (show(["line","ray"]:List Str).Nodup by decide +kernel))) (fun _ _ _ _ _ _=>r9) (fun _ _ _ _ _ _=>(jc KP hr (a9 (d4 0) (a9 (d4 1) d5))))) d5)))),?_⟩
 walk_at "sim"
 refine t5 (fun l=>D.bl (G0 l y u)) (by omega) (by simp only[t7,v6]) (fun l hl Q hQ=>?_) ?_
 ·walk_at "sim"
  exact⟨⟨h2 l hl,h3,h4⟩,hQ⟩
 ·rw[show ls.map (fun l=>D.bl (G0 l y u))=(ls.map fun l=>G0 l y u).map D.bl by rw[Of];rfl]
  walk_at "sim"
  rw[show(ls.map fun l=>G0 l y u).all id=C6 ls y u by rw[Ro];rfl]
  exact k
theorem pS(T:Txt K mg)(d:Df K mg "less" jw ["one","other"]):Fn P w K mg base "less" 1 ["one","other"] pH:=by
 have sc:=rL
 walk_at "fn"
 obtain⟨q,d,rfl,a,rfl,⟨h1,h2⟩,hq,k⟩:=h
 unfold rwD
 refine⟨_,(d8 (e5 (jm cF (e7 g9 (jx (d4 0) d6) (jx (d4 1) d6)) (e7 g9 (jx (d4 1) d6) (jx (d4 0) d6))))),?_⟩
 walk_at "sim"
 exact⟨j5 _ _ (m8 q) h2 (by omega),j5 _ _ h1 (i9 q) (by omega),k⟩
theorem Bu(T:Txt K mg)(d:Df K mg "same" pj ["one","other"]):Fn P w K mg base "same" 1 ["one","other"] pE:=by
 have sc:=AD
 walk_at "fn"
 obtain⟨x,y,rfl,a,b,rfl,rfl,⟨h1,h2⟩,⟨h3,h4⟩,k⟩:=h
 unfold rwD
 refine⟨_,(d8 (e5 (jm G4 (e7 g9 (jx (d4 0) d6) (jx (d4 1) d6)) (e7 g9 (jx (d4 1) d6) (jx (d4 0) d6))))),?_⟩
 walk_at "sim"
 exact⟨j5 _ _ h1 h4 (by omega),j5 _ _ h3 h2 (by omega),k⟩
theorem ki(T:Txt K mg)(d:Df K mg "sum_by" az ["p","q","ray"]):Fn P w K mg base "sum_by" 1 ["p","q","ray"] jE:=by
 have sc:=hZ
 walk_at "fn"
 obtain⟨d,x,w,rfl,a,rfl,⟨h1,h2⟩,⟨h3,h4⟩,k⟩:=h
 unfold rwD
 have o:(Rat.num 1).natAbs<2 ^ 1:=by decide
 have o2:((Rat.den 1:Nat):Int).natAbs<2 ^ 1:=by decide
 refine⟨_,(d7 (t8 (d4 2) (j8 (n:=2) rfl (d9 (jn 3 sc.nd) (d9 (jn 4 sc.nd) i5)))) (d7 (jst 5 sc.nd (e7 C2 (e7 g9 (e7 g9 (e7 g9 (jx (d4 0) d6) (jx (d4 3) d6)) (jx (d4 1) d6)) (jx (d4 4) d6)) (e7 g9 (e7 g9 (e7 g9 (jx (d4 1) d6) (jx (d4 4) d6)) (jx (d4 0) d6)) (jx (d4 3) d6)))) (d8 (e5 (g8 (a9 (d4 5) (a9 (e7 g9 (e7 g9 (e7 g9 (jx (d4 0) d6) (jx (d4 3) d6)) (jx (d4 1) d6)) (jx (d4 4) d6)) d5))))))),?_⟩
 walk_at "sim"
 exact⟨j5 _ _ h1 o (by omega),j5 _ _ (o8 h1 o) (i9 x) (by omega),j5 _ _ (o8 (o8 h1 o) (i9 x)) (i9 w) (by omega),j5 _ _ (m8 x) (m8 w) (by omega),j5 _ _ (o8 (m8 x) (m8 w)) h2 (by omega),j5 _ _ (o8 (o8 (m8 x) (m8 w)) h2) o2 (by omega),j5 _ _ h2 o2 (by omega),j5 _ _ (o8 h2 o2) (i9 x) (by omega),j5 _ _ (o8 (o8 h2 o2) (i9 x)) (i9 w) (by omega),k⟩
theorem xj(T:Txt K mg)(d:Df K mg "added" jA ["lines","shares"])(Lw:Fn P w K mg base "sum_by" 1 ["p","q","ray"] jE)(KO:Fn P w K mg base "unsigned" 1 ["one"] eB):Fn P w K mg base "added" 2 ["lines","shares"] pM:=by
 have sc:=wb
 walk_at "fn"
 obtain⟨ls,x,rfl,sh,hx,hls,hb,hz,k⟩:=h
 obtain⟨hl2,hm⟩:=cS hb
 refine⟨_,(d7 (jst 2 sc.nd (B6 (a9 (B1 rfl T.c_NOUGHT) (a9 (B1 rfl T.c_NOUGHT) (a9 (B1 rfl T.c_NOUGHT) d5))))) (d7 (v8 PassesOwn.never rfl (p7 (d4 1)) (j8 (n:=2) rfl (d9 (jn 3 sc.nd) (d9 (jn 4 sc.nd) i5))) (d7 (jst 5 sc.nd (g8 (a9 (d4 4) (a9 (d4 4) (a9 (jc KO hr (a9 (d4 4) d5)) d5))))) (d8 (S1 (i:=2) [] ["one","part","weight"] [] sc.nd rfl (Or.inl rfl) rfl (by decide +kernel) rfl (by decide +kernel) (by decide +kernel) rfl L8 L8 (xw rfl T.b_zip (a9 (d4 2) (a9 (jx (d4 0) (d4 3)) (a9 (d4 5) d5)))) (fun _ _ _ _ _ _=>(j8 (n:=3) rfl (d9 (jn 0 (show(["one","part","weight"]:List Str).Nodup by decide +kernel)) (d9 (jn 1 (show(["one","part","weight"]:List Str).Nodup by decide +kernel)) (d9 (jn 2 (show(["one","part","weight"]:List Str).Nodup by decide +kernel)) i5))))) (fun _ _ _ _ _ _=>r9) (fun _ _ _ _ _ _=>(jc Lw hr (a9 (d4 0) (a9 (d4 1) (a9 (g8 (a9 (B1 rfl T.c_ONE) (a9 (d4 2) d5))) d5))))))))) (d8 (e5 (d4 2))))),?_⟩
 walk_at "sim"
 refine J2 hx ?_
 refine T1.by (fun i e M'=>M'=M∧∃(a b c:Int × Int) (z3 z4 z5:Option D),e=[some (.vl (ls.map e9)),some x,some (.vl [rwD a,rwD b,rwD c]),z3,z4,z5]∧Raw (1+3549*i) a (ad t0 ls (sh.take i))∧Raw (1+3549*i) b (ad t1 ls (sh.take i))∧Raw (1+3549*i) c (ad t2 ls (sh.take i))) ⟨rfl,(0,1),(0,1),(0,1),_,_,_,rfl,Raw.zero,Raw.zero,Raw.zero⟩ (fun i e M' _ h=>by rw[h.1];exact hx) ?_ ?_
 ·rintro i dd e M' hd ⟨rfl,a,b,c,z3,z4,z5,rfl,ra,rb,rc⟩
  obtain⟨s,hs,rfl⟩:=cR hd
  have hsm:=Nq hs
  obtain⟨s0,sn,snz⟩:=hm s hsm
  have ssz:=hz s hsm
  obtain⟨j,hj⟩:∃ j:Nat,s.1=(j:Int):=⟨s.1.toNat,by omega⟩
  have hlj:ls[j]? = some (ls[j]'(by omega)):=NB (by omega)
  generalize ls[j]'(by omega)=l at hlj
  have ok:=hls.2 l (Nq hlj)
  unfold shD
  walk_at "sim"
  rw[hj]
  refine⟨e9 l,by show atI (ls.map e9) (j:Int)=_;rw[N5 (by rw[ND,hlj];rfl)],?_⟩
  walk_at "sim"
  refine⟨_,_,_,[rwD a,rwD b,rwD c],[e8 l.1,e8 l.2.1,e8 l.2.2],[e8 s.2,e8 s.2,e8 (j0 s.2)],rfl,.inr (.inr rfl),.inl rfl,.inl rfl,Ny 3,Ny 3,?_⟩
  have i2:i<2:=by
   have:=(Nw.mp hs).1
   omega
  have pw:∀{v:Int},v.natAbs<2 ^ (1+3549*i)→v.natAbs<2 ^ 5000:=fun h=>Nf h (Nl (by decide) (by omega))
  have z1:=ok.p6
  have z2:=ok.q6
  have z3':=ok.r6
  have sa:=Q0 s.2
  have tk:sh.take (i+1)=sh.take i++[s]:=by rw[Oz,hs];rfl
  have gl:ls.getD s.1.toNat (0,0,0)=l:=by rw[hj,NI,Nz,hlj];rfl
  have fit:∀{n:Nat} {v:Int × Int} {g:Rat},Raw n v g→n≤1+3549*(i+1)→Raw (1+3549*(i+1)) v g:=fun h hn=>⟨h.pos,h.val,Nf h.s1 (Nl (by decide) hn),Nf h.s2 (Nl (by decide) hn)⟩
  show zk [none,none,none] _ Cg _ (Ol (fun t:(Int × Int) × Rat × Rat=>D.tup [rwD t.1,e8 t.2.1,e8 t.2.2]) [(a,l.1,s.2),(b,l.2.1,s.2),(c,l.2.2,j0 s.2)]) _ M' _
  refine t5 (fun t:(Int × Int) × Rat × Rat=>rwD (ig t.1 t.2.1 t.2.2)) (by show 3≤1000;decide) ⟨.inr (.inr rfl),.inl rfl,.inl rfl⟩ (fun t ht Q hQ=>?_) ?_
  ·simp only[Nh,Nv,or_false]at ht
   rcases ht with rfl|rfl|rfl
   ·walk_at "sim"
    exact⟨a,rfl,⟨pw ra.s1,pw ra.s2⟩,⟨by omega,by omega⟩,hQ⟩
   ·walk_at "sim"
    exact⟨b,rfl,⟨pw rb.s1,pw rb.s2⟩,⟨by omega,by omega⟩,hQ⟩
   ·walk_at "sim"
    exact⟨c,rfl,⟨pw rc.s1,pw rc.s2⟩,⟨by omega,by omega⟩,hQ⟩
  ·refine⟨rfl,ig a l.1 s.2,ig b l.2.1 s.2,ig c l.2.2 (j0 s.2),_,_,_,rfl,?_⟩
   rw[tk,X8,X8,X8,gl]
   exact⟨fit (ra.step z1 ssz) (by omega),fit (rb.step z2 ssz) (by omega),fit (rc.step (m:=548) (by omega) (show sz (j0 s.2)≤3000 by omega)) (by omega)⟩
 ·rintro e M' ⟨rfl,a,b,c,z3,z4,z5,rfl,ra,rb,rc⟩
  walk_at "sim"
  rw[Nm,Ox]at ra rb rc
  have fit:∀{v:Int × Int} {g:Rat},Raw (1+3549*sh.length) v g→Raw 9000 v g:=fun h=>⟨h.pos,h.val,Nf h.s1 (Nl (by decide) (by omega)),Nf h.s2 (Nl (by decide) (by omega))⟩
  exact k a b c (fit ra) (fit rb) (fit rc)
theorem fU(T:Txt K mg)(d:Df K mg "are_shares" Q5 ["lines","shares"]):Fn P w K mg base "are_shares" 1 ["lines","shares"] pL:=by
 have sc:=fJ
 walk_at "fn"
 obtain⟨ls,x,rfl,sh,hx,h12,k⟩:=h
 refine⟨_,(d7 (h8 (jtm aW (j3 N4 rfl T.b_len F9 (a9 (d4 1) d5)) (B1 rfl T.c_MOST_SHARES)) (d8 (e5 E4)) f8) (d7 (jst 2 sc.nd (ai d6)) (d7 (v8 PassesOwn.never rfl (p7 (d4 1)) (j8 (n:=2) rfl (d9 (jn 3 sc.nd) (d9 (jn 4 sc.nd) i5))) (d7 (h8 (E8 (J9 (jtm FN (d4 3) (d4 2)) (J9 (jtm Ib (d4 3) (j3 N4 rfl T.b_len F9 (a9 (d4 0) d5))) (J7 (jtm (eU hu) (d4 4) (B1 rfl T.c_NOUGHT)))))) (d8 (e5 E4)) f8) (d8 (jst 2 sc.nd (d4 3))))) (d8 (e5 E4))))),?_⟩
 walk_at "sim"
 rw[gZ (sk hx)]
 walk_at "sim"
 rw[Nm]
 have hno:¬ sh.length≤2→shB ls.length sh=false:=fun z=>by unfold shB;rw[decide_eq_false z];rfl
 refine⟨fun hc=>?_,fun hc=>J2 hx ?_⟩
 ·rw[hno (by omega)]at k
  exact k
 have e0:shB ls.length sh=G2 ls.length (-1) sh:=by unfold shB;rw[decide_eq_true (by omega)];rfl
 refine T1.by (fun i e M'=>M'=M∧∃(a:Int) (z3 z4:Option D),e=[some (.vl (ls.map e9)),some x,some (.int a),z3,z4]∧G2 ls.length (-1) sh=G2 ls.length a (sh.drop i)) ⟨rfl,-1,_,_,rfl,rfl⟩ (fun i e M' _ h=>by rw[h.1];exact hx) ?_ ?_
 ·rintro i dd e M' hd ⟨rfl,a,z3,z4,rfl,ih⟩
  obtain⟨s,hs,rfl⟩:=cR hd
  have hi:=(Nw.mp hs).1
  rw[Qi hi,(Nw.mp hs).2]at ih
  unfold shD
  walk_at "sim"
  rw[Nm]
  have bad:¬ (a<s.1∧s.1<(ls.length:Int)∧s.2≠0)→R (D.bl false) M':=fun hb=>by
   rw[AQ hb]at ih
   rw[e0,ih]at k
   exact k
  refine⟨fun c1=>bad fun z=>by omega,fun c1=>⟨fun c2=>bad fun z=>by omega,fun c2=>⟨fun c3=>bad fun z=>z.2.2 c3,fun c3=>⟨s.1,_,_,rfl,?_⟩⟩⟩⟩
  rw[ih,O9 (by omega) (by omega) c3]
 ·rintro e M' ⟨rfl,a,z3,z4,rfl,ih⟩
  walk_at "sim"
  rw[Nm,List.drop_length]at ih
  rw[e0,ih]at k
  exact k
theorem nM(T:Txt K mg)(d:Df K mg "bound_by" Z9 ["lines","shares","p","q"])(LU:Fn P w K mg base "same" 1 ["one","other"] pE)(LV:Fn P w K mg base "added" 2 ["lines","shares"] pM)(Lk:Fn P w K mg base "are_shares" 1 ["lines","shares"] pL):Fn P w K mg base "bound_by" 3 ["lines","shares","p","q"] pK:=by
 have sc:=mV
 walk_at "fn"
 obtain⟨ls,x,p,q,rfl,sh,hx,hls,hz,⟨hp,hq⟩,kn,ky⟩:=h
 refine⟨_,(d7 (h8 (E7 (u7 (jc Lk hr (a9 (d4 0) (a9 (d4 1) d5))))) (d8 (e5 V4)) f8) (d7 (jst 4 sc.nd (jc LV hr (a9 (d4 0) (a9 (d4 1) d5)))) (d7 (h8 (E8 (J9 (E7 (u7 (jc LU hr (a9 (jx (d4 4) d6) (a9 (d4 2) d5))))) (J7 (E7 (u7 (jc LU hr (a9 (jx (d4 4) d6) (a9 (d4 3) d5)))))))) (d8 (e5 V4)) f8) (d8 (e5 (jx (d4 4) d6)))))),?_⟩
 walk_at "sim"
 refine⟨sh,hx,hls.1,fun hb=>kn fun z=>(by rw[z.1]at hb;cases hb),fun hb=>⟨sh,hx,hls,hb,hz,fun a b c ra rb rc=>⟨a,_,rfl,wG p,Gy ra,Jd (by omega),fun h1=>kn fun z=>h1 (ra.eq.mpr z.2.1),fun h1=>⟨b,_,rfl,wG q,Gy rb,Jd (by omega),fun h2=>kn fun z=>h2 (rb.eq.mpr z.2.2),fun h2=>ky ⟨hb,ra.eq.mp h1,rb.eq.mp h2⟩ c rc⟩⟩⟩⟩
theorem cD(T:Txt K mg)(d:Df K mg "shares_right" K9 ["lines","k","shares"])(LG:Fn P w K mg base "less" 1 ["one","other"] pH)(LC:Fn P w K mg base "bound_by" 3 ["lines","shares","p","q"] pK):Fn P w K mg base "shares_right" 4 ["lines","k","shares"] EN:=by
 have sc:=cy
 walk_at "fn"
 obtain⟨ls,kk,x,rfl,sh,l,hx,hls,hk,h20,hz,k⟩:=h
 have ok:=hls.2 l (Nq hk)
 have z1:=ok.p6
 have z2:=ok.q6
 have z3:=ok.r6
 refine⟨_,(d7 (h8 (jtm FO (d4 1) (A3 [] ["number","share"] [] rfl (by decide +kernel) rfl (by decide +kernel) (by decide +kernel) rfl L8 L8 (p7 (d4 2)) (fun _ _ _ _ _ _=>(j8 (n:=2) rfl (d9 (jn 0 (show(["number","share"]:List Str).Nodup by decide +kernel)) (d9 (jn 1 (show(["number","share"]:List Str).Nodup by decide +kernel)) i5)))) (fun _ _ _ _ _ _=>r9) (fun _ _ _ _ _ _=>(d4 0)))) (d8 (e5 E4)) f8) (d7 (t8 (jx (d4 0) (d4 1)) (j8 (n:=3) rfl (d9 (jn 3 sc.nd) (d9 (jn 4 sc.nd) (d9 (jn 5 sc.nd) i5))))) (d7 (jst 6 sc.nd (jc LC hr (a9 (d4 0) (a9 (d4 2) (a9 (d4 3) (a9 (d4 4) d5)))))) (d8 (e5 (A8 (jm kD (d4 6) V4) (C7 (K4 (jc LG hr (a9 (d4 5) (a9 (d4 6) d5))))))))))),?_⟩
 walk_at "sim"
 refine J2 hx (t5 (xs:=sh) (enc:=shD) (fun s=>.int s.1) (by omega) hx (fun s hs Q hQ=>by unfold shD;walk_at "sim";exact hQ) ?_)
 show gIn false (D.int (kk:Int)) (D.vl (sh.map fun s=>D.int s.1)) M _
 rw[show(sh.map fun s=>D.int s.1)=(sh.map (·.1)).map D.int by rw[Of];rfl]
 refine yV ?_
 walk_at "sim"
 have k:R (.bl (decide (¬ (kk:Int)∈sh.map (·.1)) && shB ls.length sh && decide (ad t0 ls sh=l.1∧ad t1 ls sh=l.2.1) && decide (ad t2 ls sh≤l.2.2))) M:=k
 refine⟨fun c=>?_,fun c=>⟨e9 l,by show atI (ls.map e9) (kk:Int)=_;rw[N5 (by rw[ND,hk];rfl)],?_⟩⟩
 ·rw[decide_eq_false (fun z=>z c)]at k
  exact k
 rw[decide_eq_true c,NR]at k
 walk_at "sim"
 refine⟨sh,hx,hls,hz,⟨by omega,by omega⟩,fun c3=>?_,fun c3 r rr=>?_⟩
 ·rw[mz (b:=true) rfl]
  walk_at "sim"
  have e:(shB ls.length sh && decide (ad t0 ls sh=l.1∧ad t1 ls sh=l.2.1))=false:=by
   rw[Bool.eq_false_iff]
   intro e
   rw[NP,decide_eq_true_eq]at e
   exact c3 ⟨e.1,e.2.1,e.2.2⟩
  rw[e]at k
  exact k
 ·rw[mz (b:=false) rfl]
  walk_at "sim"
  refine⟨r,rfl,Gy rr,by omega,?_⟩
  rw[c3.1,decide_eq_true (show ad t0 ls sh=l.1∧ad t1 ls sh=l.2.1 from c3.2),NR]at k
  rw[show(!decide (l.2.2.num*r.2<r.1*(l.2.2.den:Int)))=decide (ad t2 ls sh≤l.2.2)by
   rw[show decide (l.2.2.num*r.2<r.1*(l.2.2.den:Int))=decide (l.2.2<ad t2 ls sh)from decide_eq_decide.mpr (wF rr)]
   by_cases c:ad t2 ls sh≤l.2.2
   ·rw[decide_eq_true c,decide_eq_false (Rat.not_lt.mpr c)];rfl
   ·rw[decide_eq_false c,decide_eq_true (RR.mp c)];rfl]
  exact k
theorem fT(T:Txt K mg)(d:Df K mg "idle_right" Q4 ["lines","k","told"])(KP:Fn P w K mg base "lets_by" 2 ["line","ray"] aH)(LW:Fn P w K mg base "lets" 3 ["lines","ray"] pG)(Ky:Fn P w K mg base "others_of" 1 ["lines","k"] mZ)(KJ:Fn P w K mg base "shares_right" 4 ["lines","k","shares"] EN):Fn P w K mg base "idle_right" 5 ["lines","k","told"] pJ:=by
 have sc:=fH
 walk_at "fn"
 obtain⟨ls,kk,t,rfl,m,l,ht,hls,hk,hm,k⟩:=h
 have h12:=hls.1
 cases m with
 | needed z =>
  obtain rfl:t = .tup [.str "needed",A5 z.1 z.2]:=ht
  obtain⟨z1,z2⟩:=hm.needed z rfl
  refine⟨_,(d7 (t8 (d4 2) (j8 (n:=2) rfl (d9 (jn 3 sc.nd) (d9 (jn 4 sc.nd) i5)))) (d7 (h8 (jtm Y4 (d4 3) B5) (d8 (e5 (jc KJ hr (a9 (d4 0) (a9 (d4 1) (a9 (d4 4) d5)))))) f8) (d8 (e5 (A8 (jm Y4 (d4 3) B5) (A8 (jc LW hr (a9 (jc Ky hr (a9 (d4 0) (a9 (d4 1) d5))) (a9 (d4 4) d5))) (C7 (K4 (jc KP hr (a9 (jx (d4 0) (d4 1)) (a9 (d4 4) d5))))))))))),?_⟩
  walk_at "sim"
  have ok:=hls.2 l (Nq hk)
  have lz:∀ m∈ls,LSz 600 m:=fun m hm=>by
   have ok:=hls.2 m hm
   have a1:=ok.p6
   have a2:=ok.q6
   have a3:=ok.r6
   exact⟨by omega,by omega,by omega⟩
  have k:R (.bl (C6 (G8 ls kk) z.1 z.2 && !G0 l z.1 z.2)) M:=k
  refine⟨fun c=>absurd c (by decide),fun _=>⟨h12,⟨(hls.oth kk).1,fun m hm=>?_,by omega,by omega⟩,fun c=>⟨e9 l,by show atI (ls.map e9) (kk:Int)=_;rw[N5 (by rw[ND,hk];rfl)],?_⟩,fun c=>?_⟩⟩
  ·unfold G8 at hm
   rcases NL.mp hm with h1|h1
   ·exact lz m (Ot h1)
   ·exact lz m (OL h1)
  ·walk_at "sim"
   rw[c,NR]at k
   exact⟨⟨lz l (Nq hk),by omega,by omega⟩,k⟩
  ·rw[c]at k;exact k
 | idle sh =>
  obtain⟨x,rfl,hx⟩:=ht
  obtain⟨zl,zs⟩:=hm.idle sh rfl
  refine⟨_,(d7 (t8 (d4 2) (j8 (n:=2) rfl (d9 (jn 3 sc.nd) (d9 (jn 4 sc.nd) i5)))) (d7 (h8 (jtm Y4 (d4 3) B5) (d8 (e5 (jc KJ hr (a9 (d4 0) (a9 (d4 1) (a9 (d4 4) d5)))))) f8) (d8 (e5 (A8 (jm Y4 (d4 3) B5) (A8 (jc LW hr (a9 (jc Ky hr (a9 (d4 0) (a9 (d4 1) d5))) (a9 (d4 4) d5))) (C7 (K4 (jc KP hr (a9 (jx (d4 0) (d4 1)) (a9 (d4 4) d5))))))))))),?_⟩
  walk_at "sim"
  exact⟨sh,l,hx,hls,hk,by omega,fun s hs=>by have:=zs s hs;omega,k⟩
theorem gc(T:Txt K mg)(d:Df K mg "_law_below" R1 ["one","other"]):Fn P w K mg base "_law_below" 1 ["one","other"] dh:=by
 have sc:=fP
 walk_at "fn"
 obtain⟨q,r,rfl,hz,k⟩:=h
 refine⟨_,(d8 (e5 (jm cF (e7 g9 (jx (d4 0) d6) (jx (d4 1) d6)) (e7 g9 (jx (d4 1) d6) (jx (d4 0) d6))))),?_⟩
 walk_at "sim"
 rw[RM.DE]
 exact⟨j5 _ _ (m8 q) (i9 r) (by omega),j5 _ _ (m8 r) (i9 q) (by omega),k⟩
theorem nO(T:Txt K mg)(d:Df K mg "_law_low" ae ["top","bottom"]):Fn P w K mg base "_law_low" 1 ["top","bottom"] J3:=by
 have sc:=mX
 walk_at "fn"
 obtain⟨a,b,rfl,hb,hl,k⟩:=h
 refine⟨_,(d7 (dm (i:=2) (j:=3) rfl sc.nd rfl rfl (by decide) rfl rfl (a9 (j3 fj rfl T.b_abs ak (a9 (d4 0) d5)) (a9 (j3 fj rfl T.b_abs ak (a9 (d4 1) d5)) d5))) (d7 (bL PassesOwn.never (jtm aW (d4 3) d6) (d8 (dm (i:=2) (j:=3) rfl sc.nd rfl rfl (by decide) rfl rfl (a9 (d4 3) (a9 (e7 S8 (d4 2) (d4 3)) d5))))) (d7 (h8 (jtm cF (d4 1) d6) (d8 (jst 2 sc.nd (e7 G3 d6 (d4 2)))) f8) (d8 (e5 (g8 (a9 (e7 L4 (d4 0) (d4 2)) (a9 (e7 L4 (d4 1) (d4 2)) d5)))))))),?_⟩
 walk_at "sim"
 refine sV (fun m e M2=>M2=M∧∃ v:Nat,e=[some (.int a),some (.int b),some (.int (v:Int)),some (.int (m:Int))]∧Ow v m=Ow a.natAbs b.natAbs) b.natAbs ⟨rfl,a.natAbs,rfl,rfl⟩ ?_
 rintro m e M2 ⟨rfl,v,rfl,hg⟩
 walk_at "sim"
 refine⟨fun h0=>⟨by omega,v % m,PK _ (by omega),m,by rw[RA],by rw[← hg];exact(RM.og v m (by omega)).symm⟩,fun h0=>?_⟩
 have hm:m=0:=by omega
 subst hm
 rw[Rh]at hg
 subst hg
 have hn:=xM (a:=a) hb
 have hlg:=sD (a:=a) hb hl
 have c1:(0 - ((Ow a.natAbs b.natAbs:Nat):Int)).natAbs.log2<9000:=by rw[Int.zero_sub,Oo];exact hlg
 refine⟨fun h1=>⟨⟨by omega,c1⟩,⟨by omega,c1⟩,dk hb (by rw[if_pos h1,Int.zero_sub]) k⟩,fun h1=>⟨⟨hn,hlg⟩,⟨hn,hlg⟩,dk hb (by rw[if_neg h1]) k⟩⟩
theorem nN(T:Txt K mg)(d:Df K mg "_law_sum" aa ["one","other"])(Kq:Fn P w K mg base "_law_low" 1 ["top","bottom"] J3):Fn P w K mg base "_law_sum" 2 ["one","other"] T5:=by
 have sc:=mW
 walk_at "fn"
 obtain⟨q,r,rfl,hz,k⟩:=h
 refine⟨_,(d8 (e5 (jc Kq hr (a9 (e7 C2 (e7 g9 (jx (d4 0) d6) (jx (d4 1) d6)) (e7 g9 (jx (d4 1) d6) (jx (d4 0) d6))) (a9 (e7 g9 (jx (d4 0) d6) (jx (d4 1) d6)) d5))))),?_⟩
 walk_at "sim"
 rw[← RM.qp]
 exact⟨mND hz,mND (by omega),mDD hz,NY (RM.u6 q) (RM.u6 r),lDD hz,k⟩
theorem fW(T:Txt K mg)(d:Df K mg "_law_taken" Q7 ["one","other"])(Kq:Fn P w K mg base "_law_low" 1 ["top","bottom"] J3):Fn P w K mg base "_law_taken" 2 ["one","other"] K1:=by
 have sc:=fL
 walk_at "fn"
 obtain⟨q,r,rfl,hz,k⟩:=h
 refine⟨_,(d8 (e5 (jc Kq hr (a9 (e7 g9 (jx (d4 0) d6) (jx (d4 1) d6)) (a9 (e7 g9 (jx (d4 0) d6) (jx (d4 1) d6)) d5))))),?_⟩
 walk_at "sim"
 rw[← RM.pU]
 exact⟨mNN hz,mDD hz,NY (RM.u6 q) (RM.u6 r),lDD hz,k⟩
theorem kC(T:Txt K mg)(d:Df K mg "_law_bare" U6 ["one"]):Fn P w K mg base "_law_bare" 1 ["one"] eB:=by
 have sc:=js
 walk_at "fn"
 obtain⟨q,rfl,k⟩:=h
 refine⟨_,(d8 (e5 (g8 (a9 (j3 fj rfl T.b_abs ak (a9 (jx (d4 0) d6) d5)) (a9 (jx (d4 0) d6) d5))))),?_⟩
 walk_at "sim"
 exact k
theorem gg(T:Txt K mg)(d:Df K mg "_law_added" R3 ["lines","shares"])(Kt:Fn P w K mg base "_law_sum" 2 ["one","other"] T5)(Kr:Fn P w K mg base "_law_taken" 2 ["one","other"] K1)(KD:Fn P w K mg base "_law_bare" 1 ["one"] eB):Fn P w K mg base "_law_added" 3 ["lines","shares"] jL:=by
 have sc:=fQ
 walk_at "fn"
 obtain⟨ls,x,rfl,sh,hx,hls,hb,hz,k⟩:=h
 obtain⟨hl2,hm⟩:=cS hb
 refine⟨_,(d7 (jst 2 sc.nd (B6 (a9 (g8 (a9 d6 (a9 d6 d5))) (a9 (g8 (a9 d6 (a9 d6 d5))) (a9 (g8 (a9 d6 (a9 d6 d5))) d5))))) (d7 (v8 PassesOwn.never rfl (p7 (d4 1)) (j8 (n:=2) rfl (d9 (jn 3 sc.nd) (d9 (jn 4 sc.nd) i5))) (d7 (jst 5 sc.nd (B6 (a9 (d4 4) (a9 (d4 4) (a9 (jc KD hr (a9 (d4 4) d5)) d5))))) (d8 (jst 2 sc.nd (A3 [0,2,3,5] ["k"] ["lines","found","number","by"] rfl (by decide +kernel) rfl (by decide +kernel) (by decide +kernel) rfl (Je ⟨rfl,rfl⟩ ⟨rfl,rfl⟩ ⟨rfl,rfl⟩ ⟨rfl,rfl⟩) (Je (Or.inl rfl) (Or.inl rfl) (Or.inl rfl) (Or.inl rfl)) (ba rfl T.b_range (a9 d6 d5)) (fun _ _ _ _ _ _=>(jn 0 (show(["k","lines","found","number","by"]:List Str).Nodup by decide +kernel))) (fun _ _ _ _ _ _=>r9) (fun _ _ _ _ _ _=>(jc Kt hr (a9 (jx (d4 2) (d4 0)) (a9 (jc Kr hr (a9 (jx (d4 4) (d4 0)) (a9 (jx (jx (d4 1) (d4 3)) (d4 0)) d5))) d5))))))))) (d8 (e5 (d4 2))))),?_⟩
 walk_at "sim"
 refine J2 hx ?_
 have sz0:=RM.au
 refine T1.by (fun i e M'=>M'=M∧(∃(z3 z4 z5:Option D),e=[some (.vl (ls.map e9)),some x,some (.vl [e8 (ad t0 ls (sh.take i)),e8 (ad t1 ls (sh.take i)),e8 (ad t2 ls (sh.take i))]),z3,z4,z5])∧sz (ad t0 ls (sh.take i))≤1+3263*i∧sz (ad t1 ls (sh.take i))≤1+3263*i∧sz (ad t2 ls (sh.take i))≤1+3263*i) ⟨rfl,⟨_,_,_,rfl⟩,by show sz 0≤_;omega,by show sz 0≤_;omega,by show sz 0≤_;omega⟩ (fun i e M' _ h=>by rw[h.1];exact hx) ?_ ?_
 ·rintro i dd e M' hd ⟨rfl,⟨z3,z4,z5,rfl⟩,ra,rb,rc⟩
  obtain⟨s,hs,rfl⟩:=cR hd
  have hsm:=Nq hs
  obtain⟨s0,sn,snz⟩:=hm s hsm
  have ssz:=hz s hsm
  obtain⟨j,hj⟩:∃ j:Nat,s.1=(j:Int):=⟨s.1.toNat,by omega⟩
  have hlj:ls[j]? = some (ls[j]'(by omega)):=NB (by omega)
  generalize ls[j]'(by omega)=l at hlj
  obtain⟨y1,y2,y3⟩:=(hls.2 l (Nq hlj)).z
  have i2:i<2:=by
   have:=(Nw.mp hs).1
   omega
  have sa:=Q0 s.2
  have tk:sh.take (i+1)=sh.take i++[s]:=by rw[Oz,hs];rfl
  have gl:ls.getD s.1.toNat (0,0,0)=l:=by rw[hj,NI,Nz,hlj];rfl
  rw[tk,X8,X8,X8,gl]
  generalize ad t0 ls (sh.take i)=A at *
  generalize ad t1 ls (sh.take i)=B at *
  generalize ad t2 ls (sh.take i)=C at *
  have m1:=RM.j9 s.2 l.1
  have m2:=RM.j9 s.2 l.2.1
  have m3:=RM.j9 (j0 s.2) l.2.2
  have n1:=RM.C9 A (s.2*l.1)
  have n2:=RM.C9 B (s.2*l.2.1)
  have n3:=RM.C9 C (j0 s.2*l.2.2)
  unfold shD
  walk_at "sim"
  rw[hj,show G7 0 (Int.toNat 3)=([0,1,2]:List Int).map D.int from rfl]
  have atj:ixD M' (D.vl (ls.map e9)) (D.int (j:Int))=some (e9 l):=by show atI (ls.map e9) (j:Int)=_;rw[N5 (by rw[ND,hlj];rfl)]
  refine⟨by decide,t5 (fun n:Int=>if n=0 then e8 (A+t0 s.2 l)else if n=1 then e8 (B+t1 s.2 l)else e8 (C+t2 s.2 l)) (by show 3≤1000;decide) trivial (fun n hn Q hQ=>?_) ⟨rfl,⟨_,_,_,rfl⟩,?_,?_,?_⟩⟩
  ·simp only[Nh,Nv,or_false]at hn
   rcases hn with rfl|rfl|rfl
   ·walk_at "sim"
    refine⟨_,atj,?_⟩
    walk_at "sim"
    exact⟨by omega,by omega,hQ⟩
   ·walk_at "sim"
    refine⟨_,atj,?_⟩
    walk_at "sim"
    exact⟨by omega,by omega,hQ⟩
   ·walk_at "sim"
    refine⟨_,atj,?_⟩
    walk_at "sim"
    exact⟨by omega,by omega,hQ⟩
  ·show sz (A+s.2*l.1)≤_;omega
  ·show sz (B+s.2*l.2.1)≤_;omega
  ·show sz (C+j0 s.2*l.2.2)≤_;omega
 ·rintro e M' ⟨rfl,⟨z3,z4,z5,rfl⟩,ra,rb,rc⟩
  walk_at "sim"
  rw[Nm,Ox]
  exact k
theorem af(T:Txt K mg)(d:Df K mg "_law_are_shares" F4 ["lines","shares"]):Fn P w K mg base "_law_are_shares" 1 ["lines","shares"] wo:=by
 have sc:=Z2
 walk_at "fn"
 obtain⟨ls,x,rfl,sh,hx,h12,h20,k⟩:=h
 refine⟨_,(d7 (S1 (i:=2) [] ["number","share"] [] sc.nd rfl (Or.inl rfl) rfl (by decide +kernel) rfl (by decide +kernel) (by decide +kernel) rfl L8 L8 (p7 (d4 1)) (fun _ _ _ _ _ _=>(j8 (n:=2) rfl (d9 (jn 0 (show(["number","share"]:List Str).Nodup by decide +kernel)) (d9 (jn 1 (show(["number","share"]:List Str).Nodup by decide +kernel)) i5)))) (fun _ _ _ _ _ _=>r9) (fun _ _ _ _ _ _=>(d4 0))) (d7 (h8 (E8 (J9 (jtm aW (j3 N4 rfl T.b_len F9 (a9 (d4 1) d5)) d6) (J7 (u7 (j3 (Jc rfl) rfl T.b_any Gu (a9 (A3 [] ["number","share"] [] rfl (by decide +kernel) rfl (by decide +kernel) (by decide +kernel) rfl L8 L8 (p7 (d4 1)) (fun _ _ _ _ _ _=>(j8 (n:=2) rfl (d9 (jn 0 (show(["number","share"]:List Str).Nodup by decide +kernel)) (d9 (jn 1 (show(["number","share"]:List Str).Nodup by decide +kernel)) i5)))) (fun _ _ _ _ _ _=>r9) (fun _ _ _ _ _ _=>(jm G4 (jx (d4 1) d6) d6))) d5)))))) (d8 (e5 E4)) f8) (d8 (e5 (A8 (jm (eU hu) (d4 2) (pX rfl rfl T.b_sorted iJ rfl T.b_set Gs (a9 (d4 2) d5))) (C7 (j3 (sS rfl) rfl T.b_all ll (a9 (A3 [0] ["number"] ["lines"] rfl (by decide +kernel) rfl (by decide +kernel) (by decide +kernel) rfl (bx ⟨rfl,rfl⟩) (bx (Or.inl rfl)) (p7 (d4 2)) (fun _ _ _ _ _ _=>(jn 0 (show(["number","lines"]:List Str).Nodup by decide +kernel))) (fun _ _ _ _ _ _=>r9) (fun _ _ _ _ _ _=>(xC FN cF d6 (d4 0) (j3 N4 rfl T.b_len F9 (a9 (d4 1) d5))))) d5)))))))),?_⟩
 walk_at "sim"
 refine J2 hx (t5 (xs:=sh) (enc:=shD) (fun s=>.int s.1) (by omega) hx (fun s hs Q hQ=>by unfold shD;walk_at "sim";exact hQ) ?_)
 show qc [x] M _
 rw[gZ (sk hx)]
 walk_at "sim"
 rw[Nm]
 refine⟨fun c=>?_,fun c=>J2 hx (t5 (xs:=sh) (enc:=shD) (fun s=>.bl (decide (s.2=0))) (by omega) hx (fun s hs Q hQ=>?_) ?_)⟩
 ·have:shB ls.length sh=false:=by unfold shB;rw[decide_eq_false (by omega)];rfl
  rw[this]at k
  exact k
 ·unfold shD
  walk_at "sim"
  rw[show decide (s.2.num=0)=decide (s.2=0)from decide_eq_decide.mpr Pl]
  exact hQ
 ·show Ge [D.vl (sh.map fun s=>D.bl (decide (s.2=0)))] M _
  rw[show sh.map (fun s=>D.bl (decide (s.2=0)))=(sh.map fun s=>decide (s.2=0)).map D.bl by rw[Of];rfl]
  walk_at "sim"
  rw[show(sh.map fun s=>D.int s.1)=(sh.map (·.1)).map D.int by rw[Of];rfl]
  refine⟨fun c2=>?_,fun c2=>?_⟩
  ·rw[Rp,Qx]at c2
   obtain⟨s,hs,e⟩:=c2
   rw[Az ⟨s,hs,of_decide_eq_true e⟩]at k
   exact k
  have nz:∀ s∈sh,s.2≠0:=fun s hs e=>by
   rw[Rp,Ri]at c2
   exact c2 s hs (decide_eq_true e)
  rw[EK (by omega) nz]at k
  have li:∀ ns:List Int,cl 60 (D.vl (ns.map D.int))=true:=fun ns=>kR fun d hd=>by
   obtain⟨n,_,rfl⟩:=Nu.mp hd
   rfl
  have inj:∀ a b:List Int,D.vl (a.map D.int)=D.vl (b.map D.int)↔a=b:=fun a b=>⟨fun e=>by
   injection e with e
   exact(Oh fun x y h=>by injection h).mp e,fun e=>by rw[e]⟩
  refine⟨_,sh.map (·.1),rfl,rfl,by rw[Nm];omega,li _,li _,fun e=>?_,fun e=>?_⟩
  ·rw[decide_eq_true ((inj _ _).mp e),NR]at k
   walk_at "sim"
   refine t5 (fun n:Int=>D.bl (decide (0≤n) && decide (n<(ls.length:Int)))) (by rw[Nm];omega) (by simp only[t7]) (fun n hn Q hQ=>?_) ?_
   ·walk_at "sim"
    rw[Nm]
    exact⟨fun c=>by rw[decide_eq_true c,NR]at hQ;exact hQ,fun c=>by rw[decide_eq_false c,OR]at hQ;exact hQ⟩
   ·show xS [D.vl ((sh.map (·.1)).map fun n:Int=>D.bl (decide (0≤n) && decide (n<(ls.length:Int))))] M R
    rw[show(sh.map (·.1)).map (fun n:Int=>D.bl (decide (0≤n) && decide (n<(ls.length:Int))))=((sh.map (·.1)).map fun n=>decide (0≤n) && decide (n<(ls.length:Int))).map D.bl by generalize sh.map (·.1)=ns;rw[Of];rfl]
    walk_at "sim"
    rw[Ro]
    exact k
  ·rw[decide_eq_false fun z=>e ((inj _ _).mpr z),OR]at k
   exact k
theorem fV(T:Txt K mg)(d:Df K mg "_law_worth" Q6 ["p","q","ray"])(Kt:Fn P w K mg base "_law_sum" 2 ["one","other"] T5)(Kr:Fn P w K mg base "_law_taken" 2 ["one","other"] K1):Fn P w K mg base "_law_worth" 3 ["p","q","ray"] jB:=by
 have sc:=fK
 walk_at "fn"
 obtain⟨p,q,y,u,rfl,hz,k⟩:=h
 have m1:=RM.j9 p y
 have m2:=RM.j9 q u
 refine⟨_,(d8 (e5 (jc Kt hr (a9 (jc Kr hr (a9 (d4 0) (a9 (jx (d4 2) d6) d5))) (a9 (jc Kr hr (a9 (d4 1) (a9 (jx (d4 2) d6) d5))) d5))))),?_⟩
 walk_at "sim"
 exact⟨by omega,by omega,by omega,k⟩
theorem kB(T:Txt K mg)(d:Df K mg "_law_lets" U5 ["lines","ray"])(Kv:Fn P w K mg base "_law_below" 1 ["one","other"] dh)(KD:Fn P w K mg base "_law_bare" 1 ["one"] eB)(Ll:Fn P w K mg base "_law_worth" 3 ["p","q","ray"] jB):Fn P w K mg base "_law_lets" 4 ["lines","ray"] pF:=by
 have sc:=jr
 walk_at "fn"
 obtain⟨ls,y,u,rfl,⟨hls,h3,h4⟩,k⟩:=h
 refine⟨_,(d7 (v8 PassesOwn.never rfl (p7 (d4 0)) (j8 (n:=3) rfl (d9 (jn 2 sc.nd) (d9 (jn 3 sc.nd) (d9 (jn 4 sc.nd) i5)))) (d8 (h8 (u7 (jc Kv hr (a9 (d4 4) (a9 (jc KD hr (a9 (jc Ll hr (a9 (d4 2) (a9 (d4 3) (a9 (d4 1) d5)))) d5)) d5)))) (d8 (e5 E4)) f8))) (d8 (e5 E4))),?_⟩
 walk_at "sim"
 refine T1.by (fun i e M'=>M'=M∧(∃ z1 z2 z3:Option D,e=[some (.vl (ls.map e9)),some (A5 y u),z1,z2,z3])∧∀ j l,j<i→ls[j]? = some l→G0 l y u=true) ⟨rfl,⟨_,_,_,rfl⟩,fun j l z=>absurd z (RK j)⟩ (fun i e M' _ _=>by simp only[t7]) ?_ ?_
 ·rintro i dd e M' hd ⟨rfl,⟨z1,z2,z3,rfl⟩,hno⟩
  obtain⟨l,hl,rfl⟩:=iw hd
  have hm:=Nq hl
  obtain⟨q1,q2,q3⟩:=(hls.2 l hm).z
  have m1:=RM.j9 l.1 y
  have m2:=RM.j9 l.2.1 u
  have m3:=RM.C9 (l.1*y) (l.2.1*u)
  have m4:=Q0 (l.1*y+l.2.1*u)
  walk_at "sim"
  refine⟨by omega,by omega,fun h=>?_,fun h=>⟨⟨_,_,_,rfl⟩,fun j x hj hx=>?_⟩⟩
  ·rw[xq hm (by rw[nU,decide_eq_true h];rfl)]at k
   exact k
  ·rcases Nat.lt_succ_iff_lt_or_eq.mp hj with z|z
   ·exact hno j x z hx
   ·subst z
    obtain rfl:x=l:=by rw[hl]at hx;exact(Option.some.inj hx).symm
    rw[nU,decide_eq_false h];rfl
 ·rintro e M' ⟨rfl,⟨z1,z2,z3,rfl⟩,hno⟩
  walk_at "sim"
  rw[pW fun i l e=>hno i l (by rw[Nm];exact(Nw.mp e).1) e]at k
  exact k
theorem fX(T:Txt K mg)(d:Df K mg "_law_right" Q8 ["lines","k","told"])(Kv:Fn P w K mg base "_law_below" 1 ["one","other"] dh)(KU:Fn P w K mg base "_law_added" 3 ["lines","shares"] jL)(Kx:Fn P w K mg base "_law_are_shares" 1 ["lines","shares"] wo)(KG:Fn P w K mg base "_law_lets" 4 ["lines","ray"] pF):Fn P w K mg base "_law_right" 5 ["lines","k","told"] eL:=by
 have sc:=fM
 walk_at "fn"
 obtain⟨ls,kk,t,rfl,m,l,ht,hls,hk,hm,k⟩:=h
 have h12:=hls.1
 have ec:DL.O4 (Ol e9 ls) none (some (kk:Int))++DL.O4 (Ol e9 ls) (some ((kk:Int)+1)) none=(G8 ls kk).map e9:=by
  rw[kP,show(kk:Int)+1=((kk+1:Nat):Int)by omega,yr]
  unfold G8
  rw[NF,Qt,RU]
 have szk:(DL.O4 (Ol e9 ls) none (some (kk:Int))).length+(DL.O4 (Ol e9 ls) (some ((kk:Int)+1)) none).length≤1000:=by
  rw[← NX,ec,Nm]
  have:=(hls.a.oth kk).1
  omega
 have atk:∀ M:Mem,ixD M (D.vl (ls.map e9)) (D.int (kk:Int))=some (e9 l):=fun M=>by show atI (ls.map e9) (kk:Int)=_;rw[N5 (by rw[ND,hk];rfl)]
 have lm:=Nq hk
 obtain⟨y1,y2,y3⟩:=(hls.2 l lm).z
 cases m with
 | needed z =>
  obtain rfl:t = .tup [.str "needed",A5 z.1 z.2]:=ht
  obtain⟨z1,z2⟩:=hm.needed z rfl
  have k:R (.bl (C6 (G8 ls kk) z.1 z.2 && !G0 l z.1 z.2)) M:=k
  refine⟨_,(d7 (jst 3 sc.nd (bb (D6 (d4 0) C5 (C4 (d4 1))) (D6 (d4 0) (C4 (e7 C2 (d4 1) d6)) C5))) (d7 (h8 (jtm Y4 (jx (d4 2) d6) B5) (d8 (e5 (A8 (jc KG hr (a9 (d4 3) (a9 (jx (d4 2) d6) d5))) (C7 (K4 (jc KG hr (a9 (B6 (a9 (jx (d4 0) (d4 1)) d5)) (a9 (jx (d4 2) d6) d5)))))))) f8) (d7 (jst 4 sc.nd (jx (d4 2) d6)) (d7 (h8 (E8 (J9 (E7 (u7 (jc Kx hr (a9 (d4 0) (a9 (d4 4) d5))))) (J7 (jtm FO (d4 1) (A3 [] ["number","share"] [] rfl (by decide +kernel) rfl (by decide +kernel) (by decide +kernel) rfl L8 L8 (p7 (d4 4)) (fun _ _ _ _ _ _=>(j8 (n:=2) rfl (d9 (jn 0 (show(["number","share"]:List Str).Nodup by decide +kernel)) (d9 (jn 1 (show(["number","share"]:List Str).Nodup by decide +kernel)) i5)))) (fun _ _ _ _ _ _=>r9) (fun _ _ _ _ _ _=>(d4 0))))))) (d8 (e5 E4)) f8) (d7 (t8 (jc KU hr (a9 (d4 0) (a9 (d4 4) d5))) (eZ (n:=3) rfl (d9 (jn 5 sc.nd) (d9 (jn 6 sc.nd) (d9 (jn 7 sc.nd) i5))))) (d8 (e5 (A8 (jm (eU hu) (g8 (a9 (d4 5) (a9 (d4 6) d5))) (D6 (jx (d4 0) (d4 1)) C5 (C4 d6))) (C7 (K4 (jc Kv hr (a9 (jx (jx (d4 0) (d4 1)) d6) (a9 (d4 7) d5))))))))))))),?_⟩
  walk_at "sim"
  rw[B3 szk,ec]
  walk_at "sim"
  refine⟨⟨ke hls kk,by omega,by omega⟩,fun c=>⟨_,atk _,?_⟩,fun c=>by rw[c]at k;exact k⟩
  rw[c,NR]at k
  refine⟨[l],z.1,z.2,rfl,⟨⟨by show 1≤12;decide,fun m hm=>by rw[NS.mp hm];exact hls.2 l lm⟩,by omega,by omega⟩,?_⟩
  walk_at "sim"
  rw[show C6 [l] z.1 z.2=G0 l z.1 z.2 by unfold C6;rw[Qp,List.all_nil,Pr]]
  exact k
 | idle sh =>
  obtain⟨x,rfl,hx⟩:=ht
  obtain⟨zl,zs⟩:=hm.idle sh rfl
  have zs':∀ s∈sh,sz s.2≤3000:=fun s hs=>by have:=zs s hs;omega
  have k:R (.bl (decide (¬ (kk:Int)∈sh.map (·.1)) && shB ls.length sh && decide (ad t0 ls sh=l.1∧ad t1 ls sh=l.2.1) && decide (ad t2 ls sh≤l.2.2))) M:=k
  refine⟨_,(d7 (jst 3 sc.nd (bb (D6 (d4 0) C5 (C4 (d4 1))) (D6 (d4 0) (C4 (e7 C2 (d4 1) d6)) C5))) (d7 (h8 (jtm Y4 (jx (d4 2) d6) B5) (d8 (e5 (A8 (jc KG hr (a9 (d4 3) (a9 (jx (d4 2) d6) d5))) (C7 (K4 (jc KG hr (a9 (B6 (a9 (jx (d4 0) (d4 1)) d5)) (a9 (jx (d4 2) d6) d5)))))))) f8) (d7 (jst 4 sc.nd (jx (d4 2) d6)) (d7 (h8 (E8 (J9 (E7 (u7 (jc Kx hr (a9 (d4 0) (a9 (d4 4) d5))))) (J7 (jtm FO (d4 1) (A3 [] ["number","share"] [] rfl (by decide +kernel) rfl (by decide +kernel) (by decide +kernel) rfl L8 L8 (p7 (d4 4)) (fun _ _ _ _ _ _=>(j8 (n:=2) rfl (d9 (jn 0 (show(["number","share"]:List Str).Nodup by decide +kernel)) (d9 (jn 1 (show(["number","share"]:List Str).Nodup by decide +kernel)) i5)))) (fun _ _ _ _ _ _=>r9) (fun _ _ _ _ _ _=>(d4 0))))))) (d8 (e5 E4)) f8) (d7 (t8 (jc KU hr (a9 (d4 0) (a9 (d4 4) d5))) (eZ (n:=3) rfl (d9 (jn 5 sc.nd) (d9 (jn 6 sc.nd) (d9 (jn 7 sc.nd) i5))))) (d8 (e5 (A8 (jm (eU hu) (g8 (a9 (d4 5) (a9 (d4 6) d5))) (D6 (jx (d4 0) (d4 1)) C5 (C4 d6))) (C7 (K4 (jc Kv hr (a9 (jx (jx (d4 0) (d4 1)) d6) (a9 (d4 7) d5))))))))))))),?_⟩
  walk_at "sim"
  rw[B3 szk]
  refine⟨fun c=>absurd c (by decide),fun _=>⟨sh,hx,h12,by omega,fun c=>?_,fun c=>J2 hx (t5 (xs:=sh) (enc:=shD) (fun s=>.int s.1) (by omega) hx (fun s hs Q hQ=>by unfold shD;walk_at "sim";exact hQ) ?_)⟩⟩
  ·rw[c,Pb]at k;exact k
  show gIn false (D.int (kk:Int)) (D.vl (sh.map fun s=>D.int s.1)) M _
  rw[show(sh.map fun s=>D.int s.1)=(sh.map (·.1)).map D.int by rw[Of];rfl]
  refine yV ?_
  walk_at "sim"
  refine⟨fun c2=>?_,fun c2=>⟨sh,hx,hls,c,zs',_,atk _,?_⟩⟩
  ·rw[decide_eq_false (fun z=>z c2)]at k
   exact k
  rw[decide_eq_true c2,c,NR,NR]at k
  walk_at "sim"
  show xO (D.tup [e8 l.1,e8 l.2.1,e8 l.2.2]) none (some 2) M _
  walk_at "sim"
  rw[show DL.O4 [e8 l.1,e8 l.2.1,e8 l.2.2] none (some 2)=[e8 l.1,e8 l.2.1]from rfl]
  have a2:=GB hls c zs'
  refine⟨by decide,rfl,fun e=>⟨_,atk _,?_⟩,fun e=>?_⟩
  ·have e':ad t0 ls sh=l.1∧ad t1 ls sh=l.2.1:=by
    injection e with e
    injection e with e1 e
    injection e with e2 e
    exact⟨L1 e1,L1 e2⟩
   rw[decide_eq_true e',NR]at k
   walk_at "sim"
   refine⟨by omega,?_⟩
   rw[show(!decide (l.2.2<ad t2 ls sh))=decide (ad t2 ls sh≤l.2.2)by
    by_cases c:ad t2 ls sh≤l.2.2
    ·rw[decide_eq_true c,decide_eq_false (Rat.not_lt.mpr c)];rfl
    ·rw[decide_eq_false c,decide_eq_true (RR.mp c)];rfl]
   exact k
  ·rw[decide_eq_false fun z=>e (by rw[z.1,z.2]),OR]at k
   exact k
theorem bK(T:Txt K mg)(d:Df K mg "_law_is_ratio" J6 ["found"]):Fn P w K mg base "_law_is_ratio" 1 ["found"] jM:=by
 have sc:=bD
 walk_at "fn"
 obtain⟨q,rfl,k⟩:=h
 refine⟨_,(d7 (h8 (E8 (J9 (E7 (u7 (j3 (V8 T.sub) rfl T.b_isinstance o7 (a9 (d4 0) (a9 (V3 rfl T.b_tuple L7) d5))))) (J7 (jtm rT (j3 N4 rfl T.b_len F9 (a9 (d4 0) d5)) d6)))) (d8 (e5 E4)) f8) (d8 (e5 (A8 (j3 (sS rfl) rfl T.b_all ll (a9 (A3 [] ["part"] [] rfl (by decide +kernel) rfl (by decide +kernel) (by decide +kernel) rfl L8 L8 (p7 (d4 0)) (fun _ _ _ _ _ _=>(jn 0 (show(["part"]:List Str).Nodup by decide +kernel))) (fun _ _ _ _ _ _=>r9) (fun _ _ _ _ _ _=>(A8 (j3 (V8 T.sub) rfl T.b_isinstance o7 (a9 (d4 0) (a9 (V3 rfl T.b_int qk) d5))) (C7 (K4 (j3 (V8 T.sub) rfl T.b_isinstance o7 (a9 (d4 0) (a9 (V3 rfl T.b_bool lj) d5)))))))) d5)) (C7 (jm aW (jx (d4 0) d6) d6)))))),?_⟩
 walk_at "sim"
 show yR (D.tup [.int q.num,.int (q.den:Int)]) M _
 walk_at "sim"
 refine t5 (xs:=[q.num,(q.den:Int)]) (enc:=D.int) (fun _=>.bl true) (by show 2≤1000;decide) (.inl rfl) (fun n hn Q hQ=>?_) ?_
 ·walk_at "sim"
  exact hQ
 ·show xS [D.vl ([true,true].map D.bl)] M _
  walk_at "sim"
  have d:=q.den_pos
  rw[decide_eq_true (show(0:Int)<(q.den:Int)by omega)]
  exact⟨fun _=>k,fun c=>absurd c (by decide)⟩
theorem aV(T:Txt K mg)(d:Df K mg "_law_is_shares" G6 ["found"])(Ku:Fn P w K mg base "_law_is_ratio" 1 ["found"] jM):Fn P w K mg base "_law_is_shares" 2 ["found"] wu:=by
 have sc:=ay
 walk_at "fn"
 obtain⟨l,rfl,sh,hm,h20,k⟩:=h
 refine⟨_,(d7 (h8 (E7 (u7 (j3 (V8 T.sub) rfl T.b_isinstance o7 (a9 (d4 0) (a9 (V3 rfl T.b_list lh) d5))))) (d8 (e5 E4)) f8) (d7 (v8 PassesOwn.never rfl (p7 (d4 0)) (jn 1 sc.nd) (d7 (h8 (E8 (J9 (E7 (u7 (j3 (V8 T.sub) rfl T.b_isinstance o7 (a9 (d4 1) (a9 (V3 rfl T.b_tuple L7) d5))))) (J9 (jtm rT (j3 N4 rfl T.b_len F9 (a9 (d4 1) d5)) d6) (J9 (u7 (j3 (V8 T.sub) rfl T.b_isinstance o7 (a9 (jx (d4 1) d6) (a9 (V3 rfl T.b_bool lj) d5)))) (J7 (E7 (u7 (j3 (V8 T.sub) rfl T.b_isinstance o7 (a9 (jx (d4 1) d6) (a9 (V3 rfl T.b_int qk) d5)))))))))) (d8 (e5 E4)) f8) (d8 (h8 (E7 (u7 (jc Ku hr (a9 (jx (d4 1) d6) d5)))) (d8 (e5 E4)) f8)))) (d8 (e5 E4)))),?_⟩
 walk_at "sim"
 rw[t4 (b:=true) (Au hm) rfl]
 walk_at "sim"
 refine J2 (.inr (.inl ⟨l,rfl,hm⟩)) ?_
 refine T1.by (fun i e M'=>M'=M∧∃ z1:Option D,e=[some (.ref l),z1]) ⟨rfl,_,rfl⟩ (fun i e M' _ h=>by rw[h.1];exact .inr (.inl ⟨l,rfl,hm⟩)) ?_ ?_
 ·rintro i dd e M' hd ⟨rfl,z1,rfl⟩
  obtain⟨s,hs,rfl⟩:=cR hd
  have hd:shD s = .tup [.int s.1,e8 s.2]:=rfl
  rw[hd]
  walk_at "sim"
  exact⟨fun c=>absurd rfl c,fun _=>⟨_,rfl⟩⟩
 ·rintro e M' ⟨rfl,z1,rfl⟩
  walk_at "sim"
  exact k
theorem eQ(T:Txt K mg)(d:Df K mg "_law_is_ray" O1 ["found"])(Ku:Fn P w K mg base "_law_is_ratio" 1 ["found"] jM):Fn P w K mg base "_law_is_ray" 2 ["found"] pI:=by
 have sc:=eF
 walk_at "fn"
 obtain⟨y,u,rfl,k⟩:=h
 refine⟨_,(d8 (e5 (A8 (j3 (V8 T.sub) rfl T.b_isinstance o7 (a9 (d4 0) (a9 (V3 rfl T.b_tuple L7) d5))) (A8 (jm G4 (j3 N4 rfl T.b_len F9 (a9 (d4 0) d5)) d6) (C7 (j3 (sS rfl) rfl T.b_all ll (a9 (A3 [] ["part"] [] rfl (by decide +kernel) rfl (by decide +kernel) (by decide +kernel) rfl L8 L8 (p7 (d4 0)) (fun _ _ _ _ _ _=>(jn 0 (show(["part"]:List Str).Nodup by decide +kernel))) (fun _ _ _ _ _ _=>r9) (fun _ _ _ _ _ _=>(jc Ku hr (a9 (d4 0) d5)))) d5))))))),?_⟩
 walk_at "sim"
 refine⟨fun _=>t5 (xs:=[y,u]) (enc:=e8) (fun _=>.bl true) (by show 2≤1000;decide) (.inl rfl) (fun n hn Q hQ=>?_) ?_,fun c=>absurd rfl c⟩
 ·walk_at "sim"
  exact hQ
 ·show xS [D.vl ([true,true].map D.bl)] M _
  walk_at "sim"
  exact k
theorem cE(T:Txt K mg)(d:Df K mg "_law_is_told" L0 ["found"])(KQ:Fn P w K mg base "_law_is_shares" 2 ["found"] wu)(Lf:Fn P w K mg base "_law_is_ray" 2 ["found"] pI):Fn P w K mg base "_law_is_told" 3 ["found"] eM:=by
 have sc:=cz
 walk_at "fn"
 obtain⟨t,rfl,m,ht,k⟩:=h
 refine⟨_,(d7 (h8 (E8 (J9 (E7 (u7 (j3 (V8 T.sub) rfl T.b_isinstance o7 (a9 (d4 0) (a9 (V3 rfl T.b_tuple L7) d5))))) (J7 (jtm rT (j3 N4 rfl T.b_len F9 (a9 (d4 0) d5)) d6)))) (d8 (e5 E4)) f8) (d7 (h8 (jtm Y4 (jx (d4 0) d6) B5) (d8 (e5 (jc Lf hr (a9 (jx (d4 0) d6) d5)))) f8) (d8 (e5 (A8 (jm Y4 (jx (d4 0) d6) B5) (C7 (jc KQ hr (a9 (jx (d4 0) d6) d5)))))))),?_⟩
 rcases ht with⟨z,rfl,rfl⟩|⟨sh,l,rfl,rfl,hm,h20⟩
 ·walk_at "sim"
  exact⟨fun c=>absurd rfl c,fun _=>k⟩
 ·walk_at "sim"
  exact⟨fun c=>absurd rfl c,fun _=>⟨fun c=>absurd c (by decide),fun _=>⟨sh,hm,h20,k⟩⟩⟩
theorem kv(T:Txt K mg)(d:Df K mg "_law_next" U3 ["pool","base"]):Fn P w K mg base "_law_next" 1 ["pool","base"] N7:=by
 have sc:=jo
 refine i4 d sc (fun ds M R Y h=>?_) (fun f cdv A outer s H E ds M R Y hr h=>?_)
 ·obtain⟨p,b,rfl,_⟩:=h;rfl
 ·obtain⟨p,b,rfl,⟨x,y,z,hM⟩,hb,hl,k⟩:=h
  refine⟨_,(d7 (h8 (jtm aW (jx (d4 0) d6) d6) (d7 (jst 2 sc.nd (e7 S8 (jx (d4 0) d6) (d4 1))) (d7 (t8 (e7 L4 (jx (d4 0) d6) (d4 1)) (kI (d4 0) d6)) (d8 (e5 (d4 2))))) f8) (d7 (t8 (e7 C2 (jx (d4 0) d6) d6) (kI (d4 0) d6)) (d7 (jst 3 sc.nd (e7 S8 (e7 C2 (jx (d4 0) d6) (e7 g9 d6 (jx (d4 0) d6))) d6)) (d7 (jst 4 sc.nd (e7 S8 (e7 g9 (e7 C2 (d4 3) d6) (e7 C2 (d4 3) d6)) d6)) (d8 (e5 (e7 S8 (e7 L4 (e7 S8 (e7 g9 (d4 4) (d4 4)) d6) d6) (d4 1)))))))),?_⟩
  refine⟨_,rfl,_,F7 hM rfl,_,rfl,_,rfl,?_⟩
  refine xF (fun h0=>?_) (fun h0=>?_)
  ·refine⟨_,rfl,_,F7 hM rfl,_,rfl,_,_,rfl,rfl,hb,?_⟩
   refine⟨_,rfl,_,F7 hM rfl,_,rfl,_,_,rfl,rfl,⟨by omega,hl⟩,_,rfl,_,_,_,_,rfl,rfl,hM,rfl,?_⟩
   exact⟨_,rfl,k _ _ (OW _ (by omega)) (OI _ hb) (t6.upd _ _ _)⟩
  ·refine⟨_,rfl,_,F7 hM rfl,_,rfl,_,rfl,_,_,_,_,rfl,rfl,hM,rfl,?_⟩
   refine⟨_,rfl,_,F7 g7 rfl,_,rfl,_,F7 g7 rfl,_,_,rfl,rfl,BI (by decide) (by decide),_,rfl,_,_,rfl,rfl,(by show(0:Int)<1000000007;decide),?_⟩
   refine⟨_,rfl,_,rfl,_,rfl,_,rfl,_,_,rfl,rfl,JQ (by decide) (by decide) (by decide) (by decide),_,_,rfl,rfl,(by show(0:Int)<998244353;decide),?_⟩
   refine⟨_,rfl,_,rfl,_,_,rfl,rfl,Ie (by decide) (by decide),_,_,rfl,rfl,(by show(0:Int)<2147483647;decide),_,_,rfl,rfl,Kg,_,rfl,_,_,rfl,rfl,hb,?_⟩
   exact k _ _ (OW _ (by omega)) (OI _ hb) (t6.upd _ _ _)
theorem kr(T:Txt K mg)(d:Df K mg "_law_wide" U1 ["pool","base"])(Kp:Fn P w K mg base "_law_next" 1 ["pool","base"] N7):Fn P w K mg base "_law_wide" 2 ["pool","base"] N7:=by
 have sc:=jk
 refine i4 d sc (fun ds M R Y h=>?_) (fun f cdv A outer s H E ds M R Y hr h=>?_)
 ·obtain⟨p,b,rfl,_⟩:=h;rfl
 ·obtain⟨p,b,rfl,⟨x,y,z,hM⟩,hb,hl,k⟩:=h
  refine⟨_,(d7 (h8 (E8 (J9 (jtm aW (jx (d4 0) d6) d6) (J7 (jtm cF (d4 1) (e7 rS d6 d6))))) (d8 (e5 (jc Kp hr (a9 (d4 0) (a9 (d4 1) d5))))) f8) (d7 (jst 2 sc.nd d6) (d7 (v8 PassesOwn.never rfl (ba rfl T.b_range (a9 (e7 C2 d6 (e7 L4 (BU (d4 1)) d6)) d5)) (jn 3 sc.nd) (d8 (jst 2 sc.nd (e7 C2 (e7 g9 (d4 2) d6) (jc Kp hr (a9 (d4 0) (a9 d6 d5))))))) (d8 (e5 (e7 S8 (d4 2) (d4 1))))))),?_⟩
  refine⟨_,rfl,_,F7 hM rfl,_,rfl,_,rfl,?_⟩
  have again:Gn (oj N7 [] Y0 (sP (Y2 0) (sP (Y2 1) Gp))) { nx:=fun _ M'=>R .non M',rt:=R } (V6 ["pool","base","number","turn"] [.ref p,.int b]) M :=
   ⟨_,rfl,_,rfl,p,b,rfl,⟨x,y,z,hM⟩,hb,hl,k⟩
  refine xF (fun h0=>?_) (fun h0=>?_)
  ·exact Ij again
  ·refine⟨_,rfl,_,_,rfl,rfl,cp6,_,rfl,_,rfl,?_⟩
   refine xF (fun h1=>?_) (fun h1=>?_)
   ·exact again
   ·have hbits:=Co hl
    have e20:((Builtin.Int.intBits b:Nat):Int).fdiv 20=((Builtin.Int.intBits b:Nat):Int) / 20:=bj (by omega) (by decide)
    refine⟨_,rfl,_,rfl,_,_,rfl,rfl,IV,_,rfl,_,rfl,by rw[e20];omega,by rw[e20];omega,?_⟩
    refine⟨fun i e M'=>∃(n:Int) (t:Option D),e=[some (.ref p),some (.int b),some (.int n),t]∧t6 p M M',⟨0,none,rfl,t6.refl ⟨x,y,z,hM⟩⟩,fun _ _ _ _ _=>trivial,?_,?_⟩
    ·rintro i dd e M' hd ⟨n,t,rfl,st⟩
     refine⟨_,rfl,_,_,rfl,rfl,JR (by decide) (by decide),_,rfl,p,_,rfl,st.pool,by decide,by decide,fun r M2 h0 h1 st2=>?_⟩
     exact⟨_,rfl,_,_,rfl,st.trans st2⟩
    ·rintro e M' ⟨n,t,rfl,st⟩
     exact⟨_,rfl,_,rfl,_,_,rfl,rfl,hb,k _ _ (OW _ (by omega)) (OI _ hb) st⟩
theorem eP(T:Txt K mg)(d:Df K mg "_law_number" O0 ["pool"])(Kq:Fn P w K mg base "_law_low" 1 ["top","bottom"] J3)(Ld:Fn P w K mg base "_law_wide" 2 ["pool","base"] N7)(Kp:Fn P w K mg base "_law_next" 1 ["pool","base"] N7):Fn P w K mg base "_law_number" 3 ["pool"] eA:=by
 have sc:=eE
 walk_at "fn"
 obtain⟨p,rfl,hp,k⟩:=h
 refine⟨_,(d7 (jst 1 sc.nd (jc Kp hr (a9 (d4 0) (a9 d6 d5)))) (d7 (h8 (jtm cF (d4 1) d6) (d8 (e5 (jc Kq hr (a9 (e7 G3 (jc Kp hr (a9 (d4 0) (a9 d6 d5))) d6) (a9 (jx (B6 (a9 d6 (a9 d6 (a9 d6 (a9 d6 (a9 d6 (a9 d6 d5))))))) (jc Kp hr (a9 (d4 0) (a9 d6 d5)))) d5))))) f8) (d7 (h8 (jtm G4 (d4 1) d6) (d8 (e5 (jc Kq hr (a9 (e7 G3 (jc Kp hr (a9 (d4 0) (a9 d6 d5))) d6) (a9 (e7 C2 d6 (jc Kp hr (a9 (d4 0) (a9 d6 d5)))) d5))))) f8) (d7 (h8 (jtm G4 (d4 1) d6) (d7 (jst 2 sc.nd (e7 G3 (e7 rS d6 d6) d6)) (d8 (e5 (jc Kq hr (a9 (e7 G3 (jc Ld hr (a9 (d4 0) (a9 (e7 C2 (e7 g9 d6 (d4 2)) d6) d5))) (d4 2)) (a9 (e7 C2 d6 (jc Ld hr (a9 (d4 0) (a9 (d4 2) d5)))) d5)))))) f8) (d8 (e5 (g8 (a9 d6 (a9 d6 d5))))))))),?_⟩
 walk_at "sim"
 have e12:(10:Int) ^ Int.toNat 12=1000000000000:=by decide
 have lg:∀{b:Int},b.natAbs<2 ^ 41→b.natAbs.log2<9000:=fun{b} hb=>L6 (Nf hb (Nl (by decide) (by decide))) (by decide)
 refine⟨hp,by decide,fun r M1 r0 r1 s1=>⟨fun h1=>⟨s1.pool,by decide,fun t M2 t0 t1 s2=>⟨s2.pool,by decide,fun v M3 v0 v1 s3=>?_⟩⟩,fun h1=>⟨fun h2=>⟨s1.pool,by decide,fun t M2 t0 t1 s2=>⟨s2.pool,by decide,fun v M3 v0 v1 s3=>⟨by omega,lg (by omega),k _ _ (O2 (by decide) (by omega) (by omega) (by omega)) (s1.trans (s2.trans s3))⟩⟩⟩,fun h2=>⟨fun h3=>?_,fun h3=>k _ _ (by decide) s1⟩⟩⟩⟩
 ·refine dn (by omega) (by show v<6;omega) fun d hd=>?_
  have hd':∃ b:Int,d = .int b∧0<b∧b≤4:=by
   simp only[Nh,Nv,or_false]at hd
   rcases hd with rfl|rfl|rfl|rfl|rfl|rfl
   ·exact⟨1,rfl,by decide,by decide⟩
   ·exact⟨1,rfl,by decide,by decide⟩
   ·exact⟨1,rfl,by decide,by decide⟩
   ·exact⟨2,rfl,by decide,by decide⟩
   ·exact⟨3,rfl,by decide,by decide⟩
   ·exact⟨4,rfl,by decide,by decide⟩
  obtain⟨b,rfl,b0,b1⟩:=hd'
  walk_at "sim"
  exact⟨by omega,lg (by omega),k _ _ (O2 (by decide) (by omega) (by omega) (by omega)) (s1.trans (s2.trans s3))⟩
 ·rw[e12]
  refine⟨Kf,BI (by decide) (by decide),s1.pool,by decide,lg (by decide),fun t M2 t0 t1 s2=>⟨s2.pool,by decide,lg (by decide),fun v M3 v0 v1 s3=>⟨by omega,lg (by omega),k _ _ (O2 (by decide) (by omega) (by omega) (by omega)) (s1.trans (s2.trans s3))⟩⟩⟩
theorem kA(T:Txt K mg)(d:Df K mg "_law_line" U4 ["pool"])(Kq:Fn P w K mg base "_law_low" 1 ["top","bottom"] J3)(Kp:Fn P w K mg base "_law_next" 1 ["pool","base"] N7)(KR:Fn P w K mg base "_law_number" 3 ["pool"] eA):Fn P w K mg base "_law_line" 4 ["pool"] jK:=by
 have sc:=jq
 walk_at "fn"
 obtain⟨p,rfl,hp,k⟩:=h
 refine⟨_,(d7 (jst 1 sc.nd (jc KR hr (a9 (d4 0) d5))) (d7 (jst 2 sc.nd (jc KR hr (a9 (d4 0) d5))) (d7 (h8 (E8 (V5 (jtm G4 (jx (d4 1) d6) d6) (N3 (jtm G4 (jx (d4 2) d6) d6)))) (d8 (jst 1 sc.nd (g8 (a9 (e7 C2 d6 (jc Kp hr (a9 (d4 0) (a9 d6 d5)))) (a9 d6 d5))))) f8) (d8 (e5 (g8 (a9 (d4 1) (a9 (d4 2) (a9 (jc Kq hr (a9 (e7 C2 d6 (jc Kp hr (a9 (d4 0) (a9 d6 d5)))) (a9 (jx (B6 (a9 d6 (a9 d6 (a9 d6 (a9 d6 d5))))) (jc Kp hr (a9 (d4 0) (a9 d6 d5)))) d5))) d5))))))))),?_⟩
 walk_at "sim"
 have lg:∀{b:Int},b.natAbs<2 ^ 41→b.natAbs.log2<9000:=fun{b} hb=>L6 (Nf hb (Nl (by decide) (by decide))) (by decide)
 have fin:∀(a b:Rat) (M1:Mem),sz a≤41→sz b≤41→¬ (a=0∧b=0)→t6 p M M1→B9 M1 p∧(Int.natAbs 12).log2<9000∧∀(r:Int) (M2:Mem),0≤r→r<12→t6 p M1 M2→B9 M2 p∧(Int.natAbs 4).log2<9000∧∀(t:Int) (M3:Mem),0≤t→t<4→t6 p M2 M3→gIx (D.vl [D.int 1,D.int 1,D.int 2,D.int 5]) (D.int t) M3 fun x M1=>J3 [D.int (1+r),x] M1 (fun x M1=>R (D.tup [e8 a,e8 b,x]) M1) Y0:=fun a b M1 ha hb hn s1=>by
  refine⟨s1.pool,by decide,fun r M2 r0 r1 s2=>⟨s2.pool,by decide,fun t M3 t0 t1 s3=>dn t0 (by show t<4;omega) fun d hd=>?_⟩⟩
  have hd':∃ b:Int,d = .int b∧0<b∧b≤5:=by
   simp only[Nh,Nv,or_false]at hd
   rcases hd with rfl|rfl|rfl|rfl
   ·exact⟨1,rfl,by decide,by decide⟩
   ·exact⟨1,rfl,by decide,by decide⟩
   ·exact⟨2,rfl,by decide,by decide⟩
   ·exact⟨5,rfl,by decide,by decide⟩
  obtain⟨c,rfl,c0,c1⟩:=hd'
  walk_at "sim"
  exact⟨by omega,lg (by omega),k (a,b,NM (1+r) c) _ ⟨⟨ha,hb,O2 (by decide) (by omega) (by omega) (by omega)⟩,hn⟩ (yc (by omega) c0) (s1.trans (s2.trans s3))⟩
 refine⟨hp,fun a M1 ha s1=>⟨s1.pool,fun b M2 hb s2=>⟨fun h1=>⟨fun h2=>⟨s2.pool,by decide,fun r M3 r0 r1 s3=>?_⟩,fun h2=>fin a b M2 ha hb (fun z=>h2 (by rw[z.2];rfl)) (s1.trans s2)⟩,fun h1=>fin a b M2 ha hb (fun z=>h1 (by rw[z.1];rfl)) (s1.trans s2)⟩⟩⟩
 have e:D.tup [.int (1+r),.int 1]=e8 ((1+r:Int):Rat):=(aT _).symm
 rw[e]
 exact fin _ b M3 (iW (by decide) (by omega)) hb (fun z=>by have h:=z.1;rw[Qs]at h;omega) (s1.trans (s2.trans s3))
theorem fY(T:Txt K mg)(d:Df K mg "_law_lines" Q9 ["pool","most_lines"])(Kp:Fn P w K mg base "_law_next" 1 ["pool","base"] N7)(Kt:Fn P w K mg base "_law_sum" 2 ["one","other"] T5)(Kr:Fn P w K mg base "_law_taken" 2 ["one","other"] K1)(Kq:Fn P w K mg base "_law_low" 1 ["top","bottom"] J3)(KH:Fn P w K mg base "_law_line" 4 ["pool"] jK):Fn P w K mg base "_law_lines" 5 ["pool","most_lines"] jJ:=by
 have sc:=fN
 walk_at "fn"
 obtain⟨p,nn,rfl,hp,⟨n0,n5⟩,k⟩:=h
 have lg:∀{b:Int},b.natAbs<2 ^ 41→b.natAbs.log2<9000:=fun{b} hb=>L6 (Nf hb (Nl (by decide) (by decide))) (by decide)
 refine⟨_,(d7 (jst 2 sc.nd (kJ d5)) (d7 (v8 PassesOwn.never rfl (ba rfl T.b_range (a9 (jc Kp hr (a9 (d4 0) (a9 (e7 C2 (d4 1) d6) d5))) d5)) (jn 3 sc.nd) (d7 (jst 4 sc.nd (jc KH hr (a9 (d4 0) d5))) (d7 (jst 5 sc.nd (jc Kp hr (a9 (d4 0) (a9 d6 d5)))) (P0 (h8 (E8 (V5 (jtm aW (d4 3) d6) (N3 (jtm cF (d4 5) d6)))) (d7 (jst 6 sc.nd (jx (d4 2) (jc Kp hr (a9 (d4 0) (a9 (d4 3) d5))))) (d7 (jst 7 sc.nd (jx (B6 (a9 (g8 (a9 d6 (a9 d6 d5))) (a9 (jc Kq hr (a9 (e7 G3 (jc Kp hr (a9 (d4 0) (a9 d6 d5))) d6) (a9 (e7 C2 d6 (jc Kp hr (a9 (d4 0) (a9 d6 d5)))) d5))) d5))) (d4 5))) (P0 (h8 (jtm G4 (jx (d4 7) d6) d6) (d8 (jst 7 sc.nd (g8 (a9 d6 (a9 d6 d5))))) f8) (d8 (jst 4 sc.nd (g8 (a9 (jc Kr hr (a9 (d4 7) (a9 (jx (d4 6) d6) d5))) (a9 (jc Kr hr (a9 (d4 7) (a9 (jx (d4 6) d6) d5))) (a9 (jx (B6 (a9 (jx (d4 6) d6) (a9 (jx (d4 4) d6) d5))) (jc Kp hr (a9 (d4 0) (a9 d6 d5)))) d5))))))))) f8) (P0 (h8 (E8 (V5 (jtm aW (d4 3) d6) (N3 (jtm G4 (d4 5) d6)))) (d7 (dm (i:=8) (j:=9) rfl sc.nd rfl rfl (by decide) rfl rfl (a9 (jx (d4 2) (e7 G3 (d4 3) d6)) (a9 (jx (d4 2) (e7 G3 (d4 3) d6)) d5))) (d7 (jst 4 sc.nd (g8 (a9 (jc Kt hr (a9 (jx (d4 8) d6) (a9 (jx (d4 9) d6) d5))) (a9 (jc Kt hr (a9 (jx (d4 8) d6) (a9 (jx (d4 9) d6) d5))) (a9 (jc Kt hr (a9 (jx (d4 8) d6) (a9 (jx (d4 9) d6) d5))) d5))))) (d8 (h8 (E8 (V5 (jtm G4 (jx (jx (d4 4) d6) d6) d6) (N3 (jtm G4 (jx (jx (d4 4) d6) d6) d6)))) (d8 (jst 4 sc.nd (d4 8))) f8)))) f8) (d8 (V2 (nW PySem.F.slot_list_append PySem.F.type_list_append P5 (d4 2) (a9 (d4 4) d5))))))))) (d8 (e5 (fe (fc (d4 2))))))),?_⟩
 walk_at "sim"
 intro l hl
 have hlp:l≠p:=hp.ne hl
 have st0:t6 p M (C1 M l (.lst [])):=t6.mk' hp (MK.new hl)
 refine⟨st0.pool,by omega,lg (by omega),fun t M1 t0 t1 s1=>⟨by omega,?_⟩⟩
 refine T1.by (fun i e M'=>∃(ls:List (Rat × Rat × Rat)) (x3 x4 x5 x6 x7 x8 x9:Option D),e=[some (.ref p),some (.int nn),some (.ref l),x3,x4,x5,x6,x7,x8,x9]∧ls.length=i∧CP i ls∧M' l=some (.lst (ls.map e9))∧t6 p M M')
  ⟨[],_,_,_,_,_,_,_,rfl,rfl,CP.nil,s1.keep l _ hlp g7,st0.trans s1⟩ (fun _ _ _ _ _=>trivial) ?_ ?_
 ·rintro i dd e M2 hd ⟨ls,x3,x4,x5,x6,x7,x8,x9,rfl,hll,hc,hm,st⟩
  obtain⟨hi,rfl⟩:=bG hd
  have ok:=hc.cols.ok (by omega)
  have hlen:(ls.map e9).length=i:=by rw[Nm];exact hll
  rw[Ru]
  walk_at "sim"
  refine⟨st.pool,fun l0 M3 hl0 lp0 s3=>⟨s3.pool,by decide,fun pick M4 p0 p1 s4=>?_⟩⟩
  have st4:=st.trans (s3.trans s4)
  have hm4:=(s3.trans s4).keep l _ hlp hm
  refine bR (fun e' M'=>∃(ln:Rat × Rat × Rat) (x6 x7:Option D),e'=[some (.ref p),some (.int nn),some (.ref l),some (.int (i:Nat)),some (e9 ln),some (.int pick),x6,x7,x8,x9]∧CP (i+1) (ls++[ln])∧M' l=some (.lst (ls.map e9))∧t6 p M M') ?_ ?_
  ·have fin0:∃(ln:Rat × Rat × Rat) (y6 y7:Option D),[some (.ref p),some (.int nn),some (.ref l),some (.int (i:Int)),some (e9 l0),some (.int pick),x6,x7,x8,x9]=[some (.ref p),some (.int nn),some (.ref l),some (.int (i:Int)),some (e9 ln),some (.int pick),y6,y7,x8,x9]∧CP (i+1) (ls++[ln])∧M4 l=some (.lst (ls.map e9))∧t6 p M M4:=⟨l0,_,_,rfl,hc.app (hc.cols.new hl0) lp0,hm4,st4⟩
   walk_at "sim"
   refine⟨fun h0=>⟨fun h1=>⟨st4.pool,by omega,lg (by omega),fun r M5 r0 r1 s5=>?_⟩,fun h1=>fin0⟩,fun h0=>fin0⟩
   have hm5:=s5.keep l _ hlp hm4
   refine fg hm5 r0 (by rw[hlen];exact r1) fun d hd=>?_
   obtain⟨a,ha,rfl⟩:=Nu.mp hd
   refine⟨s5.pool,by decide,fun v M6 v0 v1 s6=>⟨s6.pool,by decide,fun u M7 u0 u1 s7=>⟨by omega,lg (by omega),dn p0 (by show pick<2;exact h1) fun w hw=>?_⟩⟩⟩
   obtain⟨w0,rfl,hw0⟩:∃ w0:Rat,w=e8 w0∧(w0≠0→fo w0):=by
    simp only[Nh,Nv,or_false]at hw
    rcases hw with rfl|rfl
    ·exact⟨1,rfl,fun _=>small_one⟩
    ·exact⟨_,rfl,fun h=>ja (by omega) (by omega) (by omega) h⟩
   have s57:=s5.trans (s6.trans s7)
   have hm7:=s57.keep l _ hlp hm4
   refine bR (fun e' M'=>M'=M7∧∃ w1:Rat,e'=[some (.ref p),some (.int nn),some (.ref l),some (.int (i:Int)),some (e9 l0),some (.int pick),some (e9 a),some (e8 w1),x8,x9]∧fo w1) ?_ ?_
   ·walk_at "sim"
    exact⟨fun _=>⟨1,rfl,small_one⟩,fun z=>⟨w0,rfl,hw0 fun y=>z (by rw[y];rfl)⟩⟩
   ·rintro e' M8 ⟨rfl,w1,rfl,hw1⟩
    have z1:=hw1.sz
    have oa:=ok a ha
    have o1:=oa.p
    have o2:=oa.q
    walk_at "sim"
    refine⟨by omega,by omega,s7.pool,by decide,fun c M9 c0 c1 s9=>?_⟩
    have st9:=st4.trans (s57.trans s9)
    have hm9:=s9.keep l _ hlp hm7
    refine dn c0 (by show c<2;exact c1) fun x hx=>?_
    simp only[Nh,Nv,or_false]at hx
    rcases hx with rfl|rfl
    ·exact⟨(w1*a.1,w1*a.2.1,a.2.2),_,_,rfl,hc.app (hc.cols.taken ha hw1 (.inl rfl)) (hc.pos a ha),hm9,st9⟩
    ·exact⟨(w1*a.1,w1*a.2.1,l0.2.2),_,_,rfl,hc.app (hc.cols.taken ha hw1 (.inr hl0.r)) lp0,hm9,st9⟩
  ·rintro e' M5 ⟨ln,x6,x7,rfl,hc5,hm5,st5⟩
   walk_at "sim"
   refine bR (fun e' M'=>M'=M5∧∃(ln:Rat × Rat × Rat) (y8 y9:Option D),e'=[some (.ref p),some (.int nn),some (.ref l),some (.int (i:Int)),some (e9 ln),some (.int pick),x6,x7,y8,y9]∧CP (i+1) (ls++[ln])) ?_ ?_
   ·walk_at "sim"
    refine⟨fun h0=>⟨fun h1=>?_,fun _=>⟨_,_,_,rfl,hc5⟩⟩,fun _=>⟨_,_,_,rfl,hc5⟩⟩
    refine fg hm5 (by omega) (by rw[hlen];omega) fun d hd=>?_
    obtain⟨a,ha,rfl⟩:=Nu.mp hd
    refine fg hm5 (by omega) (by rw[hlen];omega) fun d hd=>?_
    obtain⟨b,hb,rfl⟩:=Nu.mp hd
    walk_at "sim"
    have oa:=ok a ha
    have ob:=ok b hb
    have o1:=oa.p
    have o2:=oa.q
    have o3:=oa.r
    have o4:=ob.p
    have o5:=ob.q
    have o6:=ob.r
    have go:¬ ((a.1+b.1).num=0∧(a.2.1+b.2.1).num=0)→CP (i+1) (ls++[(a.1+b.1,a.2.1+b.2.1,a.2.2+b.2.2)]):=fun z=>hc.app (hc.cols.sum ha hb fun y=>z ⟨Pl.mpr y.1,Pl.mpr y.2⟩) (show 0<a.2.2+b.2.2 by have:=hc.pos a ha;have:=hc.pos b hb;grind)
    exact⟨by omega,by omega,by omega,fun h2=>⟨fun h3=>⟨_,_,_,rfl,hc.app (hc.cols.again ha) (hc.pos a ha)⟩,fun h3=>⟨_,_,_,rfl,go fun z=>h3 z.2⟩⟩,fun h2=>⟨_,_,_,rfl,go fun z=>h2 z.1⟩⟩
   ·rintro e' M6 ⟨rfl,ln,y8,y9,rfl,hc6⟩
    walk_at "sim"
    refine fq hm5 (fA hm5 (by rw[hlen];omega) ⟨ls++[ln],_,_,_,_,_,_,_,rfl,by simp[hll],hc6,by rw[g7];simp,st5.put hl hlp⟩)
 ·rw[E1]
  rintro e M2 ⟨ls,x3,x4,x5,x6,x7,x8,x9,rfl,hll,hc,hm,st⟩
  walk_at "sim"
  rw[iT hm]
  walk_at "sim"
  exact⟨_,fun _ _ h=>h,k ls _ (by omega) (hc.l24 (by omega)) (st.del hl hlp)⟩
theorem ku(T:Txt K mg)(d:Df K mg "_law_pool" U2 ["cell"]):Fn P w K mg base "_law_pool" 1 ["cell"] oZ:=by
 have sc:=jl
 refine i4 d sc (fun ds M R Y h=>?_) (fun f cdv A outer s H E ds M R Y hr h=>?_)
 ·obtain⟨c,rfl,_⟩:=h;rfl
 ·obtain⟨c,rfl,k⟩:=h
  refine⟨_,(d8 (e5 (kJ (a9 (j3 (Eb rfl) rfl T.b_max yL (a9 d6 (a9 (e7 G3 (d4 0) (e7 rS d6 d6)) d5))) (a9 (e7 S8 (d4 0) (e7 rS d6 d6)) (a9 d6 d5)))))),?_⟩
  refine⟨_,rfl,_,_,rfl,rfl,IU,_,rfl,_,_,rfl,_,rfl,_,_,rfl,rfl,IU,_,_,rfl,rfl,(by show(0:Int)<10 ^ 18;decide),sl 3,fun p hp=>?_⟩
  exact k p _ hp (MK.new hp) ⟨_,_,_,g7⟩
theorem FL{f:Addr}{fd:FuncData}(T:Txt K mg)(d:Cv K "law" wd f fd)(Lm:Fn P w K mg base "_law_cells" 1 ["script","bound"] jR)(LX:Fn P w K mg base "idle" 8 ["lines","k"] jN)(Ln:Fn P w K mg base "idle_right" 5 ["lines","k","told"] pJ)(Lo:Fn P w K mg base "_law_right" 5 ["lines","k","told"] eL)(Lb:Fn P w K mg base "_law_is_told" 3 ["found"] eM)(Kp:Fn P w K mg base "_law_next" 1 ["pool","base"] N7)(KH:Fn P w K mg base "_law_line" 4 ["pool"] jK)(Lp:Fn P w K mg base "_law_lines" 5 ["pool","most_lines"] jJ)(Ly:Fn P w K mg base "_law_pool" 1 ["cell"] oZ):T2 P w K mg base CX0 9 f fd ["script"] (mE K rH):=by
 have sc:=EM
 refine DI d sc (fun ds M R Y h=>by obtain⟨n,rfl,_⟩:=h;rfl) (fun cdv A outer s H E ds M R Y hr h=>?_)
 obtain⟨ns,rfl,hlen,k⟩:=h
 have hu:=hr.units
 refine⟨_,(d7 (v8 PassesOwn.never rfl (p7 (jc Lm hr (a9 (d4 0) (a9 d6 d5)))) (jn 1 sc.nd) (d7 (jst 2 sc.nd (jc Ly hr (a9 (d4 1) d5))) (d7 (jst 3 sc.nd (BR (jc Lp hr (a9 (d4 2) (a9 d6 d5))) (C7 (B6 (a9 (jc KH hr (a9 (d4 2) d5)) d5))))) (P0 (h8 (jtm G4 (jc Kp hr (a9 (d4 2) (a9 d6 d5))) d6) (d7 (jst 4 sc.nd (e7 C2 d6 (jc Kp hr (a9 (d4 2) (a9 d6 d5))))) (d8 (S1 (i:=3) [4] ["k"] ["around"] sc.nd rfl (Or.inl rfl) rfl (by decide +kernel) rfl (by decide +kernel) (by decide +kernel) rfl (bx ⟨rfl,rfl⟩) (bx (Or.inl rfl)) (ba rfl T.b_range (a9 (d4 4) d5)) (fun _ _ _ _ _ _=>(jn 0 (show(["k","around"]:List Str).Nodup by decide +kernel))) (fun _ _ _ _ _ _=>r9) (fun _ _ _ _ _ _=>(g8 (a9 (g8 (a9 (d4 0) (a9 d6 d5))) (a9 (g8 (a9 (e7 G3 (d4 1) (d4 0)) (a9 d6 d5))) (a9 (g8 (a9 (e7 C2 d6 (e7 S8 (d4 0) d6)) (a9 d6 d5))) d5)))))))) f8) (d8 (v8 PassesOwn.never rfl (ba rfl T.b_range (a9 (j3 (Ea rfl) rfl T.b_min yK (a9 d6 (a9 (j3 N4 rfl T.b_len F9 (a9 (d4 3) d5)) d5))) d5)) (jn 5 sc.nd) (d7 (jst 6 sc.nd (nX rfl T.b_list lh (a9 (d4 3) d5))) (d7 (jst 7 sc.nd (jc LX hr (a9 (d4 6) (a9 (d4 5) d5)))) (d7 (h8 (jtm (rV hu) (d4 6) (d4 3)) (d8 (e5 E4)) f8) (d7 (h8 (E8 (J9 (E7 (u7 (jc Lb hr (a9 (d4 7) d5)))) (J7 (E7 (u7 (jc Lo hr (a9 (d4 3) (a9 (d4 5) (a9 (d4 7) d5))))))))) (d8 (e5 E4)) f8) (d7 (h8 (jtm kD (jc Ln hr (a9 (d4 3) (a9 (d4 5) (a9 (d4 7) d5)))) E4) (d8 (e5 E4)) f8) (d7 (jst 8 sc.nd (g8 (a9 (jx (d4 7) d6) (a9 (kK yI rfl T.b_tuple L7 (a9 (jx (d4 7) d6) d5)) d5)))) (P0 (h8 (jtm Y4 (jx (d4 7) d6) B5) (d8 (V2 (nW PySem.F.slot_list_append PySem.F.type_list_append P5 (jx (d4 7) d6) (a9 V4 d5)))) f8) (d7 (jst 9 sc.nd (jc LX hr (a9 (kK Gr rfl T.b_tuple L7 (a9 (d4 3) d5)) (a9 (d4 5) d5)))) (d8 (h8 (jtm (rV hu) (g8 (a9 (jx (d4 9) d6) (a9 (kK yI rfl T.b_tuple L7 (a9 (jx (d4 9) d6) d5)) d5))) (d4 8)) (d8 (e5 E4)) f8)))))))))))))))) (d8 (e5 E4))),?_⟩
 walk_at "sim"
 refine⟨ns,3,rfl,⟨by decide,by decide⟩,rfl,by omega,fun ms hml=>?_⟩
 refine T1.by (fun i e M'=>∃ x1 x2 x3 x4 x5 x6 x7 x8 x9:Option D,e=[some (.vl (ns.map D.int)),x1,x2,x3,x4,x5,x6,x7,x8,x9]) ⟨_,_,_,_,_,_,_,_,_,rfl⟩ (fun i e M' _ _=>by simp only[t7]) ?_ ?_
 ·rintro i dd e M' hd ⟨x1,x2,x3,x4,x5,x6,x7,x8,x9,rfl⟩
  obtain⟨n,rfl⟩:∃ n:Int,dd = .int n:=by
   have hm:=Nq hd
   obtain⟨n,_,rfl⟩:=Nu.mp hm
   exact⟨n,rfl⟩
  simp only[DL.iR,DL.Ex]
  refine Ei fun P1 hP1=>?_
  walk_at "sim"
  refine fun p M1 hp mk hP=>hP1 _ _ ?_
  clear hP1 P1
  refine Ei fun P2 hP2=>?_
  walk_at "sim"
  refine⟨hP,fun ls0 M2 hl4 hlo s2=>⟨_,rfl,?_⟩⟩
  suffices key:∀(ls:List T3) (M3:Mem),bz ls→t6 p M1 M3→P2 [some (D.vl (Ol D.int ns)),some (D.int n),some (D.ref p),some (D.vl (Ol e9 ls)),x4,x5,x6,x7,x8,x9] M3 by
   cases ls0 with
   | nil=>exact⟨s2.pool,fun l M3 hl h0 s3=>key [l] M3 ⟨by show 1≤12;decide,FK hl h0⟩ (s2.trans s3)⟩
   | cons l0 r=>exact key (l0 :: r) M2 ⟨by omega,hlo⟩ s2
  intro lsx M3 hlsx s3
  refine hP2 _ _ ?_
  clear hP2 P2
  walk_at "sim"
  refine bR (fun e' M'=>∃(ls:List T3) (y4:Option D),e'=[some (D.vl (Ol D.int ns)),some (D.int n),some (D.ref p),some (D.vl (Ol e9 ls)),y4,x5,x6,x7,x8,x9]∧bz ls∧B9 M' p) ?_ ?_
  ·walk_at "sim"
   refine⟨s3.pool,by decide,fun r M4 r0 r8 s4=>⟨fun _=>⟨s4.pool,by decide,fun w M5 w0 w7 s5=>⟨⟨by omega,by omega⟩,?_⟩⟩,fun _=>⟨lsx,_,rfl,hlsx,s4.pool⟩⟩⟩
   obtain⟨N,hN⟩:∃ N:Nat,6+w=(N:Int):=⟨(6+w).toNat,by omega⟩
   rw[hN,NI]
   refine t5 (xs:=OC N) (enc:=fun k:Nat=>D.int (0+(k:Int))) (fun k=>e9 (AO N k)) (by rw[Rl];omega) trivial (fun k hk Q hQ=>?_) ?_
   ·walk_at "sim"
    have e:e9 (AO N k)=D.tup [D.tup [.int (k:Int),.int 1],D.tup [.int ((N:Int) - (k:Int)),.int 1],D.tup [.int (1+(k:Int) % 2),.int 1]]:=by
     show D.tup [e8 (((k:Int):Rat)),e8 ((((N:Int) - (k:Int):Int):Rat)),e8 (((1+(k:Int) % 2:Int):Rat))]=_
     rw[aT,aT,aT]
    rw[e]at hQ
    rw[Ru]
    exact hQ
   ·exact⟨(OC N).map (AO N),_,by rw[Of];rfl,EZ (by omega) (by omega),s5.pool⟩
  ·rintro e' M4 ⟨ls,y4,rfl,hls,hP4⟩
   have h12:=hls.1
   have lcl:clL 59 (Ol e9 ls)=true:=kR (k:=59) fun d hd=>by
    obtain⟨z,_,rfl⟩:=Nu.mp hd
    rfl
   walk_at "sim"
   rw[Nm]
   refine⟨⟨by omega,by omega⟩,?_⟩
   refine T1.by (fun i e M'=>∃(z5 z6 z7 z8 z9:Option D),e=[some (D.vl (Ol D.int ns)),some (D.int n),some (D.ref p),some (D.vl (Ol e9 ls)),y4,z5,z6,z7,z8,z9]) ⟨_,_,_,_,_,rfl⟩ (fun _ _ _ _ _=>trivial) ?_ ?_
   ·rintro j dj e M5 hj ⟨z5,z6,z7,z8,z9,rfl⟩
    obtain⟨hj2,rfl⟩:=bG hj
    rw[Ru]
    have hk:ls[j]? = some (ls[j]'(by omega)):=NB (by omega)
    generalize ls[j]'(by omega)=l at hk
    have ok:=BZ hls.a.lo hk
    have isk:=(BY hls hk).up.up
    walk_at "sim"
    refine⟨hls.a,l,hk,?_⟩
    generalize em:ff ls j l=m0 at *
    cases m0 with
    | needed z =>
     have td:lD M5 (D.tup [D.str "needed",A5 z.1 z.2]) (.needed z):=rfl
     refine⟨lcl,lcl,.needed z,.inl ⟨z,rfl,rfl⟩,.needed z,l,td,hls,hk,isk,fun c=>(by rw[ok]at c;cases c),fun _=>⟨.needed z,l,td,hls.a,hk,isk,?_⟩⟩
     rw[ok,mz (b:=true) rfl]
     walk_at "sim"
     refine bR (fun e' M'=>∃(y9:Option D),e'=[some (D.vl (Ol D.int ns)),some (D.int n),some (D.ref p),some (D.vl (Ol e9 ls)),y4,some (D.int (j:Int)),some (D.vl (Ol e9 ls)),some (D.tup [D.str "needed",A5 z.1 z.2]),some (D.tup [D.str "needed",D.tup [e8 z.1,e8 z.2]]),y9]) ?_ ?_
     ·walk_at "sim"
      exact⟨fun c=>absurd c (by decide),fun _=>⟨_,rfl⟩⟩
     ·rintro e' M6 ⟨y9,rfl⟩
      walk_at "sim"
      refine⟨hls.a,l,hk,?_⟩
      rw[em]
      refine⟨_,rfl,_,rfl,?_⟩
      show sE [D.tup [e8 z.1,e8 z.2]] M6 _
      rw[iS]
      exact⟨by rw[show cl 59 (D.str "needed")=true by decide +kernel];rfl,by decide +kernel,fun c=>absurd rfl c,fun _=>⟨_,_,_,_,_,rfl⟩⟩
    | idle sh =>
     intro a hla
     have td:lD (C1 M5 a (.lst (sh.map shD))) (D.tup [D.str "idle",.ref a]) (.idle sh):=⟨_,rfl,.inr (.inl ⟨a,rfl,g7⟩)⟩
     obtain⟨z20,_⟩:=isk.idle sh rfl
     refine⟨lcl,lcl,.idle sh,.inr ⟨sh,a,rfl,rfl,g7,by omega⟩,.idle sh,l,td,hls,hk,isk,fun c=>(by rw[ok]at c;cases c),fun _=>⟨.idle sh,l,td,hls.a,hk,isk,?_⟩⟩
     rw[ok,mz (b:=true) rfl]
     walk_at "sim"
     refine⟨_,sh.map shD,rfl,.inr (.inl ⟨a,rfl,g7⟩),?_⟩
     refine bR (fun e' M'=>∃(y9:Option D),e'=[some (D.vl (Ol D.int ns)),some (D.int n),some (D.ref p),some (D.vl (Ol e9 ls)),y4,some (D.int (j:Int)),some (D.vl (Ol e9 ls)),some (D.tup [D.str "idle",.ref a]),some (D.tup [D.str "idle",D.tup (sh.map shD)]),y9]) ?_ ?_
     ·walk_at "sim"
      exact fq g7 (fA g7 (by rw[Nm];omega) ⟨_,rfl⟩)
     ·rintro e' M6 ⟨y9,rfl⟩
      walk_at "sim"
      refine⟨hls.a,l,hk,?_⟩
      rw[em]
      intro a2 ha2
      have scl:clL 58 (Ol shD sh)=true:=kR (k:=58) fun d hd=>by
       obtain⟨s,_,rfl⟩:=Nu.mp hd
       rfl
      have c3:(cl 59 (D.str "idle") && clL 58 (Ol shD sh))=true:=by rw[scl,show cl 59 (D.str "idle")=true by decide +kernel];rfl
      exact⟨_,rfl,_,rfl,_,sh.map shD,rfl,.inr (.inl ⟨a2,rfl,g7⟩),c3,c3,fun c=>absurd rfl c,fun _=>⟨_,_,_,_,_,rfl⟩⟩
   ·rintro e M5 ⟨z5,z6,z7,z8,z9,rfl⟩
    exact⟨_,_,_,_,_,_,_,_,_,rfl⟩
 ·rintro e M' ⟨x1,x2,x3,x4,x5,x6,x7,x8,x9,rfl⟩
  walk_at "sim"
  exact k _
end
end K26
namespace K26
open PySem PySem.Spec L2 DL GM
theorem Gz{P:Program}{w:World}{K:Nd}{mg:Str→Option Value}{fa:Addr}(T:Txt K mg)(hfa:mg "law" = some (.ref fa))(LY:Df K mg "_law_cells" R0 ["script","bound"])(MI:Df K mg "less" jw ["one","other"])(MG:Df K mg "divisor" bF ["one","other"])(Mw:Df K mg "is_whole" Z7 ["thing"])(MM:Df K mg "ratio" ju ["top","bottom"])(MN:Df K mg "times" jt ["one","other"])(MP:Df K mg "grown" jy ["ray","share"])(MT:Df K mg "over" pq ["one","other"])(Mi:Df K mg "sum_by" az ["p","q","ray"])(Mx:Df K mg "value_of" Z3 ["p","q","ray"])(MU:Df K mg "plus" pk ["one","other"])(My:Df K mg "veer" eG ["one","other"])(MJ:Df K mg "met_at" eI ["one","other"])(ML:Df K mg "facing" eJ ["side"])(LL:Df K mg "sides_around" K8 ["half","wanted"])(LI:Df K mg "tops_over" M0 ["ratios","bottom"])(Lq:Df K mg "common_bottom" E5 ["ratios"])(LO:Df K mg "most_around" N9 ["half","p","q"])(Mz:Df K mg "unsigned" Z4 ["one"])(MA:Df K mg "opposite" Z6 ["one"])(MQ:Df K mg "minus" jv ["one","other"])(MR:Df K mg "cross" jz ["one","other"])(LZ:Df K mg "most_along" Q3 ["lines","number","p","q"])(MV:Df K mg "turn" ph ["one","other","third"])(Mj:Df K mg "next_side" T9 ["sides","here"])(Mk:Df K mg "juts_more" U0 ["one","other"])(Ml:Df K mg "outermost" T7 ["sides"])(MB:Df K mg "sides_of" Z5 ["lines"])(MC:Df K mg "half_rim" Z8 ["lines"])(MW:Df K mg "most" pz ["lines","p","q"])(Mm:Df K mg "others_of" T8 ["lines","k"])(MX:Df K mg "idle" pB ["lines","k"])(MH:Df K mg "lets_by" bE ["line","ray"])(MY:Df K mg "lets" pA ["lines","ray"])(MZ:Df K mg "same" pj ["one","other"])(MS:Df K mg "added" jA ["lines","shares"])(Ma:Df K mg "are_shares" Q5 ["lines","shares"])(MD:Df K mg "bound_by" Z9 ["lines","shares","p","q"])(LM:Df K mg "shares_right" K9 ["lines","k","shares"])(Mb:Df K mg "idle_right" Q4 ["lines","k","told"])(Mc:Df K mg "_law_below" R1 ["one","other"])(ME:Df K mg "_law_low" ae ["top","bottom"])(MF:Df K mg "_law_sum" aa ["one","other"])(Md:Df K mg "_law_taken" Q7 ["one","other"])(Mn:Df K mg "_law_bare" U6 ["one"])(Me:Df K mg "_law_added" R3 ["lines","shares"])(LD:Df K mg "_law_are_shares" F4 ["lines","shares"])(Mf:Df K mg "_law_worth" Q6 ["p","q","ray"])(Mo:Df K mg "_law_lets" U5 ["lines","ray"])(Mg:Df K mg "_law_right" Q8 ["lines","k","told"])(LJ:Df K mg "_law_is_ratio" J6 ["found"])(LH:Df K mg "_law_is_shares" G6 ["found"])(LP:Df K mg "_law_is_ray" O1 ["found"])(LN:Df K mg "_law_is_told" L0 ["found"])(Mp:Df K mg "_law_next" U3 ["pool","base"])(Mq:Df K mg "_law_wide" U1 ["pool","base"])(LQ:Df K mg "_law_number" O0 ["pool"])(Mr:Df K mg "_law_line" U4 ["pool"])(Mh:Df K mg "_law_lines" Q9 ["pool","most_lines"])(Ms:Df K mg "_law_pool" U2 ["cell"])(Na:DfL K mg "law" wd ["script"]) :
  ∃ fd:FuncData,(∀(s:Shared) (u:Value),BindsTo s fd ⟨[u],[]⟩ [("script",u)])∧∀ base:Heap,T2 P w K mg base CX0 9 fa fd ["script"] (mE K rH):=by
 obtain⟨f,fd,F,hm,hb⟩:=Na.ex
 have e:f=fa:=by rw[hm]at hfa;injection hfa with z;injection z
 subst e
 refine⟨fd,fun s u=>.of_eq (hb [u] rfl),fun base=>?_⟩
 have Lm:=fZ (P:=P) (w:=w) (base:=base) T LY
 have Mu:=Bz (P:=P) (w:=w) (base:=base) T MI
 have Kz:=pT (P:=P) (w:=w) (base:=base) T MG
 have Li:=nJ (P:=P) (w:=w) (base:=base) T Mw
 have Ks:=xf (P:=P) (w:=w) (base:=base) T MM Li Kz
 have KI:=xc (P:=P) (w:=w) (base:=base) T MN Ks
 have Lz:=xh (P:=P) (w:=w) (base:=base) T MP KI
 have Lr:=Bw (P:=P) (w:=w) (base:=base) T MT Ks
 have Lg:=tR (P:=P) (w:=w) (base:=base) T Mi
 have KN:=nE (P:=P) (w:=w) (base:=base) T Mx Ks Lg
 have LF:=Bv (P:=P) (w:=w) (base:=base) T MU Ks
 have Kw:=Bs (P:=P) (w:=w) (base:=base) T My
 have LK:=tS (P:=P) (w:=w) (base:=base) T MJ Ks Kw
 have KY:=pQ (P:=P) (w:=w) (base:=base) T My
 have KW:=pP (P:=P) (w:=w) (base:=base) T My
 have Lh:=tT (P:=P) (w:=w) (base:=base) T ML
 have KZ:=cC (P:=P) (w:=w) (base:=base) T LL KW KY Lh
 have La:=cB (P:=P) (w:=w) (base:=base) T LI
 have KA:=Y1 (P:=P) (w:=w) (base:=base) T Lq Kz
 have Le:=eO (P:=P) (w:=w) (base:=base) T LO LK Ks Kw KY KW KZ La KA
 have KO:=nF (P:=P) (w:=w) (base:=base) T Mz
 have KC:=nI (P:=P) (w:=w) (base:=base) T MA
 have LR:=xg (P:=P) (w:=w) (base:=base) T MQ LF KC
 have LS:=xi (P:=P) (w:=w) (base:=base) T MR LR KI
 have Lj:=fR (P:=P) (w:=w) (base:=base) T LZ Lz Lr KN KI KO KC LS
 have Mt:=Bt (P:=P) (w:=w) (base:=base) T MV Kw
 have Lc:=km (P:=P) (w:=w) (base:=base) T Mj Kw Mt
 have Ls:=ko (P:=P) (w:=w) (base:=base) T Mk
 have Lv:=kj (P:=P) (w:=w) (base:=base) T Ml Ls
 have Lu:=kg (P:=P) (w:=w) (base:=base) T LI
 have KS:=bJ (P:=P) (w:=w) (base:=base) T Lq Kz
 have LA:=nG (P:=P) (w:=w) (base:=base) T MB Lh Lu KS
 have LB:=nK (P:=P) (w:=w) (base:=base) T MC Kw Lc Lv LA
 have Mv:=Bx (P:=P) (w:=w) (base:=base) T MW Le Lj LB
 have Ky:=kl (P:=P) (w:=w) (base:=base) T Mm
 have LX:=BA (P:=P) (w:=w) (base:=base) T MX Mu Lz Lr KN LF Mv Ky
 have KP:=pR (P:=P) (w:=w) (base:=base) T MH Lg
 have LW:=By (P:=P) (w:=w) (base:=base) T MY KP
 have LG:=pS (P:=P) (w:=w) (base:=base) T MI
 have LU:=Bu (P:=P) (w:=w) (base:=base) T MZ
 have Lw:=ki (P:=P) (w:=w) (base:=base) T Mi
 have LV:=xj (P:=P) (w:=w) (base:=base) T MS Lw KO
 have Lk:=fU (P:=P) (w:=w) (base:=base) T Ma
 have LC:=nM (P:=P) (w:=w) (base:=base) T MD LU LV Lk
 have KJ:=cD (P:=P) (w:=w) (base:=base) T LM LG LC
 have Ln:=fT (P:=P) (w:=w) (base:=base) T Mb KP LW Ky KJ
 have Kv:=gc (P:=P) (w:=w) (base:=base) T Mc
 have Kq:=nO (P:=P) (w:=w) (base:=base) T ME
 have Kt:=nN (P:=P) (w:=w) (base:=base) T MF Kq
 have Kr:=fW (P:=P) (w:=w) (base:=base) T Md Kq
 have KD:=kC (P:=P) (w:=w) (base:=base) T Mn
 have KU:=gg (P:=P) (w:=w) (base:=base) T Me Kt Kr KD
 have Kx:=af (P:=P) (w:=w) (base:=base) T LD
 have Ll:=fV (P:=P) (w:=w) (base:=base) T Mf Kt Kr
 have KG:=kB (P:=P) (w:=w) (base:=base) T Mo Kv KD Ll
 have Lo:=fX (P:=P) (w:=w) (base:=base) T Mg Kv KU Kx KG
 have Ku:=bK (P:=P) (w:=w) (base:=base) T LJ
 have KQ:=aV (P:=P) (w:=w) (base:=base) T LH Ku
 have Lf:=eQ (P:=P) (w:=w) (base:=base) T LP Ku
 have Lb:=cE (P:=P) (w:=w) (base:=base) T LN KQ Lf
 have Kp:=kv (P:=P) (w:=w) (base:=base) T Mp
 have Ld:=kr (P:=P) (w:=w) (base:=base) T Mq Kp
 have KR:=eP (P:=P) (w:=w) (base:=base) T LQ Kq Ld Kp
 have KH:=kA (P:=P) (w:=w) (base:=base) T Mr Kq Kp KR
 have Lp:=fY (P:=P) (w:=w) (base:=base) T Mh Kp Kt Kr Kq KH
 have Ly:=ku (P:=P) (w:=w) (base:=base) T Ms
 exact FL T F Lm LX Ln Lo Lb Kp KH Lp Ly
theorem oP{l:PySem.W.OpenLaw}{q:Program}{loose:List Str}{XP:(Str→Option Value)→Heap→Prop}{YP:World→Heap→Prop}{d:DefRec}{K:Params→Nd}(hn:l.most=some 63)(hdf:d.params.defaults=[])
  (hY:∀(w:World) (h:Heap),YP w h→(K w.params).In h)
  (F:∀(w:World) (mg:Str→Option Value) (fa:Addr) (h:Heap),(K w.params).In h→h.Ns mainGlobals mg→mg d.name=some (.ref fa) →
   ∃ fd:FuncData,(∀(s:Shared) (u:Value),BindsTo s fd ⟨[u],[]⟩ [("script",u)])∧∀ base:Heap,T2 l.prog w (K w.params) mg base CX0 9 fa fd ["script"] (mE (K w.params) rH)) :
  PySem.W.WalkO q loose XP YP l.row.toRowW d [] (fun f vs=>PySem.call f vs) :=
 L2.vC (n:=63) (k:=9) (x := "script") (CX:=CX0) (sp:=fun K=>mE K rH) hn (by decide) hdf ⟨rfl,by decide,by decide⟩ hY (fun w mg fa h a b c=>let ⟨fd,h1,h2⟩:=F w mg fa h a b c;⟨fd,h1,fun base _ _=>h2 base⟩)
  (fun K H a ns hl hO hS=>FT hO hS ⟨ns,rfl,hl,fun _=>rfl⟩) fun _ _ _ _ z=>z
end K26
namespace PySem.W.Fast
theorem te14857975129053379144:True:=trivial
theorem tw6082112439043759577:True:=⟨⟩
theorem tw12328859272565660471:True:=⟨⟩
theorem tw2428357049181953286:True:=⟨⟩
theorem tw13347694169786420217:True:=⟨⟩
theorem tw226859180242966413:True:=⟨⟩
theorem tw15553492173181925013:True:=⟨⟩
theorem tw6384713055797444438:True:=⟨⟩
theorem tw14935150354584030724:True:=⟨⟩
theorem tw5881553569673888602:True:=⟨⟩
theorem tw11377813988608858442:True:=⟨⟩
theorem tw3019536705949475785:True:=⟨⟩
theorem tw16499921048433512190:True:=⟨⟩
theorem tw8944438358538293522:True:=⟨⟩
theorem tw9718461364736465910:True:=⟨⟩
theorem tw11090200968599489703:True:=⟨⟩
theorem tw13358138239790527655:True:=⟨⟩
theorem tw7988698651359736314:True:=⟨⟩
theorem tw9070573260797203394:True:=⟨⟩
theorem tw5643091835252146484:True:=⟨⟩
theorem tw5132377685035566213:True:=⟨⟩
theorem tw10206820158589799272:True:=⟨⟩
theorem tw18136276395632619645:True:=⟨⟩
theorem tw9310818524201911256:True:=⟨⟩
theorem tw12736870244300702001:True:=⟨⟩
theorem tw13114998222295575903:True:=⟨⟩
theorem tw1877425145812749539:True:=⟨⟩
theorem tw6262491583482049992:True:=⟨⟩
theorem tw12765515263628061312:True:=⟨⟩
theorem tw1944471623696901950:True:=⟨⟩
theorem tw3764801607606502599:True:=⟨⟩
theorem tw5208026836137347454:True:=⟨⟩
theorem tw6747583433904356057:True:=⟨⟩
theorem tw16635630072360061553:True:=⟨⟩
theorem tw9369775249906098104:True:=⟨⟩
theorem tw14699817080183243395:True:=⟨⟩
theorem tw15392174791678421074:True:=⟨⟩
theorem tw16932935688751877789:True:=⟨⟩
theorem tw15154253812684062449:True:=⟨⟩
theorem tw9979509089217442:True:=⟨⟩
theorem tw196156502550523885:True:=⟨⟩
theorem tw1363975543284259053:True:=⟨⟩
theorem tw2468359954621636409:True:=⟨⟩
theorem tw6648084820061610203:True:=⟨⟩
theorem tw6773113198343573112:True:=⟨⟩
theorem tw16215313024792920771:True:=⟨⟩
theorem tw2902221576152896936:True:=⟨⟩
theorem tw4584516026818443691:True:=⟨⟩
theorem tw10016688593663960823:True:=⟨⟩
theorem tw13112843215879101996:True:=⟨⟩
theorem tw2457233255126123601:True:=⟨⟩
theorem tw7308965720859561841:True:=⟨⟩
theorem tw8613963253871704213:True:=⟨⟩
theorem tw8837900505770244459:True:=⟨⟩
theorem tw12045348741809280975:True:=⟨⟩
theorem tw13851659503247171037:True:=⟨⟩
theorem tw10571258313384114667:True:=⟨⟩
theorem tw15920669945051976429:True:=⟨⟩
theorem tw16245374152048892048:True:=⟨⟩
theorem tw7368413318391318338:True:=⟨⟩
theorem tw11871396356228442766:True:=⟨⟩
theorem tw17956356484020134461:True:=⟨⟩
theorem tw3278032700036019133:True:=⟨⟩
theorem tw13984308211672957184:True:=⟨⟩
theorem tw8140304875785985784:True:=⟨⟩
theorem tw13579645855946114844:True:=⟨⟩
theorem tw15489444824980819403:True:=⟨⟩
theorem tw15002835837100489297:True:=⟨⟩
theorem tw10144179326490134378:True:=⟨⟩
theorem tw14537563143148202964:True:=⟨⟩
theorem tw16118693296992844962:True:=⟨⟩
theorem tw4310081180669042179:True:=⟨⟩
theorem tw14543317281350700421:True:=⟨⟩
theorem tw12519129652719355253:True:=⟨⟩
theorem tw9340319841591752358:True:=⟨⟩
theorem tw12482513596341470844:True:=⟨⟩
theorem tw1484089847173789329:True:=⟨⟩
theorem tw12901643030620079484:True:=⟨⟩
theorem tw8493036936381840405:True:=⟨⟩
theorem tw7026651150197250035:True:=⟨⟩
theorem tw1130094130229722892:True:=⟨⟩
theorem tw5871112801042851335:True:=⟨⟩
theorem tw12746605872924367224:True:=⟨⟩
theorem tw16624554222928763428:True:=⟨⟩
theorem tw9311728488302939359:True:=⟨⟩
theorem tw4588768902067007095:True:=⟨⟩
theorem tw4786863946647582726:True:=⟨⟩
theorem tw2643570472488004701:True:=⟨⟩
theorem tw18190444137133625466:True:=⟨⟩
theorem tw7637601650980522557:True:=⟨⟩
theorem tw2360996661180702791:True:=⟨⟩
theorem tw5012359443802268155:True:=⟨⟩
theorem tw7467807779109629807:True:=⟨⟩
theorem tw11872554721755091633:True:=⟨⟩
theorem tw9049236907077956583:True:=⟨⟩
theorem tw4856876023691817857:True:=⟨⟩
theorem tw843300041964009924:True:=⟨⟩
theorem tw578406374550455142:True:=⟨⟩
theorem tw10424831429333645036:True:=⟨⟩
theorem tw17994982822539240148:True:=⟨⟩
theorem tw17029672523639678297:True:=⟨⟩
theorem tw9451405470290537324:True:=⟨⟩
theorem tw9399495663123424967:True:=⟨⟩
theorem tw13610166778090366083:True:=⟨⟩
theorem tw3403447058741618109:True:=⟨⟩
theorem tw3540494705040824470:True:=⟨⟩
theorem tw14527293075715752619:True:=⟨⟩
theorem tw12530376797359685399:True:=⟨⟩
theorem tw834235270238890894:True:=⟨⟩
theorem tw14231022847734995957:True:=⟨⟩
theorem tw14388070668132218341:True:=⟨⟩
theorem tw16949873580015334370:True:=⟨⟩
theorem tw11640231416446615909:True:=⟨⟩
theorem tw3325976969734208664:True:=⟨⟩
theorem tw17796131165862854458:True:=⟨⟩
theorem tw7412930741475130253:True:=⟨⟩
theorem tw2703408576885344306:True:=⟨⟩
theorem tw1403419457903377018:True:=⟨⟩
theorem tw2041306337216150913:True:=⟨⟩
theorem tw5215297670179184384:True:=⟨⟩
theorem tw14604745387850859773:True:=⟨⟩
theorem tw182720811787423021:True:=⟨⟩
theorem tw10699176385467215539:True:=⟨⟩
theorem tw14215348125990422992:True:=⟨⟩
theorem tw10471782193488113755:True:=⟨⟩
theorem tw3126547587443530397:True:=⟨⟩
theorem tw7790290236856894187:True:=⟨⟩
theorem tw4631860899406181226:True:=⟨⟩
theorem tw9348538422669850142:True:=⟨⟩
theorem tw2740950324536337659:True:=⟨⟩
theorem tw17071961404528392945:True:=⟨⟩
theorem tw9815663040964547046:True:=⟨⟩
theorem tw14762547298752437409:True:=⟨⟩
theorem tw11817793599685694577:True:=⟨⟩
theorem tw9670028116353623503:True:=⟨⟩
theorem tw15199144264363067499:True:=⟨⟩
theorem tw7467159414667448501:True:=⟨⟩
end PySem.W.Fast
open PySem PySem.W PyProof.Rows
set_option maxRecDepth 100000 in
set_option maxHeartbeats 0 in
theorem PySem.Challenge.cw_roundglass_k26_idle_told_holds : PySem.Challenge.rw_roundglass_k26_idle_told.Holds := by
 w_on;o_law;k_head;(case hw=>w_witness2)
 k_fill
 refine K26.oP (l:=PySem.Challenge.rw_roundglass_k26_idle_told) rfl rfl (fun w h Y=>PySem.W.kIn_of Y) ?F
 case F =>
  intro w mg fa h KX G hmg
  refine' K26.Gz ⟨PySem.W.mg_none_of KX G ?z_abs,PySem.W.mg_none_of KX G ?z_all,PySem.W.mg_none_of KX G ?z_any,PySem.W.mg_none_of KX G ?z_bool,PySem.W.mg_none_of KX G ?z_enumerate,PySem.W.mg_none_of KX G ?z_int,PySem.W.mg_none_of KX G ?z_isinstance,PySem.W.mg_none_of KX G ?z_len,PySem.W.mg_none_of KX G ?z_list,PySem.W.mg_none_of KX G ?z_max,PySem.W.mg_none_of KX G ?z_min,PySem.W.mg_none_of KX G ?z_range,PySem.W.mg_none_of KX G ?z_set,PySem.W.mg_none_of KX G ?z_sorted,PySem.W.mg_none_of KX G ?z_tuple,PySem.W.mg_none_of KX G ?z_zip,DL.HF _,DL.Ga KX G ?c0_MOST_SHARES,DL.sC KX G ?c0_NOUGHT ?c1_NOUGHT,DL.sC KX G ?c0_ONE ?c1_ONE⟩ hmg (DL.i7 KX G ?n0 ?l0 ?c0 ?k0 ?b0) (DL.i7 KX G ?n1 ?l1 ?c1 ?k1 ?b1) (DL.i7 KX G ?n2 ?l2 ?c2 ?k2 ?b2) (DL.i7 KX G ?n3 ?l3 ?c3 ?k3 ?b3) (DL.Gh KX G ?n4 ?l4 ?c4 ?k4 ?b4) (DL.i7 KX G ?n5 ?l5 ?c5 ?k5 ?b5) (DL.i7 KX G ?n6 ?l6 ?c6 ?k6 ?b6) (DL.i7 KX G ?n7 ?l7 ?c7 ?k7 ?b7) (DL.i7 KX G ?n8 ?l8 ?c8 ?k8 ?b8) (DL.i7 KX G ?n9 ?l9 ?c9 ?k9 ?b9) (DL.i7 KX G ?n10 ?l10 ?c10 ?k10 ?b10) (DL.i7 KX G ?n11 ?l11 ?c11 ?k11 ?b11) (DL.i7 KX G ?n12 ?l12 ?c12 ?k12 ?b12) (DL.i7 KX G ?n13 ?l13 ?c13 ?k13 ?b13) (DL.i7 KX G ?n14 ?l14 ?c14 ?k14 ?b14) (DL.i7 KX G ?n15 ?l15 ?c15 ?k15 ?b15) (DL.i7 KX G ?n16 ?l16 ?c16 ?k16 ?b16) (DL.i7 KX G ?n17 ?l17 ?c17 ?k17 ?b17) (DL.i7 KX G ?n18 ?l18 ?c18 ?k18 ?b18) (DL.i7 KX G ?n19 ?l19 ?c19 ?k19 ?b19) (DL.i7 KX G ?n20 ?l20 ?c20 ?k20 ?b20) (DL.i7 KX G ?n21 ?l21 ?c21 ?k21 ?b21) (DL.i7 KX G ?n22 ?l22 ?c22 ?k22 ?b22) (DL.i7 KX G ?n23 ?l23 ?c23 ?k23 ?b23) (DL.i7 KX G ?n24 ?l24 ?c24 ?k24 ?b24) (DL.i7 KX G ?n25 ?l25 ?c25 ?k25 ?b25) (DL.i7 KX G ?n26 ?l26 ?c26 ?k26 ?b26) (DL.i7 KX G ?n27 ?l27 ?c27 ?k27 ?b27) (DL.i7 KX G ?n28 ?l28 ?c28 ?k28 ?b28) (DL.i7 KX G ?n29 ?l29 ?c29 ?k29 ?b29) (DL.i7 KX G ?n30 ?l30 ?c30 ?k30 ?b30) (DL.i7 KX G ?n31 ?l31 ?c31 ?k31 ?b31) (DL.i7 KX G ?n32 ?l32 ?c32 ?k32 ?b32) (DL.i7 KX G ?n33 ?l33 ?c33 ?k33 ?b33) (DL.i7 KX G ?n34 ?l34 ?c34 ?k34 ?b34) (DL.i7 KX G ?n35 ?l35 ?c35 ?k35 ?b35) (DL.i7 KX G ?n36 ?l36 ?c36 ?k36 ?b36) (DL.i7 KX G ?n37 ?l37 ?c37 ?k37 ?b37) (DL.i7 KX G ?n38 ?l38 ?c38 ?k38 ?b38) (DL.i7 KX G ?n39 ?l39 ?c39 ?k39 ?b39) (DL.i7 KX G ?n40 ?l40 ?c40 ?k40 ?b40) (DL.i7 KX G ?n41 ?l41 ?c41 ?k41 ?b41) (DL.i7 KX G ?n42 ?l42 ?c42 ?k42 ?b42) (DL.i7 KX G ?n43 ?l43 ?c43 ?k43 ?b43) (DL.i7 KX G ?n44 ?l44 ?c44 ?k44 ?b44) (DL.i7 KX G ?n45 ?l45 ?c45 ?k45 ?b45) (DL.i7 KX G ?n46 ?l46 ?c46 ?k46 ?b46) (DL.i7 KX G ?n47 ?l47 ?c47 ?k47 ?b47) (DL.i7 KX G ?n48 ?l48 ?c48 ?k48 ?b48) (DL.i7 KX G ?n49 ?l49 ?c49 ?k49 ?b49) (DL.i7 KX G ?n50 ?l50 ?c50 ?k50 ?b50) (DL.i7 KX G ?n51 ?l51 ?c51 ?k51 ?b51) (DL.i7 KX G ?n52 ?l52 ?c52 ?k52 ?b52) (DL.i7 KX G ?n53 ?l53 ?c53 ?k53 ?b53) (DL.i7 KX G ?n54 ?l54 ?c54 ?k54 ?b54) (DL.i7 KX G ?n55 ?l55 ?c55 ?k55 ?b55) (DL.i7 KX G ?n56 ?l56 ?c56 ?k56 ?b56) (DL.i7 KX G ?n57 ?l57 ?c57 ?k57 ?b57) (DL.i7 KX G ?n58 ?l58 ?c58 ?k58 ?b58) (DL.i7 KX G ?n59 ?l59 ?c59 ?k59 ?b59) (DL.Gg KX G ?n60 ?l60 ?c60 ?k60 ?b60)
  (case n0=>k_is);(case l0=>k_is);(case c0=>k_is);(case k0=>k_is);(case b0=>(intro us hl;exact match us,hl with|[_,_],_=>rfl))
  (case n1=>k_is);(case l1=>k_is);(case c1=>k_is);(case k1=>k_is);(case b1=>(intro us hl;exact match us,hl with|[_,_],_=>rfl))
  (case n2=>k_is);(case l2=>k_is);(case c2=>k_is);(case k2=>k_is);(case b2=>(intro us hl;exact match us,hl with|[_,_],_=>rfl))
  (case n3=>k_is);(case l3=>k_is);(case c3=>k_is);(case k3=>k_is);(case b3=>(intro us hl;exact match us,hl with|[_],_=>rfl))
  (case n4=>k_is);(case l4=>k_is);(case c4=>k_is);(case k4=>k_is);(case b4=>(intro us hl S;exact match us,hl with|[_,_],_=>rfl))
  (case n5=>k_is);(case l5=>k_is);(case c5=>k_is);(case k5=>k_is);(case b5=>(intro us hl;exact match us,hl with|[_,_],_=>rfl))
  (case n6=>k_is);(case l6=>k_is);(case c6=>k_is);(case k6=>k_is);(case b6=>(intro us hl;exact match us,hl with|[_,_],_=>rfl))
  (case n7=>k_is);(case l7=>k_is);(case c7=>k_is);(case k7=>k_is);(case b7=>(intro us hl;exact match us,hl with|[_,_],_=>rfl))
  (case n8=>k_is);(case l8=>k_is);(case c8=>k_is);(case k8=>k_is);(case b8=>(intro us hl;exact match us,hl with|[_,_,_],_=>rfl))
  (case n9=>k_is);(case l9=>k_is);(case c9=>k_is);(case k9=>k_is);(case b9=>(intro us hl;exact match us,hl with|[_,_,_],_=>rfl))
  (case n10=>k_is);(case l10=>k_is);(case c10=>k_is);(case k10=>k_is);(case b10=>(intro us hl;exact match us,hl with|[_,_],_=>rfl))
  (case n11=>k_is);(case l11=>k_is);(case c11=>k_is);(case k11=>k_is);(case b11=>(intro us hl;exact match us,hl with|[_,_],_=>rfl))
  (case n12=>k_is);(case l12=>k_is);(case c12=>k_is);(case k12=>k_is);(case b12=>(intro us hl;exact match us,hl with|[_,_],_=>rfl))
  (case n13=>k_is);(case l13=>k_is);(case c13=>k_is);(case k13=>k_is);(case b13=>(intro us hl;exact match us,hl with|[_],_=>rfl))
  (case n14=>k_is);(case l14=>k_is);(case c14=>k_is);(case k14=>k_is);(case b14=>(intro us hl;exact match us,hl with|[_,_],_=>rfl))
  (case n15=>k_is);(case l15=>k_is);(case c15=>k_is);(case k15=>k_is);(case b15=>(intro us hl;exact match us,hl with|[_,_],_=>rfl))
  (case n16=>k_is);(case l16=>k_is);(case c16=>k_is);(case k16=>k_is);(case b16=>(intro us hl;exact match us,hl with|[_],_=>rfl))
  (case n17=>k_is);(case l17=>k_is);(case c17=>k_is);(case k17=>k_is);(case b17=>(intro us hl;exact match us,hl with|[_,_,_],_=>rfl))
  (case n18=>k_is);(case l18=>k_is);(case c18=>k_is);(case k18=>k_is);(case b18=>(intro us hl;exact match us,hl with|[_],_=>rfl))
  (case n19=>k_is);(case l19=>k_is);(case c19=>k_is);(case k19=>k_is);(case b19=>(intro us hl;exact match us,hl with|[_],_=>rfl))
  (case n20=>k_is);(case l20=>k_is);(case c20=>k_is);(case k20=>k_is);(case b20=>(intro us hl;exact match us,hl with|[_,_],_=>rfl))
  (case n21=>k_is);(case l21=>k_is);(case c21=>k_is);(case k21=>k_is);(case b21=>(intro us hl;exact match us,hl with|[_,_],_=>rfl))
  (case n22=>k_is);(case l22=>k_is);(case c22=>k_is);(case k22=>k_is);(case b22=>(intro us hl;exact match us,hl with|[_,_,_,_],_=>rfl))
  (case n23=>k_is);(case l23=>k_is);(case c23=>k_is);(case k23=>k_is);(case b23=>(intro us hl;exact match us,hl with|[_,_,_],_=>rfl))
  (case n24=>k_is);(case l24=>k_is);(case c24=>k_is);(case k24=>k_is);(case b24=>(intro us hl;exact match us,hl with|[_,_],_=>rfl))
  (case n25=>k_is);(case l25=>k_is);(case c25=>k_is);(case k25=>k_is);(case b25=>(intro us hl;exact match us,hl with|[_,_],_=>rfl))
  (case n26=>k_is);(case l26=>k_is);(case c26=>k_is);(case k26=>k_is);(case b26=>(intro us hl;exact match us,hl with|[_],_=>rfl))
  (case n27=>k_is);(case l27=>k_is);(case c27=>k_is);(case k27=>k_is);(case b27=>(intro us hl;exact match us,hl with|[_],_=>rfl))
  (case n28=>k_is);(case l28=>k_is);(case c28=>k_is);(case k28=>k_is);(case b28=>(intro us hl;exact match us,hl with|[_],_=>rfl))
  (case n29=>k_is);(case l29=>k_is);(case c29=>k_is);(case k29=>k_is);(case b29=>(intro us hl;exact match us,hl with|[_,_,_],_=>rfl))
  (case n30=>k_is);(case l30=>k_is);(case c30=>k_is);(case k30=>k_is);(case b30=>(intro us hl;exact match us,hl with|[_,_],_=>rfl))
  (case n31=>k_is);(case l31=>k_is);(case c31=>k_is);(case k31=>k_is);(case b31=>(intro us hl;exact match us,hl with|[_,_],_=>rfl))
  (case n32=>k_is);(case l32=>k_is);(case c32=>k_is);(case k32=>k_is);(case b32=>(intro us hl;exact match us,hl with|[_,_],_=>rfl))
  (case n33=>k_is);(case l33=>k_is);(case c33=>k_is);(case k33=>k_is);(case b33=>(intro us hl;exact match us,hl with|[_,_],_=>rfl))
  (case n34=>k_is);(case l34=>k_is);(case c34=>k_is);(case k34=>k_is);(case b34=>(intro us hl;exact match us,hl with|[_,_],_=>rfl))
  (case n35=>k_is);(case l35=>k_is);(case c35=>k_is);(case k35=>k_is);(case b35=>(intro us hl;exact match us,hl with|[_,_],_=>rfl))
  (case n36=>k_is);(case l36=>k_is);(case c36=>k_is);(case k36=>k_is);(case b36=>(intro us hl;exact match us,hl with|[_,_],_=>rfl))
  (case n37=>k_is);(case l37=>k_is);(case c37=>k_is);(case k37=>k_is);(case b37=>(intro us hl;exact match us,hl with|[_,_,_,_],_=>rfl))
  (case n38=>k_is);(case l38=>k_is);(case c38=>k_is);(case k38=>k_is);(case b38=>(intro us hl;exact match us,hl with|[_,_,_],_=>rfl))
  (case n39=>k_is);(case l39=>k_is);(case c39=>k_is);(case k39=>k_is);(case b39=>(intro us hl;exact match us,hl with|[_,_,_],_=>rfl))
  (case n40=>k_is);(case l40=>k_is);(case c40=>k_is);(case k40=>k_is);(case b40=>(intro us hl;exact match us,hl with|[_,_],_=>rfl))
  (case n41=>k_is);(case l41=>k_is);(case c41=>k_is);(case k41=>k_is);(case b41=>(intro us hl;exact match us,hl with|[_,_],_=>rfl))
  (case n42=>k_is);(case l42=>k_is);(case c42=>k_is);(case k42=>k_is);(case b42=>(intro us hl;exact match us,hl with|[_,_],_=>rfl))
  (case n43=>k_is);(case l43=>k_is);(case c43=>k_is);(case k43=>k_is);(case b43=>(intro us hl;exact match us,hl with|[_,_],_=>rfl))
  (case n44=>k_is);(case l44=>k_is);(case c44=>k_is);(case k44=>k_is);(case b44=>(intro us hl;exact match us,hl with|[_],_=>rfl))
  (case n45=>k_is);(case l45=>k_is);(case c45=>k_is);(case k45=>k_is);(case b45=>(intro us hl;exact match us,hl with|[_,_],_=>rfl))
  (case n46=>k_is);(case l46=>k_is);(case c46=>k_is);(case k46=>k_is);(case b46=>(intro us hl;exact match us,hl with|[_,_],_=>rfl))
  (case n47=>k_is);(case l47=>k_is);(case c47=>k_is);(case k47=>k_is);(case b47=>(intro us hl;exact match us,hl with|[_,_,_],_=>rfl))
  (case n48=>k_is);(case l48=>k_is);(case c48=>k_is);(case k48=>k_is);(case b48=>(intro us hl;exact match us,hl with|[_,_],_=>rfl))
  (case n49=>k_is);(case l49=>k_is);(case c49=>k_is);(case k49=>k_is);(case b49=>(intro us hl;exact match us,hl with|[_,_,_],_=>rfl))
  (case n50=>k_is);(case l50=>k_is);(case c50=>k_is);(case k50=>k_is);(case b50=>(intro us hl;exact match us,hl with|[_],_=>rfl))
  (case n51=>k_is);(case l51=>k_is);(case c51=>k_is);(case k51=>k_is);(case b51=>(intro us hl;exact match us,hl with|[_],_=>rfl))
  (case n52=>k_is);(case l52=>k_is);(case c52=>k_is);(case k52=>k_is);(case b52=>(intro us hl;exact match us,hl with|[_],_=>rfl))
  (case n53=>k_is);(case l53=>k_is);(case c53=>k_is);(case k53=>k_is);(case b53=>(intro us hl;exact match us,hl with|[_],_=>rfl))
  (case n54=>k_is);(case l54=>k_is);(case c54=>k_is);(case k54=>k_is);(case b54=>(intro us hl;exact match us,hl with|[_,_],_=>rfl))
  (case n55=>k_is);(case l55=>k_is);(case c55=>k_is);(case k55=>k_is);(case b55=>(intro us hl;exact match us,hl with|[_,_],_=>rfl))
  (case n56=>k_is);(case l56=>k_is);(case c56=>k_is);(case k56=>k_is);(case b56=>(intro us hl;exact match us,hl with|[_],_=>rfl))
  (case n57=>k_is);(case l57=>k_is);(case c57=>k_is);(case k57=>k_is);(case b57=>(intro us hl;exact match us,hl with|[_],_=>rfl))
  (case n58=>k_is);(case l58=>k_is);(case c58=>k_is);(case k58=>k_is);(case b58=>(intro us hl;exact match us,hl with|[_,_],_=>rfl))
  (case n59=>k_is);(case l59=>k_is);(case c59=>k_is);(case k59=>k_is);(case b59=>(intro us hl;exact match us,hl with|[_],_=>rfl))
  (case n60=>k_is);(case l60=>k_is);(case c60=>k_is);(case k60=>k_is);(case b60=>(intro us hl;exact match us,hl with|[_],_=>rfl))
  (case z_abs=>k_is);(case z_all=>k_is);(case z_any=>k_is);(case z_bool=>k_is);(case z_enumerate=>k_is);(case z_int=>k_is);(case z_isinstance=>k_is);(case z_len=>k_is);(case z_list=>k_is);(case z_max=>k_is);(case z_min=>k_is);(case z_range=>k_is);(case z_set=>k_is);(case z_sorted=>k_is);(case z_tuple=>k_is);(case z_zip=>k_is);(case c0_MOST_SHARES=>k_is);(case c0_NOUGHT=>k_is);(case c1_NOUGHT=>k_is);(case c0_ONE=>k_is);(case c1_ONE=>k_is)
end
