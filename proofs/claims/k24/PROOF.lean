import PyProof.Rows.All
import PyProof.Rows.SetFrom
import PyProof.CollectWalk
import PyProof.Rows.SortShell
import PyProof.FactsAll.set_1
import PyProof.FactsAll.set_2
import PyProof.MeetsSeq
import KE.KSortTup
import KE.KSortAsk
import OpenK.KLine
import KE.KPar
import KE.IntBitsLaws
import PyProof.Fits
import KE.KIsAll
import KE.KItem
import KE.KxBytes
import Wide.FinOn
import PyProof.EqAt
import PyProof.EqKinds
import PyProof.TupleCall
import PyProof.ZipIter
import PyProof.EnumMake
import PyProof.EnumFor
import PyProof.Rows.EnumRows
import PyProof.CompMap
import PyProof.CompUse
import KE.KRevSl
import KE.KRevIter
import PyProof.ListRange
import PyProof.AutoRange
import PyProof.FactsAll.range_2
import PyProof.MaxThree
import KE.RegKTryMore
import PyProof.Rows.SumAny
import KE.KMinBuiltin
import PyProof.Rows.CallKwBuiltin
import PyProof.JoinWalk
import PyProof.StrBlockL
import PyProof.StrCalls2
import PyProof.CallStr
import PyProof.Rows.StrWeight2
import PyProof.FitsInt
import PyProof.FactsAll.range_1
import PyProof.SeqRoads2
import KE.RegKIsAll
import PyProof.ExcArgsOwn
import PyProof.NsDelKeeps
import PyProof.RulesAs
import KE.KIntText
import PyProof.Rows.StrNews2
import PyProof.StrBlockH
import PyProof.Rows.RuleDivmod
import KE.IntTextText
import OpenK.KTop
import Lean
import PySem.Challenge.RW_roundglass_k24_most_told
noncomputable section
open PySem renaming wpAny_bind→Mq,wpAny_pure→Mu
open PySem.Heap renaming get?_push_of_some→Mr,get?_push_size→Mw,lt_size→MB,size_push→Nd,get?_update_self→Nw,get?_update_other→NN,get?_update_ne→NX,get?_push_ne→Pl,size_update→Px
open PySem.W renaming Frag→Ms
open Nat renaming lt_of_lt_of_le→Mt,pow_le_pow_right→My,le_trans→ME,le_refl→MM,ne_of_lt→MN,lt_of_le_of_lt→MP,ne_of_gt→Nl,mul_le_mul_right→Nm,zero_le→Np,pow_add→Nt,mul_lt_mul_of_lt_of_le→Ny,le_of_lt→NC,mul_lt_mul''→ND,gcd→NH,pow_succ→NJ,lt_irrefl→NP,div_le_of_le_mul→NT,le_add_right→NY,div_le_self→Oe,mul_comm→Oh,le_succ→Ou,gcd_pos_of_pos_right→Ov,pow_pos→OH,min_le_right→OM,dvd_lcm_left→OO,mod_lt→OT,dvd_lcm_right→Pn,lt_succ_of_lt→Po,lcm_pos→Pr,lt_succ_self→Pu,le_max_right→Pw,log2_le_self→Pz,le_of_eq→PJ,le_max_left→PK,max_le→PV,pow_lt_pow_right→PZ,mul_le_mul→Qe,log2_lt→Qg,pos_iff_ne_zero→Qh,mul_le_mul_left→Qk,one_mul→Qm,eq_zero_or_pos→Qp,one_lt_two_pow→Qs,mul_assoc→Qt,gcd_zero_right→Qv,gcd_dvd_right→QC,gcd_comm→QD,zero_add→QH,mul_pos→QQ,not_lt_zero→QV,lcm→Rc
open List renaming mem_cons→Mv,mem_cons_of_mem→Mx,mem_cons_self→Mz,length_map→MA,mem_map→MD,not_mem_nil→MG,getElem?_eq_some_iff→MH,mem_of_getElem?→MI,size_toArray→MJ,map_append→MR,getElem?_eq_getElem→MS,mem_append_right→MT,getElem?_map→MV,getD_eq_getElem?_getD→MW,mem_append→MX,mem_singleton→Nc,length_cons→Ng,filter_cons_of_pos→Nh,map_cons→Ni,length_take→Nr,length_append→Nu,map_inj_right→Nv,filter_cons_of_neg→Nx,mem_append_left→NB,take_length→NF,all_eq_true→NG,take_add_one→NI,getElem?_replicate→NK,map_map→NL,range→NO,take_succ_eq_append_getElem→NS,foldl_append→NV,replicate→NZ,take_of_length_le→Oa,map_nil→Od,length_filter_le→Of,map→Ol,mem_of_mem_take→Om,length_drop→Oq,lookup_cons→Ot,mem_filterMap→Oz,append_nil→OA,forIn_cons→OB,length_replicate→OJ,zipIdx_cons→ON,eq_nil_of_length_eq_zero→OP,getElem?_append→OQ,filterMap_cons→OU,nodup_cons→OW,of_mem_zip→OX,zipIdx_nil→OY,take_succ_cons→OZ,all_map→Pe,forIn_nil→Ph,drop_eq_getElem_cons→Pj,append_assoc→Pm,any_eq_true→Py,getElem?_set_self→PB,drop_of_length_le→PF,mem_filter→PH,getElem?_zipWith→PL,getElem?_eq_none→PR,getElem?_set_ne→PX,getElem?_mapIdx→PY,mem_iff_getElem→Qa,mem_of_mem_drop→Qb,mem_range→Qc,perm_singleton→Ql,length_pos_iff→Qn,all_cons→Qo,filter_append→Qr,map_take→Qu,any_eq_false→Qw,reverse_cons→Qx,all_eq_false→Qz,length_range→QB,any_map→QE,ext_getElem→QJ,getElem_mem→QK,length→QM,length_set→QN,length_zip→QR,nil_append→QU,foldl_cons→QX,drop_zero→QY,any_cons→Ra
open Int renaming natAbs_natCast→MC,natCast_inj→MU,toNat_natCast→MY,natAbs_mul→Nf,mul_ne_zero→Nj,natAbs_neg→Nz,emod_lt_of_pos→NQ,mul_pos→NR,emod_nonneg→Og,natAbs_sub_le→Oj,natCast_mul→OC,natAbs_add_le→OG,mul_nonneg→OI,mul_le_mul_of_nonneg_right→OL,mul_one→OV,mul_eq_zero→Pb,sign_eq_neg_one_of_neg→Pd,natAbs_ediv_le_natAbs→Pg,sign_eq_one_of_pos→PC,zero_mul→PN,neg_ediv_of_dvd→Qj,lt_or_le→QF,le_of_lt→QG,natCast_emod→QL,mul_neg→QT,neg_neg→QW,natAbs_pos→QZ,gcd→Rf
open Bool renaming false_ne_true→MF,and_eq_true→Na,true_and→Nb,and_false→NA,false_eq_true→Ob,eq_iff_iff→Oc,false_and→Oo,and_true→OS,eq_false_iff→QA,or_false→Rb
open Rat renaming intCast_mul→ML,mul_nonneg→MQ,divInt→MZ,div_mul_cancel→Nk,num_divInt_den→Nn,intCast_natCast→Nq,num_eq_zero→NM,intCast_sub→NU,mul_pos→NW,div_def→Oi,mul_comm→Ow,zero_add→Ox,divInt_nonneg_iff_of_pos_right→Oy,intCast_add→OD,intCast_neg→OE,mul_div_cancel→OF,divInt_mul_divInt→OK,divInt_mul_right→OR,le_refl→Pa,neg_mul→Pc,add_zero→Pf,num_nonneg→Pk,divInt_eq_divInt_iff→Pp,neg_num→Pq,intCast_eq_zero_iff→Pt,intCast_le_intCast→PD,divInt_add_divInt→PM,mul_zero→PQ,neg_den→Qi,sub_eq_add_neg→Qq,divInt_eq_div→Qy,num_intCast→QO,den_intCast→QP,neg_neg→QS
open Option renaming getD_none→QI
set_option compiler.extract_closed false
set_option Elab.async false
set_option linter.all false
set_option maxRecDepth 100000
section
namespace L2
open PySem PySem.Spec PyProof.Rows
noncomputable abbrev Key:=Sum Int Str
noncomputable def Dc:Key→Value→Bool
 | .inl k,v=>Value.isInt k v
 | .inr x,v=>Value.isStrOf x v
noncomputable def Jg(w:World):Key→Int
 | .inl k=>hashInt k
 | .inr x=>hashStr w x
theorem v8:∀{k:Key} {v:Value},Dc k v=true→(∃ i t,k=Sum.inl i∧v=Value.int i t)∨(∃ x t,k=Sum.inr x∧v=Value.str x t)
 | .inl i,v,h=>by
  obtain⟨t,e⟩:=Value.isInt_shape (k:=i) (v:=v) h
  exact .inl ⟨i,t,rfl,e⟩
 | .inr x,v,h=>by
  obtain⟨t,e⟩:=Value.isStrOf_shape (x:=x) (v:=v) h
  exact .inr ⟨x,t,rfl,e⟩
theorem Fd(a b:Int):decide ((Sum.inl a:Key)=Sum.inl b)=(a == b):=by
 by_cases e:a=b
 ·subst e;simp
 ·have h:¬ (Sum.inl a:Key)=Sum.inl b:=fun q=>e (Sum.inl.inj q)
  rw[decide_eq_false h]
  exact(beq_eq_false_iff_ne.mpr e).symm
theorem EZ(a b:Str):decide ((Sum.inr a:Key)=Sum.inr b)=decide (a=b):=by
 by_cases e:a=b
 ·subst e;simp
 ·have h:¬ (Sum.inr a:Key)=Sum.inr b:=fun q=>e (Sum.inr.inj q)
  rw[decide_eq_false h,decide_eq_false e]
theorem Fc(a:Int)(b:Str):decide ((Sum.inl a:Key)=Sum.inr b)=false:=decide_eq_false (fun q=>nomatch q)
theorem Fb(a:Str)(b:Int):decide ((Sum.inr a:Key)=Sum.inl b)=false:=decide_eq_false (fun q=>nomatch q)
noncomputable def rA(prog:Program)(w:World):PySem.KeyKind prog w Key where
 is:=Dc
 hash:=Jg w
 inj:=fun v a b ha hb=>by
  rcases v8 ha with⟨i,t,rfl,rfl⟩|⟨x,t,rfl,rfl⟩
  ·rcases v8 hb with⟨j,u,rfl,e⟩|⟨y,u,rfl,e⟩
   ·injection e with e1 _;rw[e1]
   ·exact nomatch e
  ·rcases v8 hb with⟨j,u,rfl,e⟩|⟨y,u,rfl,e⟩
   ·exact nomatch e
   ·injection e with e1 _;rw[e1]
 byValue:=fun k v h=>by
  rcases v8 h with⟨i,t,rfl,rfl⟩|⟨x,t,rfl,rfl⟩<;>rfl
 pyHash:=fun hv h=>by
  rcases v8 hv with⟨i,t,rfl,rfl⟩|⟨x,t,rfl,rfl⟩
  ·exact wpAny_pyHash_int h
  ·exact wpAny_pyHash_str h
 eqBool:=fun hu hv h=>by
  rcases v8 hu with⟨i,t,rfl,rfl⟩|⟨x,t,rfl,rfl⟩
  ·rcases v8 hv with⟨j,u,rfl,rfl⟩|⟨y,u,rfl,rfl⟩
   ·rw[Fd]at h;exact wpAny_eqBool_int h
   ·rw[Fc]at h;exact SeqAt.EqAt.int_str i t y u _ _ _ _ h
  ·rcases v8 hv with⟨j,u,rfl,rfl⟩|⟨y,u,rfl,rfl⟩
   ·rw[Fb]at h;exact SeqAt.EqAt.str_int x t j u _ _ _ _ h
   ·rw[EZ]at h;exact wpAny_eqBool_str h
 «strs»:=fun k x t v h=>by
  rcases v8 h with⟨i,u,rfl,e⟩|⟨y,u,rfl,e⟩
  ·exact nomatch e
  ·injection e with e1 _
   subst e1
   cases v<;>rfl
inductive V where
 | non|bl (b:Bool)|int (i:Int)|str (x:Str)|byt (b:Array UInt8)|flt (b:UInt64)|ref (a:Addr)|ty (n:String)
 deriving DecidableEq
noncomputable def p7:V→Value→Prop
 | .non,u=>u=Value.none
 | .bl b,u=>u=Value.bool b
 | .int i,u=>∃ t,u=Value.int i t
 | .str x,u=>∃ t,u=Value.str x t
 | .byt b,u=>∃ t,u=Value.bytes b t
 | .flt b,u=>∃ t,u=Value.float b t
 | .ref a,u=>u=Value.ref a
 | .ty n,u=>u=Value.type n
noncomputable abbrev j6:List V→List Value→Prop:=Paired p7
theorem j6.length{xs:List V}{us:List Value}(r:j6 xs us):xs.length=us.length:=Paired.length r
theorem j6.get:∀{xs:List V} {us:List Value} {i:Nat} {x:V},j6 xs us→xs[i]? = some x→∃ u,us[i]? = some u∧p7 x u
 | _,_,_,_,.nil,e=>by simp at e
 | _,_,0,_,.cons r _,e=>by simp at e;subst e;exact⟨_,rfl,r⟩
 | _,_,i+1,x,.cons _ t,e=>by
  obtain⟨u,h1,h2⟩:=j6.get (i:=i) (x:=x) t (by simpa using e)
  exact⟨u,by simpa using h1,h2⟩
theorem j6.set{x:V}{u:Value}(r:p7 x u):∀{xs:List V} {us:List Value} (i:Nat),j6 xs us→j6 (xs.set i x) (us.set i u)
 | _,_,_,.nil=>.nil
 | _,_,0,.cons _ t=>.cons r t
 | _,_,i+1,.cons q t=>.cons q (j6.set r i t)
theorem j6.append:∀{xs ys:List V} {us ws:List Value},j6 xs us→j6 ys ws→j6 (xs++ys) (us++ws)
 | _,_,_,_,.nil,s=>s
 | _,_,_,_,.cons r t,s=>.cons r (j6.append t s)
theorem j6.take:∀{xs:List V} {us:List Value} (n:Nat),j6 xs us→j6 (xs.take n) (us.take n)
 | _,_,0,_=>.nil
 | _,_,_+1,.nil=>.nil
 | _,_,n+1,.cons r t=>.cons r (j6.take n t)
theorem j6.drop:∀{xs:List V} {us:List Value} (n:Nat),j6 xs us→j6 (xs.drop n) (us.drop n)
 | _,_,0,r=>r
 | _,_,_+1,.nil=>.nil
 | _,_,n+1,.cons _ t=>j6.drop n t
noncomputable def FK:Option V→Option Value→Prop
 | some v,some u=>p7 v u
 | none,none=>True
 | _,_=>False
noncomputable def KV{κ:Type}:List (κ × V)→List (κ × Value)→Prop:=Paired fun(p:κ × V) (q:κ × Value)=>p.1=q.1∧p7 p.2 q.2
noncomputable def kV:Key→V
 | .inl i=>.int i
 | .inr x=>.str x
inductive HO where
 | lst (xs:List V)
 | tup (xs:List V)
 | dK (kvs:List (Key × V))|dT (kvs:List (List Key × V))
 | set (S:Int→Bool) (n:Nat)
 | ins (C dx:Addr) (fs:List (Str × V))
 | own (x:Addr)
 | xd (fs:List (Str × V))
 | met (f x:Addr)
 | rng (lo hi:Int)
 | frz (o:Obj) (u:HO)
 | tbl (ps:Array Value)
 | ext (φ:Heap→Prop)
noncomputable abbrev Hp:=Addr→Option HO
noncomputable def upd(H:Hp)(a:Addr)(o:HO):Hp:=fun b=>if b=a then some o else H b
theorem i7{H:Hp}{a:Addr}{o:HO}:upd H a o a=some o:=by unfold upd;rw[if_pos rfl]
theorem g5{H:Hp}{a b:Addr}{o:HO}(h:b≠a):upd H a o b=H b:=by unfold upd;rw[if_neg h]
theorem ah{H:Hp}{a:Addr}{o u:HO}:upd (upd H a o) a u=upd H a u:=by
 funext b;unfold upd;split<;>rfl
theorem D7{H:Hp}{a b:Addr}{o:HO}(h:H a=some o)(h':H b=none):a≠b:=by
 intro e;subst e;rw[h]at h';cases h'
section
variable (P:Program) (w:World)
noncomputable def B0(H:Hp)(h:Heap)(a:Addr):HO→Prop
 | .lst xs=>xs.length≤sizeLine∧∃(its:List Value) (n:Nat),j6 xs its∧h.get? a=some { cls:=.type "list",data:=.seq its.toArray n }
 | .tup xs=>xs.length≤sizeLine∧∃ its:List Value,j6 xs its∧IsTup h a its.toArray
 | .dK kvs=>kvs.length≤sizeLine∧(a == sysModules)=false∧∃ vs,KV kvs vs∧h.DictOf (rA P w) a vs
 | .dT kvs=>kvs.length≤sizeLine∧(a == sysModules)=false∧∃ xs:List (List Key × Addr × Value),
   Paired (fun(p:List Key × V) (q:List Key × Addr × Value)=>p.1=q.1∧H q.2.1=some (.tup (p.1.map kV))∧p7 p.2 q.2.2) kvs xs ∧
   ∃ o es ep,h.get? a=some o∧o.ExactDict∧o.data = .dict es ep∧es.toList=xs.map (entryOfKey (tupleKind (rA P w)))∧(xs.map (·.1)).Nodup
 | .set S n=>h.SetOf (intKind P w) a S n
 | .ins C dx fs=>H dx=some (.own a)∧fs.length≤1000∧dx≠a∧h.get? a=some (PySem.W.instObj C dx) ∧
   ∃ mA,h.Ns1 dx mA∧(∀ f,FK (fs.lookup f) (mA f))∧PySem.Within mA (fs.map (·.1))
 | .own _=>∃ o,h.get? a=some o
 | .xd fs=>∃ mA,h.Ns1 a mA∧∀ f,FK (fs.lookup f) (mA f)
 | .rng lo hi=>∃ t u v,h.get? a=some { cls:=.type "range",data:=.fields #[.int lo t,.int hi u,.int 1 v] }
 | .frz o u=>h.get? a=some o∧B0 H h a u
 | .tbl ps=>h.get? a=some { cls:=.none,data:=.fields ps }
 | .met f x=>h.get? a=some (PySem.W.methodObj (.ref f) (.ref x))
 | .ext φ=>φ h∧(∃ o,h.get? a=some o)∧∀ h1 h2:Heap,φ h1→(∀ o,h1.get? a=some o→h2.get? a=some o)→φ h2
def HOk(H:Hp)(h:Heap):Prop:=∀ a o,H a=some o→B0 P w H h a o
end
section
variable {P:Program} {w:World} {H H':Hp} {h h':Heap} {a:Addr} {o:HO}
theorem B0.lt(x:B0 P w H h a o):a<h.objs.size:=by
 cases o with
 | lst xs=>obtain⟨_,_,_,_,e⟩:=x;exact MB e
 | tup xs=>obtain⟨_,_,_,p⟩:=x;exact p.lt
 | dK kvs=>obtain⟨_,_,_,_,o,_,_,e,_⟩:=x;exact MB e
 | dT kvs=>obtain⟨_,_,_,_,o,_,_,e,_⟩:=x;exact MB e
 | set S n=>obtain⟨o,_,_,_,e,_⟩:=x;exact MB e
 | ins C dx fs=>obtain⟨_,_,_,e,_⟩:=x;exact MB e
 | own y=>obtain⟨_,e⟩:=x;exact MB e
 | xd fs=>obtain⟨_,⟨_,_,_,e,_⟩,_⟩:=x;exact MB e
 | rng lo hi=>obtain⟨_,_,_,e⟩:=x;exact MB e
 | frz ob u=>obtain⟨e,_⟩:=x;exact MB e
 | tbl ps=>exact MB (show h.get? a=some _ from x)
 | met f y=>exact MB (show h.get? a=some _ from x)
 | ext φ=>obtain⟨_,⟨_,e⟩,_⟩:=x;exact MB e
theorem Paired.mapP{α β:Type}{F G:α→β→Prop}:∀{l₁:List α} {l₂:List β},Paired F l₁ l₂→(∀ a b,F a b→G a b)→Paired G l₁ l₂
 | _,_,.nil,_=>.nil
 | _,_,.cons r t,f=>.cons (f _ _ r) (Paired.mapP t f)
theorem B0.stay(x:B0 P w H h a o)(k:∀ b u,(b=a∨H b=some (.own a))→h.get? b=some u→h'.get? b=some u)
  (ho:∀ b,H b=some (.own a)→H' b=some (.own a)) (ht:∀ b xs,H b=some (.tup xs)→H' b=some (.tup xs)):B0 P w H' h' a o:=by
 induction o with
 | lst xs=>obtain⟨z,its,n,r,e⟩:=x;exact⟨z,its,n,r,k _ _ (.inl rfl) e⟩
 | tup xs=>obtain⟨z,its,r,ob,e,c⟩:=x;exact⟨z,its,r,ob,k _ _ (.inl rfl) e,c⟩
 | dK kvs=>obtain⟨z,y,vs,r,ob,es,ep,e,c⟩:=x;exact⟨z,y,vs,r,ob,es,ep,k _ _ (.inl rfl) e,c⟩
 | dT kvs =>
  obtain⟨z,y,xs,r,ob,es,ep,e,c⟩:=x
  exact⟨z,y,xs,Paired.mapP r fun p q z=>⟨z.1,ht _ _ z.2.1,z.2.2⟩,ob,es,ep,k _ _ (.inl rfl) e,c⟩
 | set S n=>obtain⟨ob,es,ep,t,e,c⟩:=x;exact⟨ob,es,ep,t,k _ _ (.inl rfl) e,c⟩
 | ins C dx fs =>
  obtain⟨d,z,ne,e,mA,⟨od,es,ep,e2,c⟩,r⟩:=x
  exact⟨ho _ d,z,ne,k _ _ (.inl rfl) e,mA,⟨od,es,ep,k _ _ (.inr d) e2,c⟩,r⟩
 | own y=>obtain⟨ob,e⟩:=x;exact⟨ob,k _ _ (.inl rfl) e⟩
 | xd fs=>obtain⟨mA,⟨od,es,ep,e,c⟩,r⟩:=x;exact⟨mA,⟨od,es,ep,k _ _ (.inl rfl) e,c⟩,r⟩
 | rng lo hi=>obtain⟨t,u,v,e⟩:=x;exact⟨t,u,v,k _ _ (.inl rfl) e⟩
 | frz ob u ih=>obtain⟨e,q⟩:=x;exact⟨k _ _ (.inl rfl) e,ih q⟩
 | tbl ps =>
  have e:h.get? a=some { cls:=.none,data:=.fields ps }:=x
  show h'.get? a=some { cls:=.none,data:=.fields ps }
  exact k a _ (.inl rfl) e
 | met f y =>
  have e:h.get? a=some (PySem.W.methodObj (.ref f) (.ref y)):=x
  show h'.get? a=some (PySem.W.methodObj (.ref f) (.ref y))
  exact k a _ (.inl rfl) e
 | ext φ=>obtain⟨p,⟨o,e⟩,st⟩:=x;exact⟨st _ _ p fun o q=>k _ _ (.inl rfl) q,⟨o,k _ _ (.inl rfl) e⟩,st⟩
theorem HOk.lt(x:HOk P w H h)(e:H a=some o):a<h.objs.size:=(x a o e).lt
theorem HOk.fresh(x:HOk P w H h)(e:h.objs.size≤a):H a=none:=by
 cases q:H a with
 | none=>rfl
 | some u=>exact absurd (Mt (x.lt q) e) (NP _)
theorem HOk.kept(x:HOk P w H h)(k:∀ b u,h.get? b=some u→h'.get? b=some u):HOk P w H h':=fun a o e =>
 (x a o e).stay (fun b u _ q=>k b u q) (fun _ q=>q) fun _ _ q=>q
theorem HOk.laid(x:HOk P w H h)(k:∀ b u,h.get? b=some u→h'.get? b=some u)(hp:h.objs.size≤a)(new:B0 P w (upd H a o) h' a o):HOk P w (upd H a o) h':=fun b u e=>by
 have hn:=x.fresh hp
 by_cases hb:b=a
 ·subst hb;rw[i7]at e;cases e;exact new
 ·rw[g5 hb]at e
  exact(x b u e).stay (fun c v _ q=>k c v q) (fun c q=>by rw[g5 (D7 q hn)];exact q) fun c xs q=>by rw[g5 (D7 q hn)];exact q
end
def Rd(H:Hp)(a:Addr)(u:HO):Prop:=H a=some u ∨ ∃ o,H a=some (.frz o u)
theorem Rd.of{H:Hp}{a:Addr}{u:HO}(h:H a=some u):Rd H a u:=.inl h
theorem Rd.ok{P:Program}{w:World}{H:Hp}{h:Heap}{a:Addr}{u:HO}(r:Rd H a u)(x:HOk P w H h):B0 P w H h a u:=by
 rcases r with r|⟨o,r⟩
 ·exact x a u r
 ·obtain⟨_,q⟩:=x a _ r
  exact q
noncomputable def Mut:Option HO→Prop
 | some (.lst _)=>True
 | some (.dK _)=>True
 | some (.dT _)=>True
 | some (.set _ _)=>True
 | some (.ins _ _ _)=>True
 | some (.ext _)=>True
 | _=>False
section
variable {P:Program} {w:World} {H:Hp} {h h':Heap} {x e:Addr} {o':HO}
theorem HOk.write(ok:HOk P w H h)(mu:Mut (H x))(he:e=x∨H e=some (.own x))(k:∀ b u,b≠e→h.get? b=some u→h'.get? b=some u)(heo:∃ u,h'.get? e=some u)
  (new:B0 P w (upd H x o') h' x o'):HOk P w (upd H x o') h':=fun b u q=>by
 have nown:∀ c y,H c=some (.own y)→c≠x:=fun c y r z=>by subst z;rw[r]at mu;exact mu
 have ntup:∀ c xs,H c=some (.tup xs)→c≠x:=fun c xs r z=>by subst z;rw[r]at mu;exact mu
 by_cases hb:b=x
 ·subst hb;rw[i7]at q;cases q;exact new
 ·rw[g5 hb]at q
  by_cases hbe:b=e
  ·have q':H b=some (.own x):=by
    rcases he with z|z
    ·exact absurd (hbe.trans z) hb
    ·rw[hbe];exact z
   rw[q]at q';cases q'
   obtain⟨v,hv⟩:=heo
   exact⟨v,by rw[hbe];exact hv⟩
  ·refine(ok b u q).stay (fun c v hc r=>k c v ?_ r) (fun c r=>by rw[g5 (nown c b r)];exact r) fun c xs r=>by rw[g5 (ntup c xs r)];exact r
   rcases hc with rfl|hc
   ·exact hbe
   ·rintro rfl
    rcases he with z|z
    ·exact nown c b hc z
    ·rw[hc]at z;cases z;exact hb rfl
end
structure Un(fs ex:List Addr)(H H':Hp)(h h':Heap):Prop where
 keep:∀ b o,h.get? b=some o→H b=none→b∉fs→b∉ex→h'.get? b=some o
 slot:∀ b o,h.get? b=some o→H b=none→b∈fs→b∉ex→∃ sl,h'.get? b=some { o with slots:=sl }
 free:∀ b o,h.get? b=some o→H b=none→b∉ex→H' b=none
 there:∀ b o,h.get? b=some o→b∉ex→∃ o',h'.get? b=some o'
 tups:∀ b xs,H b=some (.tup xs)→H' b=some (.tup xs)
 frzs:∀ b o u,H b=some (.frz o u)→H' b=some (.frz o u)
 tbls:∀ b ps,H b=some (.tbl ps)→∃ more,H' b=some (.tbl (ps++more))
section
variable {fs fs' ex ex':List Addr} {H H1 H2:Hp} {h h1 h2 h':Heap} {a x e:Addr} {o:HO}
theorem Un.any(u:Un fs ex H H1 h h1){b:Addr}{ob:Obj}(q:h.get? b=some ob)(n:H b=none)(hx:b∉ex):∃ sl,h1.get? b=some { ob with slots:=sl }:=by
 by_cases hb:b∈fs
 ·exact u.slot b ob q n hb hx
 ·exact⟨ob.slots,u.keep b ob q n hb hx⟩
theorem Un.trans(a:Un fs ex H H1 h h1)(b:Un fs ex H1 H2 h1 h2):Un fs ex H H2 h h2 where
 keep:=fun c ob q n hc hx=>b.keep c ob (a.keep c ob q n hc hx) (a.free c ob q n hx) hc hx
 slot:=fun c ob q n hc hx=>by
  obtain⟨sl,e1⟩:=a.slot c ob q n hc hx
  obtain⟨sl',e2⟩:=b.slot c _ e1 (a.free c ob q n hx) hc hx
  exact⟨sl',e2⟩
 free:=fun c ob q n hx=>by
  obtain⟨o',e1⟩:=a.there c ob q hx
  exact b.free c o' e1 (a.free c ob q n hx) hx
 there:=fun c ob q hx=>by
  obtain⟨o',e1⟩:=a.there c ob q hx
  exact b.there c o' e1 hx
 tups:=fun c xs q=>b.tups c xs (a.tups c xs q)
 frzs:=fun c ob xs q=>b.frzs c ob xs (a.frzs c ob xs q)
 tbls:=fun c ps q=>by
  obtain⟨m1,e1⟩:=a.tbls c ps q
  obtain⟨m2,e2⟩:=b.tbls c _ e1
  exact⟨m1++m2,by rw[e2,Array.append_assoc]⟩
theorem Un.kept(k:∀ b u,h.get? b=some u→h'.get? b=some u):Un fs ex H H h h' :=
 ⟨fun b ob q _ _ _=>k b ob q,fun b ob q _ _ _=>⟨ob.slots,k b ob q⟩,fun _ _ _ n _=>n,fun b ob q _=>⟨ob,k b ob q⟩,fun _ _ q=>q,fun _ _ _ q=>q,fun _ ps q=>⟨#[],by rw[q];simp⟩⟩
theorem Un.refl:Un fs ex H H h h:=Un.kept fun _ _ q=>q
theorem Un.laid(k:∀ b u,h.get? b=some u→h'.get? b=some u)(hp:h.objs.size≤a)(hn:H a=none):Un fs ex H (upd H a o) h h' where
 keep:=fun b u q _ _ _=>k b u q
 slot:=fun b u q _ _ _=>⟨u.slots,k b u q⟩
 free:=fun b u q n _=>by rw[g5 (MN (Mt (MB q) hp))];exact n
 there:=fun b u q _=>⟨u,k b u q⟩
 tups:=fun b xs q=>by rw[g5 (D7 q hn)];exact q
 frzs:=fun b u xs q=>by rw[g5 (D7 q hn)];exact q
 tbls:=fun b ps q=>⟨#[],by rw[g5 (D7 q hn),q];simp⟩
theorem Un.write(mu:Mut (H x))(he:e=x∨H e=some (.own x))(k:∀ b u,b≠e→h.get? b=some u→h'.get? b=some u)(heo:∃ u,h'.get? e=some u):Un fs ex H (upd H x o) h h':=by
 have hx:∀ b,H b=none→b≠x:=fun b n z=>by subst z;rw[n]at mu;exact mu
 have hb:∀ b,H b=none→b≠e:=fun b n z=>by
  subst z
  rcases he with r|r
  ·exact hx b n r
  ·rw[n]at r;cases r
 have hm:∀ b u,H b=some u→¬ Mut (some u)→b≠x:=fun b u q nm z=>by subst z;rw[q]at mu;exact nm mu
 refine⟨fun b u q n _ _=>k b u (hb b n) q,fun b u q n _ _=>⟨u.slots,k b u (hb b n) q⟩,fun b u q n _=>by rw[g5 (hx b n)];exact n,fun b u q _=>?_,
  fun b xs q=>by rw[g5 (hm b _ q fun z=>z)];exact q,fun b u xs q=>by rw[g5 (hm b _ q fun z=>z)];exact q,fun b ps q=>⟨#[],by rw[g5 (hm b _ q fun z=>z),q];simp⟩⟩
 by_cases hbe:b=e
 ·subst hbe;exact heo
 ·exact⟨u,k b u hbe q⟩
theorem Un.mono(u:Un fs ex H H1 h h1)(hs:∀ b∈fs,b∈fs')(hx:∀ b∈ex,b∈ex'):Un fs' ex' H H1 h h1 :=
 ⟨fun b ob q n hb he=>u.keep b ob q n (fun z=>hb (hs b z)) fun z=>he (hx b z),fun _ _ q n _ he=>u.any q n fun z=>he (hx _ z),fun b ob q n he=>u.free b ob q n fun z=>he (hx b z),fun b ob q he=>u.there b ob q fun z=>he (hx b z),u.tups,u.frzs,u.tbls⟩
end
noncomputable def trk(h:Heap)(H:Hp):List Addr:=(NO h.objs.size).filter fun a=>(H a).isSome
noncomputable def kA(h:Heap)(H:Hp):Heap:=PySem.W.hideAll h (trk h H)
theorem tI(h:Heap)(H:Hp):(kA h H).objs.size=h.objs.size:=PySem.W.hideAll_size _ _
theorem xv{h:Heap}{H:Hp}{b:Addr}{o:Obj}(e:h.get? b=some o)(n:H b=none):(kA h H).get? b=some o :=
 PySem.W.hideAll_get _ e fun hm=>by
  have q:(H b).isSome=true:=(PH.mp hm).2
  rw[n]at q;simp at q
theorem Bb{h:Heap}{H:Hp}{b:Addr}{o:Obj}(e:(kA h H).get? b=some o):h.get? b=some o∧H b=none:=by
 have e':h.get? b=some o:=PySem.W.of_hideAll (trk h H) e
 refine⟨e',?_⟩
 cases q:H b with
 | none=>rfl
 | some x =>
  have hm:b∈trk h H:=PH.mpr ⟨Qc.mpr (MB e'),by simp[q]⟩
  have z:(kA h H).get? b=none:=PySem.W.hideAll_none (trk h H) hm
  rw[z]at e;cases e
noncomputable def dg(g h:Heap)(L:Addr):List (Addr × Obj):=(NO h.objs.size).filterMap fun a=>if a=L∨(g.get? a).isSome=true then none else(h.get? a).map fun o=>(a,o)
theorem T9{g h:Heap}{L a:Addr}{o:Obj}(h1:a≠L)(h2:g.get? a=none)(h3:h.get? a=some o):(a,o)∈dg g h L :=
 Oz.mpr ⟨a,Qc.mpr (MB h3),by simp[h1,h2,h3]⟩
theorem eG{g h:Heap}{L:Addr}{p:Addr × Obj}(hp:p∈dg g h L):p.1≠L∧g.get? p.1=none∧h.get? p.1=some p.2:=by
 obtain⟨b,_,e⟩:=Oz.mp hp
 split at e
 ·cases e
 ·rename_i hn
  cases q:h.get? b with
  | none=>rw[q]at e;simp at e
  | some u =>
   rw[q]at e
   simp only[Option.map_some,Option.some.injEq]at e
   subst e
   refine⟨fun z=>hn (.inl z),?_,q⟩
   show g.get? b=none
   cases r:g.get? b with
   | none=>rfl
   | some v=>exact(hn (.inr (by simp[r]))).elim
noncomputable def G0(g h:Heap)(L d:Addr):List (Addr × Obj):=(dg g h L).filter fun p=>decide (p.1≠d)
theorem wW{g h:Heap}{L:Addr}:News g L h (dg g h L):=fun p hp=>let ⟨a,b,c⟩:=eG hp;⟨c,a,b⟩
structure Mod(K:Ms)(mg:Str→Option Value)(base:Heap):Prop where
 kin:K.In base
 glob:base.Ns mainGlobals mg
 blt:∃ mb,base.Ns builtinsNs mb∧∀ x:Str,x ≠ "__name__" → mb x=bootBuiltins x
 nolimit:base.NoLimit
structure Cx where
 prog:Program
 w:World
 K:Ms
 mg:Str→Option Value
 base:Heap
 A:Around
 N:List Str
 s₀:Shared
 H₀:Hp
 env:Env
 outer:List Env
 stack:List Env
 ex:List Addr
 fn:Str→Bool
 calm:Bool
 pn:List (Addr × Obj)
 xe:Value→Shared→Prop
noncomputable def frs(l:List Env):List Addr:=l.filterMap (·.frame)
noncomputable abbrev Cx.fs(X:Cx):List Addr:=frs X.outer
def Vis(sc:Scope)(x:Str):Prop:=sc.names.lookup x=some .local∨sc.names.lookup x=some .cell∨sc.names.lookup x=some .free
def Loc(sc:Scope)(x:Str):Prop:=sc.names.lookup x=some .local∨sc.names.lookup x=some .cell
def Jt(env:Env)(h:Heap)(m:Str→Option Value)(x:Str)(u:Value):Prop :=
 (env.kindOf x=some .local∧m x=some u)∨((env.kindOf x=some .cell∨env.kindOf x=some .free)∧∃ c,env.cells.lookup x=some c∧h.IsCell c (some u))
structure Cx.Ok(X:Cx):Prop where
 mod:Mod X.K X.mg X.base
 kind:X.env.scope.kind = .function
 glob:X.env.globals=mainGlobals
 blt:X.env.builtins=builtinsNs
 above:X.s₀.heap.objs.size≤X.env.locals
 inj:∀ x y c,X.env.cells.lookup x=some c→X.env.cells.lookup y=some c→x=y
 has:∀ x,(X.env.kindOf x=some .cell∨X.env.kindOf x=some .free)→∃ c,X.env.cells.lookup x=some c
 cab:∀ x c,X.fn x=true→X.env.cells.lookup x=some c→X.s₀.heap.objs.size≤c
 hd:X.calm=true→X.A.handled=none
 frames:X.A.frames=some X.stack
 stk:X.stack=X.outer∨(X.stack=X.env :: X.outer∧X.env.frame=some X.env.locals)
 exf:∀ b∈X.ex,b≠X.env.locals∧∀ x c,X.env.cells.lookup x=some c→c≠b
 bs:∀ b o,X.base.get? b=some o→X.s₀.heap.get? b=some o∧X.H₀ b=none
 bsz:X.base.objs.size≤X.s₀.heap.objs.size
 noex:∀ b o,X.base.get? b=some o→b∉X.ex
 exfs:∀ b∈X.ex,b∉X.fs
 funs:X.s₀.heap.FunFrames X.base X.outer
 frf:∀ b∈X.fs,X.H₀ b=none
structure Inv(X:Cx)(pins:List (Addr × Obj))(σ:List (Option V))(H:Hp)(s:Shared):Prop where
 ok:X.Ok
 os:s.os=X.s₀.os
 bare:AllBare s.gens
 base:Un X.fs X.ex X.H₀ H X.s₀.heap s.heap
 loc:∃ m,s.heap.Ns X.env.locals m∧∀(i:Nat) (x:Str) (v:V),X.N[i]? = some x→σ[i]? = some (some v)→Vis X.env.scope x→∃ u,p7 v u∧Jt X.env s.heap m x u
 cell:∀ x c,X.env.cells.lookup x=some c→∃ v,s.heap.IsCell c v
 free:H X.env.locals=none
 freeC:∀ x c,X.env.cells.lookup x=some c→H c=none
 pin:∀ p∈X.pn++pins,s.heap.get? p.1=some p.2∧H p.1=none∧p.1≠X.env.locals∧p.1∉X.fs∧∀ v,p.2.data ≠ .cell v
 hok:HOk X.prog X.w H s.heap
 len:σ.length=X.N.length
section
variable {X:Cx} {pins:List (Addr × Obj)} {σ:List (Option V)} {H H':Hp} {s:Shared} {h':Heap}
theorem Cx.Ok.nofr(ok:X.Ok){b:Addr}{o:Obj}(e:X.base.get? b=some o):b∉X.fs:=fun hb=>by
 have:=(ok.funs.mem hb).1
 rw[e]at this;cases this
theorem Inv.bs(I:Inv X pins σ H s):∀ b o,X.base.get? b=some o→s.heap.get? b=some o∧H b=none:=fun b o e =>
 ⟨I.base.keep b o (I.ok.bs b o e).1 (I.ok.bs b o e).2 (I.ok.nofr e) (I.ok.noex b o e),I.base.free b o (I.ok.bs b o e).1 (I.ok.bs b o e).2 (I.ok.noex b o e)⟩
theorem Inv.bk(I:Inv X pins σ H s):∀ b o,X.base.get? b=some o→s.heap.get? b=some o:=fun b o e=>(I.bs b o e).1
theorem Inv.mod(I:Inv X pins σ H s):Mod X.K X.mg X.base:=I.ok.mod
theorem Inv.kIn(I:Inv X pins σ H s):X.K.In s.heap:=I.ok.mod.kin.keeps I.bk
theorem Inv.nolimit(I:Inv X pins σ H s):s.heap.NoLimit:=I.ok.mod.nolimit.keeps I.bk
theorem Inv.fr(I:Inv X pins σ H s):∃ m,Fr X.base X.env.locals s.heap m :=
 let ⟨m,hn,_⟩:=I.loc
 ⟨m,hn,I.bk,ME I.ok.bsz I.ok.above⟩
theorem Inv.lt(I:Inv X pins σ H s):X.env.locals<s.heap.objs.size:=let ⟨_,hn,_⟩:=I.loc;hn.lt
theorem Inv.sz(I:Inv X pins σ H s):X.s₀.heap.objs.size≤s.heap.objs.size:=ME I.ok.above (NC I.lt)
theorem Inv.nofs(I:Inv X pins σ H s){a:Addr}(h:s.heap.objs.size≤a):a∉X.fs:=fun hb=>by
 obtain⟨_,o,ho,_⟩:=I.ok.funs.mem hb
 exact absurd (Mt (MB ho) (ME I.sz h)) (NP _)
theorem Inv.cne(I:Inv X pins σ H s):∀ x c,X.env.cells.lookup x=some c→c≠X.env.locals:=fun x c e z=>by
 obtain⟨v,o,ho,hd⟩:=I.cell x c e
 obtain⟨m,⟨o',es,ep,ho',hd',_⟩,_⟩:=I.loc
 rw[z,ho']at ho;cases ho;rw[hd']at hd;cases hd
theorem Inv.funs(I:Inv X pins σ H s):s.heap.FunFrames X.base X.outer:=by
 have all:∀(l:List Env),(∀ b∈frs l,b∈X.fs)→X.s₀.heap.FunFrames X.base l→s.heap.FunFrames X.base l:=by
  intro l
  induction l with
  | nil=>intro _ _;trivial
  | cons env r ih =>
   intro hs hl
   obtain⟨hk,⟨L,o,hf,hn,ho,hd⟩,hr⟩:=hl
   have hL:L∈X.fs:=hs L (by unfold frs;rw[OU,hf];exact Mz)
   obtain⟨sl,e⟩:=I.base.slot L o ho (I.ok.frf L hL) hL fun z=>I.ok.exfs L z hL
   exact⟨hk,⟨L,_,hf,hn,e,hd⟩,ih (fun b hb=>hs b (by unfold frs;rw[OU,hf];exact Mx _ hb)) hr⟩
 exact all X.outer (fun _ hb=>hb) I.ok.funs
theorem Inv.stack(I:Inv X pins σ H s):s.heap.FunFrames X.base X.stack:=by
 rcases I.ok.stk with e|⟨e,hf⟩
 ·rw[e];exact I.funs
 ·rw[e]
  obtain⟨m,hn,_⟩:=I.loc
  refine .cons (by rw[I.ok.kind];decide) hf hn ?_ I.funs
  exact Heap.get?_none_of_le (ME I.ok.bsz I.ok.above)
theorem Inv.stkSub(I:Inv X pins σ H s):∀ b∈frs X.stack,b∈X.env.locals :: X.fs:=fun b hb=>by
 rcases I.ok.stk with e|⟨e,hf⟩
 ·rw[e]at hb;exact Mx _ hb
 ·rw[e]at hb
  unfold frs at hb
  rw[OU,hf]at hb
  exact hb
theorem Inv.stkFree(I:Inv X pins σ H s):∀ b∈frs X.stack,H b=none:=fun b hb=>by
 rcases Mv.mp (I.stkSub b hb)with e|hb
 ·rw[e];exact I.free
 ·obtain⟨_,o,ho,_⟩:=I.ok.funs.mem hb
  exact I.base.free b o ho (I.ok.frf b hb) fun z=>I.ok.exfs b z hb
theorem Inv.step{g':Array GenState}{t':Nat}{d':Drawn}{ch:List Addr}(I:Inv X pins σ H s)
  (hch:∀ b∈ch,(b∈X.ex∨X.s₀.heap.objs.size≤b)∧b≠X.env.locals∧(∀ x c,X.env.cells.lookup x=some c→c≠b)∧∀ p∈X.pn++pins,p.1≠b)
  (keep:∀ b o,b≠X.env.locals→b∉X.fs→b∉ch→s.heap.get? b=some o→H b=none→h'.get? b=some o)
  (slot:∀ b o,b≠X.env.locals→b∈X.fs→b∉ch→s.heap.get? b=some o→H b=none→∃ sl,h'.get? b=some { o with slots:=sl }) (free:∀ b o,b∉ch→s.heap.get? b=some o→H b=none→H' b=none)
  (there:∀ b o,b∉ch→s.heap.get? b=some o→∃ o',h'.get? b=some o')
  (tups:∀ b xs,H b=some (.tup xs)→H' b=some (.tup xs)) (frzs:∀ b o u,H b=some (.frz o u)→H' b=some (.frz o u)) (tbls:∀ b ps,H b=some (.tbl ps)→∃ more,H' b=some (.tbl (ps++more)))
  (ns:∀ m,s.heap.Ns X.env.locals m→h'.Ns X.env.locals m) (hok:HOk X.prog X.w H' h') (hg:AllBare g') :
  Inv X pins σ H' { s with heap:=h',gens:=g',drawn:=d',toks:=t' }:=by
 have neL:∀ b o,X.s₀.heap.get? b=some o→b≠X.env.locals:=fun b o e=>MN (Mt (MB e) I.ok.above)
 have neC:∀ b o,X.s₀.heap.get? b=some o→b∉X.ex→b∉ch:=fun b o e hx hb=>by
  rcases(hch b hb).1 with z|z
  ·exact hx z
  ·exact absurd (Mt (MB e) z) (NP _)
 have cellK:∀ x c,X.env.cells.lookup x=some c→∀ v,s.heap.IsCell c v→h'.IsCell c v:=fun x c e v zz=>by
  obtain⟨o,ho,hd⟩:=zz
  have nch:c∉ch:=fun z=>(hch c z).2.2.1 x c e rfl
  by_cases hc:c∈X.fs
  ·obtain⟨sl,q⟩:=slot c o (I.cne x c e) hc nch ho (I.freeC x c e)
   exact⟨_,q,hd⟩
  ·exact⟨o,keep c o (I.cne x c e) hc nch ho (I.freeC x c e),hd⟩
 refine⟨I.ok,I.os,hg,⟨fun b o e n hb hx=>?_,fun b o e n hb hx=>?_,fun b o e n hx=>?_,fun b o e hx=>?_,fun b xs e=>tups b xs (I.base.tups b xs e),fun b o xs e=>frzs b o xs (I.base.frzs b o xs e),fun b ps e=>?_⟩,?_,fun x c e=>?_,?_,fun x c e=>?_,fun p hp=>?_,hok,I.len⟩
 ·exact keep b o (neL b o e) hb (neC b o e hx) (I.base.keep b o e n hb hx) (I.base.free b o e n hx)
 ·obtain⟨sl,e1⟩:=I.base.slot b o e n hb hx
  obtain⟨sl',e2⟩:=slot b _ (neL b o e) hb (neC b o e hx) e1 (I.base.free b o e n hx)
  exact⟨sl',e2⟩
 ·obtain⟨o',e1⟩:=I.base.there b o e hx
  exact free b o' (neC b o e hx) e1 (I.base.free b o e n hx)
 ·obtain⟨o',e1⟩:=I.base.there b o e hx
  exact there b o' (neC b o e hx) e1
 ·obtain⟨m1,e1⟩:=I.base.tbls b ps e
  obtain⟨m2,e2⟩:=tbls b _ e1
  exact⟨m1++m2,by rw[e2,Array.append_assoc]⟩
 ·obtain⟨m,hn,hl⟩:=I.loc
  refine⟨m,ns m hn,fun i x v e1 e2 e3=>?_⟩
  obtain⟨u,r,l⟩:=hl i x v e1 e2 e3
  refine⟨u,r,?_⟩
  rcases l with l|⟨k,c,e,z⟩
  ·exact .inl l
  ·exact .inr ⟨k,c,e,cellK x c e _ z⟩
 ·obtain⟨v,z⟩:=I.cell x c e
  exact⟨v,cellK x c e v z⟩
 ·obtain⟨m,⟨o,_,_,ho,_⟩,_⟩:=I.loc
  exact free _ o (fun z=>(hch _ z).2.1 rfl) ho I.free
 ·obtain⟨v,o,ho,hd⟩:=I.cell x c e
  exact free c o (fun z=>(hch c z).2.2.1 x c e rfl) ho (I.freeC x c e)
 ·obtain⟨e,n,ne,nf,d⟩:=I.pin p hp
  have nch:p.1∉ch:=fun z=>(hch p.1 z).2.2.2 p hp rfl
  exact⟨keep p.1 p.2 ne nf nch e n,free p.1 p.2 nch e n,ne,nf,d⟩
theorem Inv.un{t':Nat}(I:Inv X pins σ H s)(u:Un X.fs [] H H' s.heap h')(hok:HOk X.prog X.w H' h'):Inv X pins σ H' { s with heap:=h',toks:=t' }:=by
 obtain⟨m,⟨o,es,ep,ho,r⟩,_⟩:=id I.loc
 obtain⟨sl,hL⟩:=u.any ho I.free (by simp)
 exact I.step (g':=s.gens) (d':=s.drawn) (ch:=[]) (fun _ z=>nomatch z) (fun b o _ hb _ e n=>u.keep b o e n hb (by simp)) (fun b o _ hb _ e n=>u.slot b o e n hb (by simp)) (fun b o _ e n=>u.free b o e n (by simp)) (fun b o _ e=>u.there b o e (by simp)) u.tups u.frzs u.tbls (fun m' hm=>by
  obtain⟨o',es',ep',ho',r'⟩:=hm
  rw[ho]at ho';cases ho'
  exact⟨_,es',ep',hL,r'⟩) hok I.bare
theorem Inv.call{g':Array GenState}{t':Nat}{d':Drawn}{ch:List Addr}(I:Inv X pins σ H s)(u:Un (frs X.stack) ch H H' s.heap h')(hok:HOk X.prog X.w H' h')(hg:AllBare g')
  (hch:∀ b∈ch,(b∈X.ex∨X.s₀.heap.objs.size≤b)∧b≠X.env.locals∧(∀ x c,X.env.cells.lookup x=some c→c≠b)∧∀ p∈X.pn++pins,p.1≠b) :
  Inv X pins σ H' { s with heap:=h',gens:=g',drawn:=d',toks:=t' }:=by
 obtain⟨m,⟨o,es,ep,ho,r⟩,_⟩:=id I.loc
 obtain⟨sl,hL⟩:=u.any ho I.free fun z=>(hch _ z).2.1 rfl
 exact I.step (ch:=ch) hch (fun b o hL hb hc e n=>u.keep b o e n (fun z=>(Mv.mp (I.stkSub b z)).elim hL hb) hc) (fun b o _ _ hc e n=>u.any e n hc) (fun b o hc e n=>u.free b o e n hc) (fun b o hc e=>u.there b o e hc) u.tups u.frzs u.tbls (fun m' hm=>by
  obtain⟨o',es',ep',ho',r'⟩:=hm
  rw[ho]at ho';cases ho'
  exact⟨_,es',ep',hL,r'⟩) hok hg
theorem Inv.turned{t':Nat}{it:Addr}(I:Inv X pins σ H s)(k:∀ b o,b≠it→s.heap.get? b=some o→h'.get? b=some o)(hn:H it=none)(hL:it≠X.env.locals)
  (h1:it∈X.ex∨X.s₀.heap.objs.size≤it) (h2:∀ x c,X.env.cells.lookup x=some c→c≠it) (h3:∀ p∈X.pn++pins,p.1≠it):Inv X pins σ H { s with heap:=h',toks:=t' }:=by
 have nit:∀ b u,H b=some u→b≠it:=fun b u e z=>by rw[z,hn]at e;cases e
 refine I.step (g':=s.gens) (d':=s.drawn) (ch:=[it]) (fun b hb=>?_) (fun b o _ _ hc e _=>k b o (fun z=>hc (by simp[z])) e) (fun b o _ _ hc e _=>⟨o.slots,k b o (fun z=>hc (by simp[z])) e⟩) (fun _ _ _ _ n=>n)
  (fun b o hc e=>⟨o,k b o (fun z=>hc (by simp[z])) e⟩) (fun _ _ e=>e) (fun _ _ _ e=>e) (fun b ps e=>⟨#[],by rw[e];simp⟩) (fun m hm=>?_) (fun b u e=>?_) I.bare
 ·have e:b=it:=by simpa using hb
  subst e
  exact⟨h1,hL,h2,h3⟩
 ·obtain⟨o,es,ep,ho,r⟩:=hm
  exact⟨o,es,ep,k _ o (Ne.symm hL) ho,r⟩
 ·refine(I.hok b u e).stay (fun c v hc q=>k c v ?_ q) (fun _ q=>q) fun _ _ q=>q
  rcases hc with z|z
  ·rw[z];exact nit b u e
  ·exact nit c _ z
theorem Inv.tok(I:Inv X pins σ H s)(t:Nat):Inv X pins σ H { s with toks:=t }:=I.un (h':=s.heap) (t':=t) Un.refl I.hok
theorem Inv.kept{t':Nat}(I:Inv X pins σ H s)(k:∀ b u,s.heap.get? b=some u→h'.get? b=some u):Inv X pins σ H { s with heap:=h',toks:=t' }:=I.un (Un.kept k) (I.hok.kept k)
theorem Inv.laid{a:Addr}{o:HO}{t':Nat}(I:Inv X pins σ H s)(k:∀ b u,s.heap.get? b=some u→h'.get? b=some u)(hp:s.heap.objs.size≤a)(new:B0 X.prog X.w (upd H a o) h' a o) :
  Inv X pins σ (upd H a o) { s with heap:=h',toks:=t' }:=I.un (Un.laid k hp (I.hok.fresh hp)) (I.hok.laid k hp new)
theorem Inv.write{x e:Addr}{o:HO}{t':Nat}(I:Inv X pins σ H s)(mu:Mut (H x))(he:e=x∨H e=some (.own x))(k:∀ b u,b≠e→s.heap.get? b=some u→h'.get? b=some u)(heo:∃ u,h'.get? e=some u)
  (new:B0 X.prog X.w (upd H x o) h' x o):Inv X pins σ (upd H x o) { s with heap:=h',toks:=t' }:=I.un (Un.write mu he k heo) (I.hok.write mu he k heo new)
theorem Inv.pins_of{pins':List (Addr × Obj)}(I:Inv X pins σ H s)(h:∀ p∈pins',s.heap.get? p.1=some p.2∧H p.1=none∧p.1≠X.env.locals∧p.1∉X.fs∧∀ v,p.2.data ≠ .cell v):Inv X pins' σ H s :=
 ⟨I.ok,I.os,I.bare,I.base,I.loc,I.cell,I.free,I.freeC,fun p hp=>(MX.mp hp).elim (fun z=>I.pin p (NB _ z)) (h p),I.hok,I.len⟩
theorem nk{N:List Str}(hN:N.Nodup){i j:Nat}{x:Str}(a:N[i]? = some x)(b:N[j]? = some x):i=j:=by
 obtain⟨h1,e1⟩:=MH.mp a
 obtain⟨h2,e2⟩:=MH.mp b
 exact(List.getElem_inj hN).mp (e1.trans e2.symm)
theorem gW{M:Model}{A:Around}{E:Value→Shared→Prop}{i:Nat}{x:Str}{v:V}{u:Value}{Q:Unit→Shared→Prop}(I:Inv X pins σ H s)(hN:X.N.Nodup)(hi:X.N[i]? = some x)(hx:Loc X.env.scope x)(r:p7 v u)
  (h:∀ s',Inv X pins (σ.set i (some v)) H s'→(∃ a,Heap.SameBut a s.heap s'.heap∧(a=X.env.locals∨X.env.cells.lookup x=some a))→Q () s') (hf:X.fn x=true∨X.env.scope.names.lookup x=some .local:=by first|exact .inl rfl|exact .inr rfl|assumption):wpAny M A (storeName X.env x u) Q E s:=by
 obtain⟨m,hn,hl⟩:=id I.loc
 have hcls:(X.env.scope.kind == .class || (X.env.scope.kind == .module && X.env.locals != X.env.globals))=false:=by rw[I.ok.kind];rfl
 have hiσ:i<σ.length:=by rw[I.len];exact(MH.mp hi).1
 have cne:=I.cne
 have tracked:∀{a:Addr} {h':Heap},(∃ o,s.heap.get? a=some o∧H a=none)→Heap.SameBut a s.heap h'→HOk X.prog X.w H h':=fun{a h'} ha hs b ob e=>by
  obtain⟨_,_,hfree⟩:=ha
  refine(I.hok b ob e).stay (fun c w' hc q=>(hs.2 c ?_).trans q) (fun _ q=>q) fun _ _ q=>q
  rintro rfl
  rcases hc with rfl|hc
  ·rw[hfree]at e;cases e
  ·rw[hfree]at hc;cases hc
 rcases hx with hk|hk
 ·refine wpAny_storeName_local hk hn (fun h' hn' hs=>?_) hcls
  obtain⟨oL,_,_,hoL,_⟩:=id hn
  refine h _ ⟨I.ok,I.os,I.bare,⟨fun b o e n hb hx=>?_,fun b o e n hb hx=>?_,I.base.free,fun b o e hx=>?_,I.base.tups,I.base.frzs,I.base.tbls⟩,⟨_,hn',fun j y v' e1 e2 e3=>?_⟩,fun y c e=>?_,I.free,I.freeC,fun p hp=>?_,tracked ⟨oL,hoL,I.free⟩ hs,by simpa using I.len⟩ ⟨_,hs,.inl rfl⟩
  ·exact(hs.2 b (MN (Mt (MB e) I.ok.above))).trans (I.base.keep b o e n hb hx)
  ·obtain⟨sl,e1⟩:=I.base.slot b o e n hb hx
   exact⟨sl,(hs.2 b (MN (Mt (MB e) I.ok.above))).trans e1⟩
  ·obtain⟨o',e1⟩:=I.base.there b o e hx
   exact⟨o',(hs.2 b (MN (Mt (MB e) I.ok.above))).trans e1⟩
  ·by_cases hj:j=i
   ·subst hj
    rw[hi]at e1;cases e1
    rw[PB hiσ]at e2
    cases e2
    exact⟨u,r,.inl ⟨hk,by simp⟩⟩
   ·rw[PX (Ne.symm hj)]at e2
    obtain⟨u',r',q⟩:=hl j y v' e1 e2 e3
    refine⟨u',r',?_⟩
    rcases q with⟨k,e⟩|⟨k,c,e,z⟩
    ·refine .inl ⟨k,?_⟩
     have:y≠x:=fun e=>hj (nk hN e1 (e▸hi))
     simp[this,e]
    ·exact .inr ⟨k,c,e,z.sameBut hs (cne y c e)⟩
  ·obtain⟨w',z⟩:=I.cell y c e
   exact⟨w',z.sameBut hs (cne y c e)⟩
  ·obtain⟨e,n,ne,nf,d⟩:=I.pin p hp
   exact⟨(hs.2 p.1 ne).trans e,n,ne,nf,d⟩
 ·have hfn:X.fn x=true:=by
   rcases hf with z|z
   ·exact z
   ·rw[z]at hk;cases hk
  obtain⟨c,hc⟩:=I.ok.has x (.inl hk)
  obtain⟨w',z⟩:=I.cell x c hc
  refine wpAny_storeName_cell I.ok.kind hk hc z (fun h' hc' hs=>?_)
  obtain⟨oc,hoc,hocd⟩:=id z
  refine h { s with heap:=h' } ⟨I.ok,I.os,I.bare,⟨fun b o e n hb hx=>?_,fun b o e n hb hx=>?_,I.base.free,fun b o e hx=>?_,I.base.tups,I.base.frzs,I.base.tbls⟩,⟨m,hn.sameBut hs (Ne.symm (cne x c hc)),fun j y v' e1 e2 e3=>?_⟩,fun y c' e=>?_,I.free,I.freeC,fun p hp=>?_,tracked ⟨oc,hoc,I.freeC x c hc⟩ hs,by simpa using I.len⟩ ⟨c,hs,.inr hc⟩
  ·exact(hs.2 b (MN (Mt (MB e) (I.ok.cab x c hfn hc)))).trans (I.base.keep b o e n hb hx)
  ·obtain⟨sl,e1⟩:=I.base.slot b o e n hb hx
   exact⟨sl,(hs.2 b (MN (Mt (MB e) (I.ok.cab x c hfn hc)))).trans e1⟩
  ·obtain⟨o',e1⟩:=I.base.there b o e hx
   exact⟨o',(hs.2 b (MN (Mt (MB e) (I.ok.cab x c hfn hc)))).trans e1⟩
  ·by_cases hj:j=i
   ·subst hj
    rw[hi]at e1;cases e1
    rw[PB hiσ]at e2
    cases e2
    exact⟨u,r,.inr ⟨.inl hk,c,hc,hc'⟩⟩
   ·rw[PX (Ne.symm hj)]at e2
    obtain⟨u',r',q⟩:=hl j y v' e1 e2 e3
    refine⟨u',r',?_⟩
    rcases q with q|⟨k,c',e,z'⟩
    ·exact .inl q
    ·refine .inr ⟨k,c',e,z'.sameBut hs ?_⟩
     rintro rfl
     exact hj (nk hN e1 (I.ok.inj _ _ _ e hc▸hi))
  ·by_cases hcc:c'=c
   ·subst hcc;exact⟨_,hc'⟩
   ·obtain⟨w2,z2⟩:=I.cell y c' e
    exact⟨w2,z2.sameBut hs hcc⟩
  ·obtain⟨e,n,ne,nf,d⟩:=I.pin p hp
   refine⟨(hs.2 p.1 ?_).trans e,n,ne,nf,d⟩
   intro q
   rw[q,hoc]at e
   have q':oc=p.2:=Option.some.inj e
   exact d w' (by rw[← q'];exact hocd)
theorem ao{M:Model}{A:Around}{E:Value→Shared→Prop}{i:Nat}{x:Str}{v:V}{u:Value}{Q:Unit→Shared→Prop}(I:Inv X pins σ H s)(hN:X.N.Nodup)(hi:X.N[i]? = some x)(hx:Loc X.env.scope x)(r:p7 v u)
  (h:∀ s',Inv X pins (σ.set i (some v)) H s'→Q () s') (hf:X.fn x=true∨X.env.scope.names.lookup x=some .local:=by first|exact .inl rfl|exact .inr rfl|assumption):wpAny M A (storeName X.env x u) Q E s :=
 gW I hN hi hx r (fun s' I' _=>h s' I') hf
theorem Inv.call'{s':Shared}{ch:List Addr}(I:Inv X pins σ H s)(ho:s'.os=s.os)(u:Un (frs X.stack) ch H H' s.heap s'.heap)(hok:HOk X.prog X.w H' s'.heap)(hg:AllBare s'.gens)
  (hch:∀ b∈ch,(b∈X.ex∨X.s₀.heap.objs.size≤b)∧b≠X.env.locals∧(∀ x c,X.env.cells.lookup x=some c→c≠b)∧∀ p∈X.pn++pins,p.1≠b):Inv X pins σ H' s':=by
 obtain⟨h',g',d',t',o'⟩:=s'
 have e:o'=s.os:=ho
 subst e
 exact I.call (g':=g') (t':=t') (d':=d') u hok hg hch
end
noncomputable abbrev XK:=Value→Option Addr→Hp→Prop
noncomputable abbrev St:=List (Option V)
noncomputable abbrev VK:=V→Hp→Prop
noncomputable abbrev TE:=St→Hp→VK→Prop
noncomputable abbrev TT:=St→Hp→(Bool→Hp→Prop)→Prop
noncomputable abbrev TA:=St→Hp→(List V→Hp→Prop)→Prop
structure og where
 nx:St→Hp→Prop
 rt:VK
 bk:St→Hp→Prop:=fun _ _=>False
 ct:St→Hp→Prop:=fun _ _=>False
noncomputable abbrev TS:=og→St→Hp→Prop
def EP(X:Cx)(pins:List (Addr × Obj))(σ:St)(Q:VK)(u:Value)(s':Shared):Prop:=∃ v H',Inv X pins σ H' s'∧p7 v u∧Q v H'
def TP(X:Cx)(pins:List (Addr × Obj))(σ:St)(Q:Bool→Hp→Prop)(b:Bool)(s':Shared):Prop:=∃ H',Inv X pins σ H' s'∧Q b H'
def AP(X:Cx)(pins:List (Addr × Obj))(σ:St)(Q:List V→Hp→Prop)(us:List Value)(s':Shared):Prop:=∃ vs H',Inv X pins σ H' s'∧j6 vs us∧Q vs H'
def SP(X:Cx)(pins:List (Addr × Obj))(D:og)(f:Flow)(s':Shared):Prop :=
 match f with
 | .next=>∃ σ' H',Inv X pins σ' H' s'∧D.nx σ' H'
 | .brk=>∃ σ' H',Inv X pins σ' H' s'∧D.bk σ' H'
 | .cont=>∃ σ' H',Inv X pins σ' H' s'∧D.ct σ' H'
 | .ret u=>∃ v σ' H',Inv X pins σ' H' s'∧p7 v u∧D.rt v H'
def PE(X:Cx)(e:Expr)(t:TE):Prop :=
 ∀(pins:List (Addr × Obj)) (s:Shared) (σ:St) (H:Hp) (Q:VK),Inv X pins σ H s→t σ H Q→wpAny (model X.prog X.w) X.A (eval e X.env) (EP X pins σ Q) X.xe s
def PT(X:Cx)(e:Expr)(t:TT):Prop :=
 ∀(pins:List (Addr × Obj)) (s:Shared) (σ:St) (H:Hp) (Q:Bool→Hp→Prop),Inv X pins σ H s→t σ H Q→wpAny (model X.prog X.w) X.A (isTrue e X.env (eval e X.env)) (TP X pins σ Q) X.xe s
def PW(X:Cx)(e:Expr)(t:TT):Prop :=
 ∀(whole:Sem Value) (pins:List (Addr × Obj)) (s:Shared) (σ:St) (H:Hp) (Q:Bool→Hp→Prop),Inv X pins σ H s→t σ H Q→wpAny (model X.prog X.w) X.A (isTrue e X.env whole) (TP X pins σ Q) X.xe s
theorem PW.pt{X:Cx}{e:Expr}{t:TT}(h:PW X e t):PT X e t:=h _
def PA(X:Cx)(es:List Expr)(t:TA):Prop :=
 ∀(pos:Pos) (pins:List (Addr × Obj)) (s:Shared) (σ:St) (H:Hp) (Q:List V→Hp→Prop),Inv X pins σ H s→t σ H Q→wpAny (model X.prog X.w) X.A (spliced (backTo pos (starEach es X.env))) (AP X pins σ Q) X.xe s
def PS(X:Cx)(st:Stmt)(t:TS):Prop :=
 ∀(pins:List (Addr × Obj)) (s:Shared) (σ:St) (H:Hp) (D:og),Inv X pins σ H s→t D σ H→wpAny (model X.prog X.w) X.A (exec st X.env) (SP X pins D) X.xe s
def PSs(X:Cx)(st:List Stmt)(t:TS):Prop :=
 ∀(pins:List (Addr × Obj)) (s:Shared) (σ:St) (H:Hp) (D:og),Inv X pins σ H s→t D σ H→wpAny (model X.prog X.w) X.A (execs st X.env) (SP X pins D) X.xe s
theorem thn{α:Type}{t:Sem α}{Q Q':α→Shared→Prop}{M:Model}{A:Around}{E:Value→Shared→Prop}{s:Shared}(h:wpAny M A t Q E s)(hQ:∀ a s,Q a s→Q' a s):wpAny M A t Q' E s:=wpAny_mono h hQ fun _ _ x=>x
section
variable {X:Cx}
def GD(i:Nat):TE:=fun σ H Q=>∃ v,σ[i]? = some (some v)∧Q v H
def tC(v:V):TE:=fun _ H Q=>Q v H
theorem wA{i:Nat}{x:Str}{pos:Pos}(hN:X.N[i]? = some x)(hv:Vis X.env.scope x)(hd:(x == ("__debug__" : Str))=false:=by decide)(hcd:(x == ("__classdict__" : Str))=false:=by decide):PE X (.Name x pos) (GD i):=by
 intro pins s σ H Q I h
 obtain⟨v,e,h⟩:=h
 obtain⟨m,hn,hl⟩:=I.loc
 obtain⟨u,r,l⟩:=hl i x v hN e hv
 have fin:EP X pins σ Q u s:=⟨v,H,I,r,h⟩
 rcases l with⟨hk,hm⟩|⟨hk,c,hc,hcell⟩
 ·exact wpAny_Name (wpAny_loadName_local I.ok.kind hk hn hm fin) hd
 ·rcases hk with hk|hk
  ·exact wpAny_Name (wpAny_loadName_cell I.ok.kind hk hc hcell fin) hd
  ·exact wpAny_Name (wpAny_loadName_free I.ok.kind hk hc hcell fin hcd) hd
theorem EJ{i j pos}:PE X (.Constant (.int i) j pos) (tC (.int i)):=fun _ _ _ H _ I h=>wpAny_Constant_int ⟨.int i,H,I.tok _,⟨_,rfl⟩,h⟩
theorem Hf{b j pos}:PE X (.Constant (.bool b) j pos) (tC (.bl b)):=fun _ _ _ H _ I h=>Constant_bool ⟨.bl b,H,I,rfl,h⟩
theorem EI{j pos}:PE X (.Constant .none j pos) (tC .non):=fun _ _ _ H _ I h=>Constant_none ⟨.non,H,I,rfl,h⟩
theorem EF{x j pos}:PE X (.Constant (.str x) j pos) (tC (.str x)):=fun _ _ _ H _ I h=>Calls.Constant_str ⟨.str x,H,I.tok _,⟨_,rfl⟩,h⟩
def Gl(X:Cx)(x:Str):Prop:=X.env.kindOf x=some .globalImplicit
theorem rE{E:Value→Shared→Prop}{pins:List (Addr × Obj)}{s:Shared}{σ:St}{H:Hp}{x:Str}{u:Value}{pos:Pos}{Q:Value→Shared→Prop}(I:Inv X pins σ H s)(hg:Gl X x)(hm:X.mg x=some u)(h:Q u s)
  (hd:(x == ("__debug__" : Str))=false:=by decide):wpAny (model X.prog X.w) X.A (eval (.Name x pos) X.env) Q E s :=
 Calls.Name_function_global I.ok.kind hg (Calls.loadGlobal_global (by rw[I.ok.glob];exact I.mod.glob.keeps I.bk) hm h) hd
theorem N0{E:Value→Shared→Prop}{pins:List (Addr × Obj)}{s:Shared}{σ:St}{H:Hp}{x:Str}{u:Value}{pos:Pos}{Q:Value→Shared→Prop}(I:Inv X pins σ H s)(hg:Gl X x)(hm:X.mg x=none)(hv:bootBuiltins x=some u)(h:Q u s)
  (hn:x ≠ "__name__" := by decide) (hd:(x == ("__debug__" : Str))=false:=by decide):wpAny (model X.prog X.w) X.A (eval (.Name x pos) X.env) Q E s:=by
 obtain⟨mb,h1,h2⟩:=I.mod.blt
 exact Calls.Name_function_global I.ok.kind hg (Calls.loadGlobal_builtin (by rw[I.ok.glob];exact I.mod.glob.keeps I.bk) hm (by rw[I.ok.blt];exact h1.keeps I.bk) ((h2 x hn).trans hv) h) hd
theorem AI{x:Str}{v:V}{u:Value}{pos:Pos}(hg:Gl X x)(hm:X.mg x=some u)(r:p7 v u)(hd:(x == ("__debug__" : Str))=false:=by decide):PE X (.Name x pos) (tC v) :=
 fun _ _ _ H _ I h=>rE I hg hm ⟨v,H,I,r,h⟩ hd
theorem AM{x:Str}{v:V}{u:Value}{pos:Pos}(hg:Gl X x)(hm:X.mg x=none)(hv:bootBuiltins x=some u)(r:p7 v u)(hn:x ≠ "__name__" := by decide)(hd:(x == ("__debug__" : Str))=false:=by decide):PE X (.Name x pos) (tC v) :=
 fun _ _ _ H _ I h=>N0 I hg hm hv ⟨v,H,I,r,h⟩ hn hd
variable {a b:Expr} {ta tb:TE} {pos:Pos}
theorem p7.none_iff{x:V}{v:Value}(r:p7 x v):(v == Value.none)=decide (x = .non):=by
 cases x with
 | non=>cases r;rfl
 | bl _=>cases r;rfl
 | int _=>obtain⟨t,rfl⟩:=r;rfl
 | str _=>obtain⟨t,rfl⟩:=r;rfl
 | byt _=>obtain⟨t,rfl⟩:=r;rfl
 | flt _=>obtain⟨t,rfl⟩:=r;rfl
 | ref _=>cases r;rfl
 | ty _=>cases r;rfl
def tB(t:TE):TT:=fun σ H Q=>t σ H fun x H1=>∃ c,x = .bl c∧Q c H1
theorem Es{e:Expr}{t:TE}(h:PE X e t)(he:∀ whole,isTrue e X.env whole=(do let v ← whole;standAt e.pos;holding [v] (truthy v)):=by intro _;rfl):PT X e (tB t):=by
 intro pins s σ H Q I hw
 refine isTrue_plain (thn (h pins s σ H _ I hw) fun v s1 ⟨x,H1,I1,r1,q1⟩=>?_) (he _)
 obtain⟨d,rfl,q⟩:=q1
 cases r1
 exact wpAny_truthy_bool ⟨H1,I1,q⟩
variable {tA tB':TT} {G0:List Expr}
def IQ(t u:TT):TT:=fun σ H Q=>t σ H fun c H1=>if c=true then u σ H1 Q else Q false H1
def tOr(t u:TT):TT:=fun σ H Q=>t σ H fun c H1=>if c=true then Q true H1 else u σ H1 Q
def II(t:TT):TT:=fun σ H Q=>t σ H fun c H1=>Q (!c) H1
theorem As(ha:PT X a tA):PW X (.BoolOp .And [a] pos) tA:=by
 intro wh pins s σ H Q I h
 refine isTrue_and (thn (ha pins s σ H Q I h) fun c s1 e=>?_)
 cases c with
 | true=>exact isTrue_and_nil e
 | false=>exact e
theorem Eo(ha:PT X a tA):PW X (.BoolOp .Or [a] pos) tA:=by
 intro wh pins s σ H Q I h
 refine isTrue_or (thn (ha pins s σ H Q I h) fun c s1 e=>?_)
 cases c with
 | false=>exact isTrue_or_nil e
 | true=>exact e
theorem Ep(ha:PT X a tA)(hb:PW X (.BoolOp .And (b :: G0) pos) tB'):PW X (.BoolOp .And (a :: b :: G0) pos) (IQ tA tB'):=by
 intro wh pins s σ H Q I h
 refine isTrue_and (thn (ha pins s σ H _ I h) fun c s1 zz=>?_)
 obtain⟨H1,I1,q1⟩:=zz
 cases c with
 | true=>exact hb wh pins s1 σ H1 Q I1 q1
 | false=>exact⟨H1,I1,q1⟩
theorem GZ(ha:PT X a tA)(hb:PW X (.BoolOp .Or (b :: G0) pos) tB'):PW X (.BoolOp .Or (a :: b :: G0) pos) (tOr tA tB'):=by
 intro wh pins s σ H Q I h
 refine isTrue_or (thn (ha pins s σ H _ I h) fun c s1 zz=>?_)
 obtain⟨H1,I1,q1⟩:=zz
 cases c with
 | true=>exact⟨H1,I1,q1⟩
 | false=>exact hb wh pins s1 σ H1 Q I1 q1
theorem Et(ha:PT X a tA):PT X (.UnaryOp .Not a pos) (II tA):=by
 intro pins s σ H Q I h
 exact isTrue_not (ha pins s σ H (fun c H1=>Q (!c) H1) I h)
def GP(ta tb:TE):TE:=fun σ H Q=>ta σ H fun x H1=>∃ c,x = .bl c∧if c=true then tb σ H1 Q else Q (.bl false) H1
def GH(ta:TE):TE:=fun σ H Q=>ta σ H fun x H1=>∃ c,x = .bl c∧Q (.bl (!c)) H1
theorem EG{op}{t:TE}(h:PE X a t):PE X (.BoolOp op [a] pos) t:=fun pins s σ H Q I hw=>BoolOp_one (h pins s σ H Q I hw)
theorem EL(ha:PE X a ta)(hb:PE X (.BoolOp .And (b :: G0) pos) tb):PE X (.BoolOp .And (a :: b :: G0) pos) (GP ta tb):=by
 intro pins s σ H Q I h
 refine BoolOp_and (thn (ha pins s σ H _ I h) fun v s1 zz=>?_)
 obtain⟨x,H1,I1,r1,q1⟩:=zz
 obtain⟨c,rfl,q1⟩:=q1
 cases r1
 refine wpAny_truthy_bool ?_
 cases c with
 | true=>exact hb pins s1 σ H1 Q I1 q1
 | false=>exact⟨.bl false,H1,I1,rfl,q1⟩
theorem EH(ha:PE X a ta):PE X (.UnaryOp .Not a pos) (GH ta):=by
 intro pins s σ H Q I h
 refine UnaryOp_ (thn (ha pins s σ H _ I h) fun v s1 zz=>?_)
 obtain⟨x,H1,I1,r1,q1⟩:=zz
 obtain⟨c,rfl,q1⟩:=q1
 cases r1
 exact not_of (wpAny_truthy_bool ⟨.bl (!c),H1,I1,rfl,q1⟩)
def tIf(t:TT)(ta tb:TE):TE:=fun σ H Q=>t σ H fun c H1=>if c=true then ta σ H1 Q else tb σ H1 Q
theorem wC{c:Expr}(hc:PT X c tA)(ha:PE X a ta)(hb:PE X b tb):PE X (.IfExp c a b pos) (tIf tA ta tb):=by
 intro pins s σ H Q I h
 refine wpAny_IfExp (thn (hc pins s σ H _ I h) fun d s1 zz=>?_)
 obtain⟨H1,I1,q1⟩:=zz
 cases d with
 | true=>exact ha pins s1 σ H1 Q I1 q1
 | false=>exact hb pins s1 σ H1 Q I1 q1
end
def SqL(K:Ms)(H:Hp)(a:Addr)(xs:List V):Prop :=
 Rd H a (.lst xs) ∨
  ∃(o:Obj) (its:Array Value) (n:Nat),K.lookup a=some o∧o.cls = .type "list" ∧ o.dict=none∧o.data = .seq its n∧its.size≤sizeLine∧j6 xs its.toList
def SqT(K:Ms)(H:Hp)(a:Addr)(xs:List V):Prop :=
 Rd H a (.tup xs) ∨
  ∃(o:Obj) (its:Array Value) (n:Nat),K.lookup a=some o∧o.cls = .type "tuple" ∧ o.data = .seq its n∧its.size≤sizeLine∧j6 xs its.toList
noncomputable def Js:Value→Option V
 | .none=>some .non
 | .bool b=>some (.bl b)
 | .int i _=>some (.int i)
 | .str x _=>some (.str x)
 | .bytes b _=>some (.byt b)
 | .float b _=>some (.flt b)
 | .ref a=>some (.ref a)
 | .type n=>some (.ty n)
 | _=>none
theorem p7.abs{x:V}{u:Value}(r:p7 x u):Js u=some x:=by
 cases x with
 | non=>cases r;rfl
 | bl _=>cases r;rfl
 | int _=>obtain⟨t,rfl⟩:=r;rfl
 | str _=>obtain⟨t,rfl⟩:=r;rfl
 | byt _=>obtain⟨t,rfl⟩:=r;rfl
 | flt _=>obtain⟨t,rfl⟩:=r;rfl
 | ref _=>cases r;rfl
 | ty _=>cases r;rfl
theorem p7.inj{x y:V}{u:Value}(r:p7 x u)(q:p7 y u):x=y:=Option.some.inj (r.abs.symm.trans q.abs)
theorem j6.inj:∀{xs ys:List V} {us:List Value},j6 xs us→j6 ys us→xs=ys
 | _,_,_,.nil,.nil=>rfl
 | _,_,_,.cons r t,.cons r' t'=>by rw[r.inj r',j6.inj t t']
section
variable {X:Cx} {pins:List (Addr × Obj)} {σ:St} {H:Hp} {s:Shared} {a:Addr} {xs ys:List V}
theorem SqL.of{K:Ms}(h:H a=some (.lst xs)):SqL K H a xs:=.inl (.inl h)
theorem SqT.of{K:Ms}(h:H a=some (.tup xs)):SqT K H a xs:=.inl (.inl h)
theorem Inv.list(I:Inv X pins σ H s)(h:SqL X.K H a xs):∃ its:List Value,j6 xs its∧PlainL s.heap a its.toArray∧xs.length≤sizeLine:=by
 rcases h with h|⟨o,its,n,hk,hc,hd,hs,hz,r⟩
 ·obtain⟨z,its,n,r,e⟩:=h.ok I.hok
  exact⟨its,r,⟨_,n,e,rfl,rfl,rfl⟩,z⟩
 ·refine⟨its.toList,r,⟨o,n,I.kIn a o hk,hc,hd,by simpa using hs⟩,?_⟩
  have e:=r.length
  simp only[Array.length_toList]at e
  omega
theorem Inv.tuple(I:Inv X pins σ H s)(h:SqT X.K H a xs):∃ its:List Value,j6 xs its∧IsTup s.heap a its.toArray∧xs.length≤sizeLine:=by
 rcases h with h|⟨o,its,n,hk,hc,hs,hz,r⟩
 ·obtain⟨z,its,r,p⟩:=h.ok I.hok
  exact⟨its,r,p,z⟩
 ·refine⟨its.toList,r,⟨o,I.kIn a o hk,hc,n,by simpa using hs⟩,?_⟩
  have e:=r.length
  simp only[Array.length_toList]at e
  omega
theorem Inv.list_inj(I:Inv X pins σ H s)(h:SqL X.K H a xs)(h':SqL X.K H a ys):xs=ys:=by
 obtain⟨its,r,⟨o,n,e,_,_,d⟩,_⟩:=I.list h
 obtain⟨its',r',⟨o',n',e',_,_,d'⟩,_⟩:=I.list h'
 rw[e]at e';cases e'
 rw[d]at d'
 injection d' with d1 _
 have:its=its':=by simpa using congrArg Array.toList d1
 subst this
 exact r.inj r'
theorem Inv.tuple_inj(I:Inv X pins σ H s)(h:SqT X.K H a xs)(h':SqT X.K H a ys):xs=ys:=by
 obtain⟨its,r,⟨o,e,_,n,d⟩,_⟩:=I.tuple h
 obtain⟨its',r',⟨o',e',_,n',d'⟩,_⟩:=I.tuple h'
 rw[e]at e';cases e'
 rw[d]at d'
 injection d' with d1 _
 have:its=its':=by simpa using congrArg Array.toList d1
 subst this
 exact r.inj r'
end
noncomputable abbrev Cx.wish(X:Cx)(E:Value→Shared→Prop):Cx:={ X with xe:=E }
noncomputable abbrev Cx.nox(X:Cx):Cx:=X.wish fun _ _=>False
theorem Cx.Ok.wish{X:Cx}(ok:X.Ok)(E:Value→Shared→Prop):(X.wish E).Ok :=
 ⟨ok.mod,ok.kind,ok.glob,ok.blt,ok.above,ok.inj,ok.has,ok.cab,ok.hd,ok.frames,ok.stk,ok.exf,ok.bs,ok.bsz,ok.noex,ok.exfs,ok.funs,ok.frf⟩
theorem Cx.Ok.unwish{X:Cx}{E:Value→Shared→Prop}(ok:(X.wish E).Ok):X.Ok :=
 ⟨ok.mod,ok.kind,ok.glob,ok.blt,ok.above,ok.inj,ok.has,ok.cab,ok.hd,ok.frames,ok.stk,ok.exf,ok.bs,ok.bsz,ok.noex,ok.exfs,ok.funs,ok.frf⟩
section
variable {X:Cx} {pins:List (Addr × Obj)} {σ:St} {H:Hp} {s:Shared} {E:Value→Shared→Prop}
theorem Inv.wish(I:Inv X pins σ H s)(E:Value→Shared→Prop):Inv (X.wish E) pins σ H s:=⟨I.ok.wish E,I.os,I.bare,I.base,I.loc,I.cell,I.free,I.freeC,I.pin,I.hok,I.len⟩
theorem Inv.unwish(I:Inv (X.wish E) pins σ H s):Inv X pins σ H s:=⟨I.ok.unwish,I.os,I.bare,I.base,I.loc,I.cell,I.free,I.freeC,I.pin,I.hok,I.len⟩
theorem SP.unwish{D:og}{f:Flow}{s':Shared}(h:SP (X.wish E) pins D f s'):SP X pins D f s':=by
 cases f with
 | next=>obtain⟨σ',H',I,q⟩:=h;exact⟨σ',H',I.unwish,q⟩
 | brk=>obtain⟨σ',H',I,q⟩:=h;exact⟨σ',H',I.unwish,q⟩
 | cont=>obtain⟨σ',H',I,q⟩:=h;exact⟨σ',H',I.unwish,q⟩
 | ret u=>obtain⟨v,σ',H',I,r,q⟩:=h;exact⟨v,σ',H',I.unwish,r,q⟩
theorem PE.nox{e:Expr}{t:TE}(h:PE X.nox e t):PE X e t:=fun pins s σ H Q I hw =>
 wpAny_mono (h pins s σ H Q (I.wish _) hw) (fun _ _ ⟨v,H',I',r,q⟩=>⟨v,H',I'.unwish,r,q⟩) fun _ _ z=>False.elim z
theorem PT.nox{e:Expr}{t:TT}(h:PT X.nox e t):PT X e t:=fun pins s σ H Q I hw =>
 wpAny_mono (h pins s σ H Q (I.wish _) hw) (fun _ _ ⟨H',I',q⟩=>⟨H',I'.unwish,q⟩) fun _ _ z=>False.elim z
theorem PSs.nox{st:List Stmt}{t:TS}(h:PSs X.nox st t):PSs X st t:=fun pins s σ H D I hw =>
 wpAny_mono (h pins s σ H D (I.wish _) hw) (fun _ _ q=>q.unwish) fun _ _ z=>False.elim z
end
section
variable {X:Cx} {st:Stmt} {G0:List Stmt} {t u:TS} {e:Expr} {te:TE} {pos:Pos}
def GI:TS:=fun D σ H=>D.nx σ H
def IF(t u:TS):TS:=fun D σ H=>t { D with nx:=u D } σ H
theorem Aw:PSs X [] GI:=fun _ _ σ H _ I h=>wpAny_execs_nil ⟨σ,H,I,h⟩
theorem mO(h1:PS X st t)(h2:PSs X G0 u):PSs X (st :: G0) (IF t u):=by
 intro pins s σ H D I h
 refine wpAny_execs_cons (thn (h1 pins s σ H { D with nx:=u D } I h) fun f s1 q=>?_)
 cases f with
 | next =>
  obtain⟨σ',H',I',q⟩:=q
  exact h2 pins s1 σ' H' D I' q
 | ret v=>exact q
 | brk=>exact q
 | cont=>exact q
theorem Av(h1:PS X st t):PSs X [st] t:=by
 intro pins s σ H D I h
 refine wpAny_execs_cons (thn (h1 pins s σ H D I h) fun f s1 q=>?_)
 cases f with
 | next=>exact wpAny_execs_nil q
 | ret v=>exact q
 | brk=>exact q
 | cont=>exact q
theorem Inv.quiet{pins:List (Addr × Obj)}{σ:St}{H:Hp}{s:Shared}(I:Inv X pins σ H s):interactive X.env=false:=by simp[interactive,I.ok.kind]
def GL(te:TE):TS:=fun D σ H=>te σ H fun _ H1=>D.nx σ H1
theorem Ay(he:PE X e te)(hs:swapsWith e none pos.line X.env=pure false:=by rfl):PS X (.Expr e pos) (GL te):=by
 intro pins s σ H D I h
 exact wpAny_Expr_any (thn (he pins s σ H _ I h) fun v s1 ⟨x,H1,I1,r1,q1⟩=>⟨σ,H1,I1,q1⟩) I.quiet hs
def IG(te:TE):TS:=fun D σ H=>te σ H D.rt
theorem Ew(he:PE X e te):PS X (.Return (some e) pos) (IG te):=by
 intro pins s σ H D I h
 exact wpAny_Return_some (thn (he pins s σ H _ I h) fun v s1 ⟨x,H1,I1,r1,q1⟩=>⟨x,σ,H1,I1,r1,q1⟩)
def IL(c:TT)(t u:TS):TS:=fun D σ H=>c σ H fun b H1=>if b=true then t D σ H1 else u D σ H1
theorem Ha{c:Expr}{a b:List Stmt}{tc:TT}(hc:PT X c tc)(ha:PSs X a t)(hb:PSs X b u):PS X (.If c a b pos) (IL tc t u):=by
 intro pins s σ H D I h
 refine wpAny_If (thn (hc pins s σ H _ I h) fun d s1 zz=>?_)
 obtain⟨H1,I1,q1⟩:=zz
 cases d with
 | true=>exact ha pins s1 σ H1 D I1 q1
 | false=>exact hb pins s1 σ H1 D I1 q1
def DW:TS:=fun _ _ _=>False
theorem wj:PS X st DW:=fun _ _ _ _ _ _ h=>h.elim
end
noncomputable abbrev TG:=V→St→Hp→(St→Hp→Prop)→Prop
noncomputable abbrev TGs:=List V→St→Hp→(St→Hp→Prop)→Prop
def PG(X:Cx)(target:Expr)(t:TG):Prop :=
 ∀(pins:List (Addr × Obj)) (s:Shared) (σ:St) (H:Hp) (v:V) (u:Value) (Q:St→Hp→Prop),Inv X pins σ H s→p7 v u→t v σ H Q →
  wpAny (model X.prog X.w) X.A (assign target X.env u) (fun _ s'=>∃ σ' H',Inv X pins σ' H' s'∧Q σ' H') X.xe s
def PGs(X:Cx)(ts:List Expr)(t:TGs):Prop :=
 ∀(pins:List (Addr × Obj)) (s:Shared) (σ:St) (H:Hp) (vs:List V) (us:List Value) (Q:St→Hp→Prop),Inv X pins σ H s→j6 vs us→t vs σ H Q →
  wpAny (model X.prog X.w) X.A (assignInOrder ((assignEach ts X.env).map (·.2)) us) (fun _ s'=>∃ σ' H',Inv X pins σ' H' s'∧Q σ' H') X.xe s
noncomputable abbrev FJ:=V→V→V→Hp→(Hp→Prop)→Prop
def Iw(X:Cx)(t:FJ):Prop :=
 ∀(pins:List (Addr × Obj)) (s:Shared) (σ:St) (H:Hp) (o i v:V) (ov iv u:Value) (Q:Hp→Prop),Inv X pins σ H s→p7 o ov→p7 i iv→p7 v u→t o i v H Q →
  wpAny (model X.prog X.w) X.A (setItem ov iv u) (fun _ s'=>∃ H',Inv X pins σ H' s'∧Q H') X.xe s
section
variable {X:Cx} {pos:Pos}
def xA(i:Nat):TG:=fun v σ H Q=>Q (σ.set i (some v)) H
theorem AH{i:Nat}{x:Str}(hN:X.N.Nodup)(hi:X.N[i]? = some x)(hx:Loc X.env.scope x)(hf:X.fn x=true∨X.env.scope.names.lookup x=some .local:=by first|exact .inl rfl|exact .inr rfl|assumption):PG X (.Name x pos) (xA i):=by
 intro pins s σ H v u Q I r h
 exact wpAny_assign_Name (ao I hN hi hx r (fun s' I'=>⟨_,H,I',h⟩) hf)
def Jm:TGs:=fun vs σ H Q=>vs=[]∧Q σ H
def HI(t:TG)(u:TGs):TGs:=fun vs σ H Q=>∃ v r,vs=v :: r∧t v σ H fun σ' H'=>u r σ' H' Q
theorem AF:PGs X [] Jm:=by
 intro pins s σ H vs us Q I r h
 obtain⟨e,h⟩:=h
 subst e
 cases r
 exact assignInOrder_nil ⟨σ,H,I,h⟩
theorem wy{e:Expr}{es:List Expr}{t:TG}{u:TGs}(h1:PG X e t)(h2:PGs X es u)
  (hs:(assignEach (e :: es) X.env).map (·.2)=assign e X.env :: (assignEach es X.env).map (·.2):=by rfl):PGs X (e :: es) (HI t u):=by
 intro pins s σ H vs us Q I r h
 obtain⟨v,vr,e1,h⟩:=h
 subst e1
 cases r with
 | cons r rr =>
  rw[hs]
  refine assignInOrder_cons (thn (h1 pins s σ H _ _ _ I r h) fun _ s1 zz=>?_)
  obtain⟨σ1,H1,I1,q1⟩:=zz
  exact h2 pins s1 σ1 H1 _ _ Q I1 rr q1
def Jj(K:Ms)(n:Nat)(t:TGs):TG:=fun v σ H Q=>∃ a xs,v = .ref a∧SqT K H a xs∧xs.length=n∧t xs σ H Q
theorem EC{es:List Expr}{k:Nat}{t:TGs}{n:Nat}(hc:X.calm=true)(h:PGs X es t)
  (hn:(assignEach es X.env).length=n:=by rfl) (hst:(assignEach es X.env).findIdx? (·.1)=none:=by rfl):PG X (.Tuple es k pos) (Jj X.K n t):=by
 intro pins s σ H v u Q I r hw
 obtain⟨a,xs,e1,hq,hl,hw⟩:=hw
 subst e1
 cases r
 obtain⟨its,rv,ht,hz⟩:=I.tuple hq
 refine assign_Tuple_tuple (I.ok.hd hc) ht (by simp[hn,← hl,rv.length]) hst fun h' hx=>?_
 have I1:Inv X pins σ H { s with heap:=h' }:=I.kept (t':=s.toks) fun b o e=>hx b o (MN (MB e)) e
 exact h pins _ σ H xs _ Q I1 (by simpa using rv) hw
def Jk(to ti:TE)(t:FJ):TG:=fun v σ H Q=>to σ H fun o H1=>ti σ H1 fun i H2=>t o i v H2 fun H3=>Q σ H3
theorem ED{o i:Expr}{to ti:TE}{t:FJ}(ho:PE X o to)(hi:PE X i ti)(hs:Iw X t)
  (ha:∀ v,assign (.Subscript o i pos) X.env v=(do
   let ov ← holding [v] (eval o X.env)
   let iv ← holding [v,ov] (eval i X.env)
   standAt pos
   holding [v,ov,iv] (setItem ov iv v)
   release [v,ov,iv] []):=by intro _;rfl):PG X (.Subscript o i pos) (Jk to ti t):=by
 intro pins s σ H v u Q I r h
 rw[ha]
 refine Mq (wpAny_holding (thn (ho pins s σ H _ I h) fun ov s1 zz=>?_))
 obtain⟨x,H1,I1,r1,q1⟩:=zz
 refine Mq (wpAny_holding (thn (hi pins s1 σ H1 _ I1 q1) fun iv s2 zz=>?_))
 obtain⟨y,H2,I2,r2,q2⟩:=zz
 refine Mq (wpAny_standAt (Mq (wpAny_holding (thn (hs pins s2 σ H2 x y v ov iv u _ I2 r1 r2 r q2) fun _ s3 zz=>?_))))
 obtain⟨H3,I3,q3⟩:=zz
 exact wpAny_release ⟨σ,H3,I3,q3⟩
def DX(te:TE)(g:TG):TS:=fun D σ H=>te σ H fun x H1=>g x σ H1 D.nx
theorem Ez{tg e:Expr}{te:TE}{g:TG}(he:PE X e te)(hg:PG X tg g)(hs:swapsWithSole [tg] e pos.line X.env=pure false:=by rfl)(hw:swappedStores [tg] e X.env=pure none:=by rfl)
  (h1:(assignEach [tg] X.env).map (·.2)=[assign tg X.env]:=by rfl):PS X (.Assign [tg] e pos) (DX te g):=by
 intro pins s σ H D I h
 refine wpAny_Assign_stores (thn (he pins s σ H _ I h) fun v s1 ⟨x,H1,I1,r1,q1⟩=>?_) hs hw
 rw[h1]
 exact thn (hg pins s1 σ H1 x v _ I1 r1 q1) fun _ s2 q=>q
theorem Eu{i:Nat}{x:Str}{e:Expr}{te:TE}{pos':Pos}(hN:X.N.Nodup)(hi:X.N[i]? = some x)(hx:Loc X.env.scope x)(he:PE X e te)(hs:swapsWith e (some (.Name x pos')) pos.line X.env=pure false:=by rfl)(hf:X.fn x=true∨X.env.scope.names.lookup x=some .local:=by first|exact .inl rfl|exact .inr rfl|assumption) :
  PS X (.Assign [.Name x pos'] e pos) (DX te (xA i)):=by
 intro pins s σ H D I h
 refine wpAny_Assign_Name (thn (he pins s σ H _ I h) fun v s1 ⟨y,H1,I1,r1,q1⟩=>?_) hs
 exact ao I1 hN hi hx r1 (fun s2 I2=>⟨_,H1,I2,q1⟩) hf
def IH(i j:Nat)(ta:TA):TS:=fun D σ H=>ta σ H fun vs H1=>∃ v w,vs=[v,w]∧D.nx ((σ.set i (some v)).set j (some w)) H1
theorem Ex{i j:Nat}{x y:Str}{a b:Expr}{ta:TA}{px py pt:Pos}{kt k2 pt2}(hc:X.calm=true)(hN:X.N.Nodup)(hi:X.N[i]? = some x)(hj:X.N[j]? = some y)(hij:i≠j)
  (hx:X.env.scope.names.lookup x=some .local) (hy:X.env.scope.names.lookup y=some .local) (ha:PA X [a,b] ta)
  (hw:swappedStores [.Tuple [.Name x px,.Name y py] kt pt] (.Tuple [a,b] k2 pt2) X.env=pure (some [x,y]))
  (hs:swapsWithSole [.Tuple [.Name x px,.Name y py] kt pt] (.Tuple [a,b] k2 pt2) pos.line X.env=pure false:=by rfl) :
  PS X (.Assign [.Tuple [.Name x px,.Name y py] kt pt] (.Tuple [a,b] k2 pt2) pos) (IH i j ta):=by
 intro pins s σ H D I h
 rw[exec_Assign_arm]
 refine Mq (wpAny_standAt ?_)
 rw[hs]
 refine Mq (Mu ?_)
 rw[if_neg (by decide)]
 refine Mq (Tuple_ (thn (ha _ pins s σ H _ I h) fun us s1 zz=>?_))
 obtain⟨vs,H1,I1,r1,q1⟩:=zz
 obtain⟨v,w,e1,q1⟩:=q1
 subst e1
 obtain⟨u1,u2,rfl,rv,rw'⟩:∃ u1 u2,us=[u1,u2]∧p7 v u1∧p7 w u2:=by
  cases r1 with
  | cons p q =>
   cases q with
   | cons p' q' =>
    cases q'
    exact⟨_,_,rfl,p,p'⟩
 refine wpAny_newObj_type ?_ (by show 2≤sizeLine;decide)
 have I2:Inv X pins σ H1 { s1 with heap:=s1.heap.push { cls:=.type "tuple",data:=.seq [u1,u2].toArray } }:=I1.kept (t':=s1.toks) fun b o e=>Mr _ e
 rw[hw]
 refine Mq (Mu ?_)
 show wpAny (model X.prog X.w) X.A (do rule "assign.swapped-stores";let items ← unpackItems (.ref s1.heap.objs.size) 2 none;assignInOrder [fun v=>bindName X.env y v,fun v=>bindName X.env x v] items.reverse;pure Flow.next) _ _ _
 refine Mq (wpAny_rule (Mq (unpackItems_tuple (items:=#[u1,u2]) (I.ok.hd hc) (IsTup.new s1.heap _) fun h' hx'=>?_)))
 have I3:=I2.kept (h':=h') (t':=s1.toks) fun b o e=>hx' b o (MN (MB e)) e
 show wpAny _ _ (assignInOrder [fun v=>bindName X.env y v,fun v=>bindName X.env x v] [u2,u1] >>= fun _=>pure Flow.next) _ _ _
 refine Mq (assignInOrder_cons (wpAny_bindName (ao I3 hN hj (.inl hy) rw' (fun s2 I4=>?_) (.inr hy))))
 refine assignInOrder_cons (wpAny_bindName (ao I4 hN hi (.inl hx) rv (fun s3 I5=>assignInOrder_nil (Mu ?_)) (.inr hx)))
 rw[List.set_comm _ _ (Ne.symm hij)]at I5
 exact⟨_,H1,I5,q1⟩
end
section
variable {X:Cx} {pos:Pos}
def DV(c:TT)(tb:TS):TS:=fun D σ H=>∃ W:Nat→St→Hp→Prop,(∃ m,W m σ H)∧∀ m σ H,W m σ H →
 c σ H fun b H1=>if b=true then ∃ N:St→Hp→Prop,(∀ σ' H',N σ' H'→∃ m',m'<m∧W m' σ' H')∧tb { D with nx:=N,ct:=N,bk:=D.nx } σ H1 else D.nx σ H1
theorem wg{c:Expr}{body:List Stmt}{tc:TT}{tb:TS}(hp:PassesOwn (model X.prog X.w) X.A X.env X.xe)(hc:PT X c tc)(hb:PSs X body tb):PS X (.While c body [] pos) (DV tc tb):=by
 intro pins s σ H D I h
 obtain⟨W,⟨m0,w0⟩,turn⟩:=h
 refine wpAny_While (codeAny_whileLoop (fun n s'=>∃ σ' H',Inv X pins σ' H' s'∧W n σ' H') ?_ m0 ⟨σ,H,I,w0⟩)
 rintro n s1 ⟨σ1,H1,I1,w1⟩
 refine wpAny_passesOwn hp (thn (hc pins s1 σ1 H1 _ I1 (turn n σ1 H1 w1)) fun b s2 zz=>?_)
 obtain⟨H2,I2,q2⟩:=zz
 cases b with
 | true =>
  obtain⟨N,hN,q2⟩:=q2
  rw[if_pos rfl]
  refine wpAny_passesOwn hp (thn (hb pins s2 σ1 H2 _ I2 q2) fun f s3 q3=>?_)
  cases f with
  | next =>
   obtain⟨σ3,H3,I3,n3⟩:=q3
   obtain⟨m',hm,w3⟩:=hN σ3 H3 n3
   exact⟨m',hm,σ3,H3,I3,w3⟩
  | cont =>
   obtain⟨σ3,H3,I3,n3⟩:=q3
   obtain⟨m',hm,w3⟩:=hN σ3 H3 n3
   exact⟨m',hm,σ3,H3,I3,w3⟩
  | brk=>exact q3
  | ret v=>exact q3
 | false =>
  rw[if_neg MF]
  exact wpAny_execs_nil ⟨σ1,H2,I2,q2⟩
end
structure It where
 go:Nat→Hp→Prop
 yld:Nat→Hp→V→Hp→Prop
 stop:Nat→Hp→Prop
def X7(X:Cx)(pins:List (Addr × Obj))(H:Hp)(b:Addr):Prop :=
 H b=none∧b≠X.env.locals∧b∉X.fs∧(b∈X.ex∨X.s₀.heap.objs.size≤b)∧(∀ x c,X.env.cells.lookup x=some c→c≠b)∧∀ p∈X.pn++pins,p.1≠b
theorem Inv.fpOk{X:Cx}{pins:List (Addr × Obj)}{σ:St}{H H':Hp}{s:Shared}{b:Addr}(I:Inv X pins σ H s)(hb:s.heap.objs.size≤b)(hn:H' b=none):X7 X pins H' b:=by
 refine⟨hn,Nl (Mt I.lt hb),I.nofs hb,.inr (ME I.sz hb),fun x c e z=>?_,fun p hp z=>?_⟩
 ·obtain⟨v,q⟩:=I.cell x c e
  exact absurd (Mt q.lt (by rw[z];exact hb)) (NP _)
 ·exact absurd (Mt (MB (I.pin p hp).1) (by rw[z];exact hb)) (NP _)
structure nX(P:Program)(w:World)(K:Ms)(tg:Expr)(J:It)(fp:List Addr)(it:Addr)(tn:Nat→Heap→Prop):Prop where
 mem:it∈fp
 obj:∀ i h,tn i h→∀ b∈fp,∃ o,h.get? b=some o∧∀ v,o.data ≠ .cell v
 keep:∀ i h h',tn i h→(∀ b∈fp,∀ o,h.get? b=some o→h'.get? b=some o)→tn i h'
 item:∀(X:Cx),X.prog=P→X.w=w→X.K=K→X.calm=true→∀(i:Nat) (pins:List (Addr × Obj)) (s:Shared) (σ:St) (H:Hp) (E:Value→Shared→Prop),Inv X pins σ H s→(∀ b∈fp,X7 X pins H b)→tn i s.heap→J.go i H →
  wpAny (model P w) X.A (pyNext (.ref it)) (fun r s1=>∃ u,r=some u ∧
   wpAny (model P w) X.A (letOwnedTupleGo tg (.ref it) u) (fun _ s2=>∃ x H',Inv X pins σ H' s2∧p7 x u∧J.yld i H x H'∧tn (i+1) s2.heap∧∀ b∈fp,H' b=none) E s1) E s
 done:∀(X:Cx),X.prog=P→X.w=w→X.K=K→X.calm=true→∀(i:Nat) (pins:List (Addr × Obj)) (s:Shared) (σ:St) (H:Hp) (E:Value→Shared→Prop),Inv X pins σ H s→(∀ b∈fp,X7 X pins H b)→tn i s.heap→J.stop i H →
  wpAny (model P w) X.A (pyNext (.ref it)) (fun r s1=>r=none∧Inv X pins σ H s1) E s
 self:∀(A:Around) (i:Nat) (s:Shared) (Q:Value→Shared→Prop) (E:Value→Shared→Prop),tn i s.heap→Q (.ref it) s→wpAny (model P w) A (pyIter (.ref it)) Q E s
noncomputable abbrev TI:=St→Hp→(It→Hp→Prop)→Prop
def PIE(X:Cx)(pins:List (Addr × Obj))(σ:St)(tg:Expr)(R:It→Hp→Prop)(itv:Value)(s2:Shared):Prop :=
 ∃(it:Addr) (fp:List Addr) (tn:Nat→Heap→Prop) (J:It) (H':Hp),itv = .ref it∧Inv X pins σ H' s2∧nX X.prog X.w X.K tg J fp it tn∧tn 0 s2.heap∧(∀ b∈fp,X7 X pins H' b)∧R J H'
def PI(X:Cx)(tg iter:Expr)(wi:TI):Prop :=
 ∀(pins:List (Addr × Obj)) (s:Shared) (σ:St) (H:Hp) (R:It→Hp→Prop),Inv X pins σ H s→wi σ H R →
  wpAny (model X.prog X.w) X.A (eval iter X.env) (fun v s1=>wpAny (model X.prog X.w) X.A (pyIter v) (PIE X pins σ tg R) X.xe s1) X.xe s
theorem xx{M:Model}{A:Around}{E:Value→Shared→Prop}{s:Shared}{tg:Expr}{it:Addr}{u:Value}{o:Obj}{n:String}{vs:Array Value}{Q:Unit→Shared→Prop}(ho:s.heap.get? it=some o)(hc:o.cls = .type n)(hd:o.data = .fields vs)
  (hn:["enumerate","zip","dict_itemiterator","dict_reverseitemiterator","odict_iterator","itertools.zip_longest","itertools.pairwise"].contains n=false) (hQ:Q () s):wpAny M A (letOwnedTupleGo tg (.ref it) u) Q E s:=by
 unfold letOwnedTupleGo
 cases tg<;>first
  | exact Mu hQ
  | (cases u<;>first
    | exact Mu hQ
    | (refine Mq (wpAny_load ho ?_);rw[hc,hd];show wpAny M A (if (["enumerate","zip","dict_itemiterator","dict_reverseitemiterator","odict_iterator","itertools.zip_longest","itertools.pairwise"].contains n && vs[0]? == some (rawInt _))=true then _ else _) Q E s;rw[if_neg (by intro h;rw[hn,Oo]at h;cases h)];exact Mu hQ))
noncomputable def Itl(K:Ms)(a:Addr):It :=
 ⟨fun i H=>∃ xs x,SqL K H a xs∧xs[i]? = some x,fun i H x H'=>H'=H∧∀ xs,SqL K H a xs→xs[i]? = some x,fun i H=>∃ xs,SqL K H a xs∧xs.length≤i⟩
noncomputable def Itt(K:Ms)(a:Addr):It :=
 ⟨fun i H=>∃ xs x,SqT K H a xs∧xs[i]? = some x,fun i H x H'=>H'=H∧∀ xs,SqT K H a xs→xs[i]? = some x,fun i H=>∃ xs,SqT K H a xs∧xs.length≤i⟩
noncomputable def Itr(lo:Int)(n:Nat):It:=⟨fun i _=>i<n,fun i H x H'=>H'=H∧x = .int (lo+i),fun i _=>n≤i⟩
theorem sI{P:Program}{w:World}{K:Ms}{tg:Expr}(a it:Addr):nX P w K tg (Itl K a) [it] it (fun i h=>h.IsListIter it a i) where
 mem:=by simp
 obj:=fun i h st b hb=>by
  have e:b=it:=by simpa using hb
  subst e
  obtain⟨o,e,c,d⟩:=st
  exact⟨o,e,fun v z=>by rw[d]at z;cases z⟩
 keep:=fun i h h' st k=>st.at fun o e=>k it (by simp) o e
 item:=by
  intro X hP hw hK hc i pins s σ H E I hf st hg
  subst hP hw hK
  obtain⟨xs,x,hq,hx⟩:=hg
  obtain⟨its,rv,p,hz⟩:=I.list hq
  obtain⟨u,hu,ru⟩:=rv.get hx
  obtain⟨f0,f1,f2,f3,f4,f5⟩:=hf it (by simp)
  refine wpAny_pyNext_list_item st p.isList (x:=u) (by simpa using hu) fun h' st' sb=>?_
  have I1:Inv X pins σ H { s with heap:=h' }:=I.turned (t':=s.toks) (fun b o hb e=>(sb.2 b hb).trans e) f0 f1 f3 f4 f5
  obtain⟨o,e,c,d⟩:=id st'
  exact⟨u,rfl,xx (s:={ s with heap:=h' }) e c d (by decide) ⟨x,H,I1,ru,⟨rfl,fun ys hy=>by rw[I.list_inj hy hq];exact hx⟩,st',fun b hb=>(hf b hb).1⟩⟩
 done:=by
  intro X hP hw hK hc i pins s σ H E I hf st hg
  subst hP hw hK
  obtain⟨xs,hq,hx⟩:=hg
  obtain⟨its,rv,p,hz⟩:=I.list hq
  obtain⟨f0,f1,f2,f3,f4,f5⟩:=hf it (by simp)
  have hl:=rv.length
  exact wpAny_pyNext_list_end (I.ok.hd hc) st p.isList (by simp;omega) fun h' eb=>⟨rfl,I.turned (t':=s.toks) (fun b o hb e=>eb b o hb e) f0 f1 f3 f4 f5⟩
 self:=fun _ _ _ _ _ st h=>wpAny_pyIter_listiter st h
theorem oo{P:Program}{w:World}{K:Ms}{tg:Expr}(a it:Addr):nX P w K tg (Itt K a) [it] it (fun i h=>h.IsTupleIter it a i) where
 mem:=by simp
 obj:=fun i h st b hb=>by
  have e:b=it:=by simpa using hb
  subst e
  obtain⟨o,e,c,d⟩:=st
  exact⟨o,e,fun v z=>by rw[d]at z;cases z⟩
 keep:=fun i h h' st k=>st.at fun o e=>k it (by simp) o e
 item:=by
  intro X hP hw hK hc i pins s σ H E I hf st hg
  subst hP hw hK
  obtain⟨xs,x,hq,hx⟩:=hg
  obtain⟨its,rv,p,hz⟩:=I.tuple hq
  obtain⟨u,hu,ru⟩:=rv.get hx
  obtain⟨f0,f1,f2,f3,f4,f5⟩:=hf it (by simp)
  refine wpAny_pyNext_tuple_item st (show s.heap.IsTuple a its.toArray from p) (x:=u) (by simpa using hu) fun h' st' sb=>?_
  have I1:Inv X pins σ H { s with heap:=h' }:=I.turned (t':=s.toks) (fun b o hb e=>(sb.2 b hb).trans e) f0 f1 f3 f4 f5
  obtain⟨o,e,c,d⟩:=id st'
  exact⟨u,rfl,xx (s:={ s with heap:=h' }) e c d (by decide) ⟨x,H,I1,ru,⟨rfl,fun ys hy=>by rw[I.tuple_inj hy hq];exact hx⟩,st',fun b hb=>(hf b hb).1⟩⟩
 done:=by
  intro X hP hw hK hc i pins s σ H E I hf st hg
  subst hP hw hK
  obtain⟨xs,hq,hx⟩:=hg
  obtain⟨its,rv,p,hz⟩:=I.tuple hq
  obtain⟨f0,f1,f2,f3,f4,f5⟩:=hf it (by simp)
  have hl:=rv.length
  exact wpAny_pyNext_tuple_end (I.ok.hd hc) st (show s.heap.IsTuple a its.toArray from p) (by simp;omega) fun h' eb=>⟨rfl,I.turned (t':=s.toks) (fun b o hb e=>eb b o hb e) f0 f1 f3 f4 f5⟩
 self:=fun _ _ _ _ _ st h=>wpAny_pyIter_tupleiter st h
theorem oq{P:Program}{w:World}{K:Ms}{tg:Expr}(it:Addr)(lo:Int)(n:Nat):nX P w K tg (Itr lo n) [it] it (fun i h=>IsRangeIter h it (lo+(i:Nat)*1) ((n:Int) - (i:Nat)) 1) where
 mem:=by simp
 obj:=fun i h st b hb=>by
  have e:b=it:=by simpa using hb
  subst e
  exact⟨_,st,fun v z=>by
   have z':Data.fields _=Data.cell v:=z
   cases z'⟩
 keep:=fun i h h' st k=>k it (by simp) _ st
 item:=by
  intro X hP hw hK hc i pins s σ H E I hf st hg
  subst hP hw hK
  obtain⟨f0,f1,f2,f3,f4,f5⟩:=hf it (by simp)
  have W:=Walks.range (prog:=X.prog) (w:=X.w) (I.ok.hd hc) it lo 1 n
  refine W.item i s _ _ hg st fun v h' tk hv st' kk=>?_
  obtain⟨t,rfl⟩:=hv
  have I1:Inv X pins σ H { s with heap:=h',toks:=tk }:=I.turned (fun b o hb e=>kk b o (by simpa using hb) e) f0 f1 f3 f4 f5
  refine⟨_,rfl,xx (s:={ s with heap:=h',toks:=tk }) (n := "range_iterator") st' rfl rfl (by decide) ⟨.int (lo+i),H,I1,⟨t,?_⟩,⟨rfl,rfl⟩,st',fun b hb=>(hf b hb).1⟩⟩
  rw[OV]
 done:=by
  intro X hP hw hK hc i pins s σ H E I hf st hg
  subst hP hw hK
  obtain⟨f0,f1,f2,f3,f4,f5⟩:=hf it (by simp)
  exact wpAny_pyNext_range_end (I.ok.hd hc) st (by have:n≤i:=hg;omega) fun h' eb=>⟨rfl,I.turned (t':=s.toks) (fun b o hb e=>eb b o hb e) f0 f1 f3 f4 f5⟩
 self:=fun _ _ _ _ _ st h=>wpAny_pyIter_rangeiter st h
section
variable {X:Cx} {tg:Expr}
theorem mN{pins:List (Addr × Obj)}{σ:St}{H:Hp}{s:Shared}{R:It→Hp→Prop}{E:Value→Shared→Prop}{lo hi:Int}{t u v:Tok}{tk:Nat}(I:Inv X pins σ H s)(h1:-(2 ^ 62)≤lo)(h2:lo<2 ^ 62)(h3:-(2 ^ 62)≤hi)(h4:hi<2 ^ 62)
  (q:R (Itr lo (hi - lo).toNat) H):wpAny (model X.prog X.w) X.A (pyIter (.ref s.heap.objs.size)) (PIE X pins σ tg R) E { s with heap:=s.heap.push { cls:=.type "range",data:=.fields #[.int lo t,.int hi u,.int 1 v] },toks:=tk }:=by
 refine wpAny_pyIter_range (IsRange.new ..) (small_one h1 h2 h3 h4) ?_
 have I1:Inv X pins σ H { s with heap:=s.heap.push { cls:=.type "range",data:=.fields #[.int lo t,.int hi u,.int 1 v] },toks:=tk }:=I.kept fun b o e=>Mr _ e
 refine⟨(s.heap.push { cls:=.type "range",data:=.fields #[.int lo t,.int hi u,.int 1 v] }).objs.size,[(s.heap.push { cls:=.type "range",data:=.fields #[.int lo t,.int hi u,.int 1 v] }).objs.size],_,_,H,rfl,
  I1.kept (t':=tk) fun b o e=>Mr _ e,oq _ lo (hi - lo).toNat,?_,fun b hb=>?_,q⟩
 ·have e1:lo+((0:Nat):Int)*1=lo:=by simp
  have e2:(((hi - lo).toNat:Nat):Int) - ((0:Nat):Int)=Builtin.Range.rangeSize lo hi 1:=by rw[rangeSize_one];split<;>omega
  show IsRangeIter _ _ (lo+((0:Nat):Int)*1) ((((hi - lo).toNat:Nat):Int) - ((0:Nat):Int)) 1
  rw[e1,e2]
  exact Mw _ rfl
 ·have e:b=(s.heap.push { cls:=.type "range",data:=.fields #[.int lo t,.int hi u,.int 1 v] }).objs.size:=by simpa using hb
  subst e
  exact I1.fpOk (MM _) (I1.hok.fresh (MM _))
def HD(ta:TA):TI:=fun σ H R=>ta σ H fun vs H1=>∃ j:Int,vs=[.int j]∧-(2 ^ 62)≤j∧j<2 ^ 62∧R (Itr 0 j.toNat) H1
def HC(ta:TA):TI:=fun σ H R=>ta σ H fun vs H1=>∃ i j:Int,vs=[.int i,.int j]∧(-(2 ^ 62)≤i∧i<2 ^ 62∧-(2 ^ 62)≤j∧j<2 ^ 62)∧R (Itr i (j - i).toNat) H1
theorem sW{a:Expr}{ta:TA}{p pos:Pos}(hg:Gl X "range")(hm:X.mg "range" = none)(ha:PA X [a] ta)(hs:starEach [a] X.env=[(false,eval a X.env)]:=by rfl):PI X tg (.Call (.Name "range" p) [a] [] pos) (HD ta):=by
 intro pins s σ H R I h
 refine Call_ (N0 I hg hm boot_range (PyProof.Rows.callWith_type1 (thn (ha pos pins s σ H _ I h) fun us s1 ⟨vs,H1,I1,r1,q1⟩=>?_) hs rfl))
 obtain⟨j,e,q1,q2,q⟩:=q1
 subst e
 cases r1 with
 | cons r rr =>
  cases rr
  obtain⟨t,rfl⟩:=r
  exact call_range_1 (mN I1 (by omega) (by omega) q1 q2 (by simpa using q))
theorem sV{a b:Expr}{ta:TA}{p pos:Pos}(hg:Gl X "range")(hm:X.mg "range" = none)(ha:PA X [a,b] ta)(hs:starEach [a,b] X.env=[(false,eval a X.env),(false,eval b X.env)]:=by rfl)(hs2:starEach [b] X.env=[(false,eval b X.env)]:=by rfl) :
  PI X tg (.Call (.Name "range" p) [a,b] [] pos) (HC ta):=by
 intro pins s σ H R I h
 refine Call_ (N0 I hg hm boot_range (PyProof.Rows.callWith_type1 (thn (ha pos pins s σ H _ I h) fun us s1 ⟨vs,H1,I1,r1,q1⟩=>?_) (by rw[hs,hs2]) (by rw[hs2];rfl)))
 obtain⟨i,j,e,⟨q1,q2,q3,q4⟩,q⟩:=q1
 subst e
 cases r1 with
 | cons r rr =>
  cases rr with
  | cons r' rr =>
   cases rr
   obtain⟨t,rfl⟩:=r
   obtain⟨t',rfl⟩:=r'
   exact call_range_2 (mN I1 q1 q2 q3 q4 q)
def IM(wi:TI)(g:TG)(tb:TS):TS:=fun D σ H=>wi σ H fun J H1=>∃ W:Nat→Nat→St→Hp→Prop,(∃ m,W 0 m σ H1)∧∀ i m σ H,W i m σ H →
 (J.stop i H∧D.nx σ H)∨(J.go i H∧∃ N:St→Hp→Prop,(∀ σ' H',N σ' H'→∃ m',m'<m∧W (i+1) m' σ' H')∧∀ x H',J.yld i H x H'→g x σ H' fun σ2 H2=>tb { D with nx:=N,ct:=N,bk:=D.nx } σ2 H2)
noncomputable def jS(fp:List Addr)(h:Heap):List (Addr × Obj):=fp.filterMap fun b=>(h.get? b).map fun o=>(b,o)
theorem F4{fp:List Addr}{h:Heap}{b:Addr}{o:Obj}(hb:b∈fp)(e:h.get? b=some o):(b,o)∈jS fp h:=Oz.mpr ⟨b,hb,by rw[e];rfl⟩
theorem tj{fp:List Addr}{h:Heap}{p:Addr × Obj}(hp:p∈jS fp h):p.1∈fp∧h.get? p.1=some p.2:=by
 obtain⟨b,hb,e⟩:=Oz.mp hp
 cases q:h.get? b with
 | none=>rw[q]at e;cases e
 | some o =>
  rw[q]at e
  have e':(b,o)=p:=Option.some.inj e
  subst e'
  exact⟨hb,q⟩
theorem Inv.pinned{pins:List (Addr × Obj)}{σ:St}{H:Hp}{s:Shared}{fp:List Addr}(I:Inv X pins σ H s)(hf:∀ b∈fp,X7 X pins H b)(ho:∀ b∈fp,∃ o,s.heap.get? b=some o∧∀ v,o.data ≠ .cell v):Inv X (pins++jS fp s.heap) σ H s :=
 I.pins_of fun p hp=>(MX.mp hp).elim (fun z=>I.pin p (MT _ z)) fun z=>by
  obtain⟨hb,e⟩:=tj z
  obtain⟨f0,f1,f2,_⟩:=hf p.1 hb
  obtain⟨o,e',d⟩:=ho p.1 hb
  rw[e]at e';cases e'
  exact⟨e,f0,f1,f2,d⟩
theorem Inv.unpinned{pins pl:List (Addr × Obj)}{σ:St}{H:Hp}{s:Shared}(I:Inv X (pins++pl) σ H s):Inv X pins σ H s:=I.pins_of fun p hp=>I.pin p (MT _ (NB _ hp))
theorem Ey{iter:Expr}{body:List Stmt}{wi:TI}{g:TG}{tb:TS}{pos:Pos}(hp:PassesOwn (model X.prog X.w) X.A X.env X.xe)(hc:X.calm=true)(hi:PI X tg iter wi)(hg:PG X tg g)(hb:PSs X body tb)
  (hs:∀ x,foldedSetIterable iter X.env x=pure x:=by intro _;rfl):PS X (.For tg iter body [] pos) (IM wi g tb):=by
 intro pins s σ H D I h
 refine wpAny_For (thn (hi pins s σ H _ I h) fun v s1 h1=>thn h1 fun itv s2 h2=>?_) hs
 obtain⟨it,fp,tn,J,H2,e,I2,T,st2,f2,W,⟨m0,w0⟩,turn⟩:=h2
 subst e
 have stat:∀{H':Hp},(∀ b∈fp,H' b=none)→∀ b∈fp,X7 X pins H' b:=fun hn b hb=>⟨hn b hb,(f2 b hb).2⟩
 refine codeAny_forLoop_any (fun n s'=>∃ i σ' H',Inv X pins σ' H' s'∧tn i s'.heap∧(∀ b∈fp,H' b=none)∧W i n σ' H') ?_ m0 ⟨0,σ,H2,I2,st2,fun b hb=>(f2 b hb).1,w0⟩
 rintro n s3 ⟨i,σ3,H3,I3,st3,fr3,w3⟩
 rcases turn i n σ3 H3 w3 with⟨stop,qn⟩|⟨go,N,hN,step⟩
 ·refine wpAny_passesOwn hp (thn (T.done X rfl rfl rfl hc i pins s3 σ3 H3 X.xe I3 (stat fr3) st3 stop) fun r s4 zz=>?_)
  obtain⟨hr,I4⟩:=zz
  subst hr
  exact wpAny_execs_nil ⟨σ3,H3,I4,qn⟩
 ·refine wpAny_passesOwn hp (thn (T.item X rfl rfl rfl hc i pins s3 σ3 H3 X.xe I3 (stat fr3) st3 go) fun r s4 zz=>?_)
  obtain⟨u,hr,h4⟩:=zz
  subst hr
  refine wpAny_passesOwn hp (thn h4 fun _ s5 zz=>?_)
  obtain⟨x,H5,I5,r5,y5,st5,fr5⟩:=zz
  have I5':=I5.pinned (stat fr5) (T.obj _ _ st5)
  refine wpAny_passesOwn hp (thn (hg _ s5 σ3 H5 x u _ I5' r5 (step x H5 y5)) fun _ s6 zz=>?_)
  obtain⟨σ6,H6,I6,q6⟩:=zz
  refine wpAny_passesOwn hp (thn (hb _ s6 σ6 H6 _ I6 q6) fun f s7 q7=>?_)
  have again:∀{σ7:St} {H7:Hp},Inv X (pins++jS fp s5.heap) σ7 H7 s7→N σ7 H7→∃ m,m<n∧∃ i σ' H',Inv X pins σ' H' s7∧tn i s7.heap∧(∀ b∈fp,H' b=none)∧W i m σ' H':=fun{σ7 H7} I7 n7=>by
   obtain⟨m',hm,w7⟩:=hN σ7 H7 n7
   refine⟨m',hm,i+1,σ7,H7,I7.unpinned,T.keep _ _ _ st5 fun b hb o e=>(I7.pin (b,o) (MT _ (MT _ (F4 hb e)))).1,fun b hb=>?_,w7⟩
   obtain⟨o,e,d⟩:=T.obj _ _ st5 b hb
   exact(I7.pin (b,o) (MT _ (MT _ (F4 hb e)))).2.1
  cases f with
  | next=>obtain⟨σ7,H7,I7,n7⟩:=q7;exact again I7 n7
  | cont=>obtain⟨σ7,H7,I7,n7⟩:=q7;exact again I7 n7
  | brk=>obtain⟨σ7,H7,I7,q7⟩:=q7;exact⟨σ7,H7,I7.unpinned,q7⟩
  | ret v=>obtain⟨x7,σ7,H7,I7,r7,q7⟩:=q7;exact⟨x7,σ7,H7,I7.unpinned,r7,q7⟩
end
noncomputable abbrev R2:=V→V→Hp→VK→Prop
def OpR(X:Cx)(f:Value→Value→Sem Value)(r:R2):Prop :=
 ∀(pins:List (Addr × Obj)) (s:Shared) (σ:St) (H:Hp) (x y:V) (v u:Value) (Q:VK),Inv X pins σ H s→p7 x v→p7 y u→r x y H Q →
  wpAny (model X.prog X.w) X.A (f v u) (EP X pins σ Q) X.xe s
def UnR(X:Cx)(f:Value→Sem Value)(r:V→Hp→VK→Prop):Prop :=
 ∀(pins:List (Addr × Obj)) (s:Shared) (σ:St) (H:Hp) (x:V) (v:Value) (Q:VK),Inv X pins σ H s→p7 x v→r x H Q →
  wpAny (model X.prog X.w) X.A (f v) (EP X pins σ Q) X.xe s
def v9(X:Cx)(f:Value)(r:List V→Hp→VK→Prop):Prop :=
 ∀(pins:List (Addr × Obj)) (s:Shared) (σ:St) (H:Hp) (xs:List V) (us:List Value) (Q:VK),Inv X pins σ H s→j6 xs us→r xs H Q →
  wpAny (model X.prog X.w) X.A (call f us) (EP X pins σ Q) X.xe s
def tOp(r:R2)(ta tb:TE):TE:=fun σ H Q=>ta σ H fun x H1=>tb σ H1 fun y H2=>r x y H2 Q
def tUn(r:V→Hp→VK→Prop)(ta:TE):TE:=fun σ H Q=>ta σ H fun x H1=>r x H1 Q
def rI(C:Int→Int→Prop)(g:Int→Int→V):R2:=fun x y H Q=>∃ i j,x = .int i∧y = .int j∧C i j∧Q (g i j) H
def rI0(g:Int→Int→V):R2:=fun x y H Q=>∃ i j,x = .int i∧y = .int j∧Q (g i j) H
noncomputable def rU(g:Int→V):V→Hp→VK→Prop:=fun x H Q=>∃ i,x = .int i∧Q (g i) H
section
variable {X:Cx} {a b c:Expr} {ta tb tc:TE} {pos:Pos}
theorem FE(ha:PE X a ta)(hb:PE X b tb){pins:List (Addr × Obj)}{s:Shared}{σ:St}{H:Hp}{R:V→V→Hp→Prop}(I:Inv X pins σ H s)
  (h:ta σ H fun x H1=>tb σ H1 fun y H2=>R x y H2) {Q:Value→Shared→Prop} {f:Value→Value→Sem Value}
  (hf:∀ v u s2 x y H2,Inv X pins σ H2 s2→p7 x v→p7 y u→R x y H2→wpAny (model X.prog X.w) X.A (f v u) Q X.xe s2) :
  wpAny (model X.prog X.w) X.A (eval a X.env) (fun v s₁=>wpAny (model X.prog X.w) X.A (eval b X.env) (fun u s₂=>wpAny (model X.prog X.w) X.A (f v u) Q X.xe s₂) X.xe s₁) X.xe s:=by
 refine thn (ha pins s σ H _ I h) fun v s1 zz=>?_
 obtain⟨x,H1,I1,r1,q1⟩:=zz
 refine thn (hb pins s1 σ H1 _ I1 q1) fun u s2 zz=>?_
 obtain⟨y,H2,I2,r2,q2⟩:=zz
 exact hf v u s2 x y H2 I2 r1 r2 q2
theorem CV{op:Operator}{r:R2}(ho:OpR X (binaryOp op) r)(ha:PE X a ta)(hb:PE X b tb):PE X (.BinOp a op b pos) (tOp r ta tb):=by
 intro pins s σ H Q I h
 exact wpAny_BinOp (FE ha hb I h fun v u s2 x y H2 I2 rx ry q=>ho pins s2 σ H2 x y v u Q I2 rx ry q)
theorem Hb{op:UnaryOp}{r:V→Hp→VK→Prop}(ho:UnR X (unaryOp op) r)(ha:PE X a ta):PE X (.UnaryOp op a pos) (tUn r ta):=by
 intro pins s σ H Q I h
 exact UnaryOp_ (thn (ha pins s σ H _ I h) fun v s1 ⟨x,H1,I1,r1,q1⟩=>ho pins s1 σ H1 x v Q I1 r1 q1)
theorem opI{f:Value→Value→Sem Value}{C:Int→Int→Prop}{g:Int→Int→Int}
  (rule:∀(i j:Int) (t u:Tok) (s:Shared) (Q:Value→Shared→Prop) (E:Value→Shared→Prop),C i j→Q (.int (g i j) s.toks) { s with toks:=s.toks+1 }→wpAny (model X.prog X.w) X.A (f (.int i t) (.int j u)) Q E s) :
  OpR X f (rI C fun i j=>.int (g i j)):=by
 intro pins s σ H x y v u Q I rx ry h
 obtain⟨i,j,rfl,rfl,hc,q⟩:=h
 obtain⟨t,rfl⟩:=rx
 obtain⟨t',rfl⟩:=ry
 exact rule i j t t' s _ _ hc ⟨.int (g i j),H,I.tok _,⟨_,rfl⟩,q⟩
theorem Hm{f:Value→Value→Sem Value}{g:Int→Int→Int}
  (rule:∀(i j:Int) (t u:Tok) (s:Shared) (Q:Value→Shared→Prop) (E:Value→Shared→Prop),Q (.int (g i j) s.toks) { s with toks:=s.toks+1 }→wpAny (model X.prog X.w) X.A (f (.int i t) (.int j u)) Q E s) :
  OpR X f (rI0 fun i j=>.int (g i j)):=by
 intro pins s σ H x y v u Q I rx ry h
 obtain⟨i,j,rfl,rfl,q⟩:=h
 obtain⟨t,rfl⟩:=rx
 obtain⟨t',rfl⟩:=ry
 exact rule i j t t' s _ _ ⟨.int (g i j),H,I.tok _,⟨_,rfl⟩,q⟩
theorem AS{f:Value→Value→Sem Value}{g:Int→Int→Bool}
  (rule:∀(i j:Int) (t u:Tok) (s:Shared) (Q:Value→Shared→Prop) (E:Value→Shared→Prop),Q (.bool (g i j)) s→wpAny (model X.prog X.w) X.A (f (.int i t) (.int j u)) Q E s) :
  OpR X f (rI0 fun i j=>.bl (g i j)):=by
 intro pins s σ H x y v u Q I rx ry h
 obtain⟨i,j,rfl,rfl,q⟩:=h
 obtain⟨t,rfl⟩:=rx
 obtain⟨t',rfl⟩:=ry
 exact rule i j t t' s _ _ ⟨.bl (g i j),H,I,rfl,q⟩
def yI(i j:Int):Prop:=0≤j∧j≤1000000∧i.natAbs<2 ^ 64
theorem ES:OpR X (binaryOp .Add) (rI0 fun i j=>.int (i+j)):=Hm fun _ _ _ _ _ _ _ q=>add_int q
theorem EN:OpR X (binaryOp .Sub) (rI0 fun i j=>.int (i - j)):=Hm fun _ _ _ _ _ _ _ q=>sub_int q
theorem ER:OpR X (binaryOp .Mod) (rI (fun _ j=>0<j) fun i j=>.int (i % j)):=opI fun i j _ _ _ _ _ hc q=>by
 have h1:(0:Int)<j:=hc
 exact mod_int' (by omega) (by rw[Int.fmod_eq_emod_of_nonneg i (by omega)];exact q)
theorem EO:OpR X (binaryOp .Pow) (rI yI fun i j=>.int (i ^ j.toNat)):=opI fun _ _ _ _ _ _ _ hc q=>pow_int_small hc.1 hc.2.1 hc.2.2 q
theorem unI{f:Value→Sem Value}{g:Int→Int}
  (rule:∀(i:Int) (t:Tok) (s:Shared) (Q:Value→Shared→Prop) (E:Value→Shared→Prop),Q (.int (g i) s.toks) { s with toks:=s.toks+1 }→wpAny (model X.prog X.w) X.A (f (.int i t)) Q E s) :
  UnR X f (rU fun i=>.int (g i)):=by
 intro pins s σ H x v Q I rx h
 obtain⟨i,rfl,q⟩:=h
 obtain⟨t,rfl⟩:=rx
 exact rule i t s _ _ ⟨.int (g i),H,I.tok _,⟨_,rfl⟩,q⟩
theorem DR:UnR X (unaryOp .USub) (rU fun i=>.int (-i)):=unI fun _ _ _ _ _ q=>neg_int q
end
noncomputable def GR:V→V→Bool
 | .non,.non=>true|.non,.int _=>true|.int _,.non=>true|.non,.bl _=>true|.bl _,.non=>true|.non,.str _=>true|.str _,.non=>true
 | .int _,.int _=>true|.bl _,.bl _=>true|.str _,.str _=>true|.byt _,.byt _=>true
 | .int _,.str _=>true|.str _,.int _=>true|.bl _,.str _=>true|.str _,.bl _=>true
 | _,_=>false
def rEq:R2:=fun x y H Q=>GR x y=true∧Q (.bl (decide (x=y))) H
def rNe:R2:=fun x y H Q=>GR x y=true∧Q (.bl (!decide (x=y))) H
theorem rS{i j:Int}:decide (V.int i=V.int j)=(i == j):=by
 rw[Oc]
 simp
theorem pM{i j:Bool}:decide (V.bl i=V.bl j)=(i == j):=by
 rw[Oc]
 simp
theorem rR{i j:Str}:decide (V.str i=V.str j)=(i == j):=by
 rw[Oc]
 simp
theorem rT{i j:Array UInt8}:decide (V.byt i=V.byt j)=(i.toList == j.toList):=by
 rw[Oc]
 cases i
 cases j
 simp
section
variable {X:Cx} {a b c:Expr} {ta tb tc:TE} {pos:Pos}
theorem o9{pins:List (Addr × Obj)}{σ:St}{H:Hp}{s:Shared}{Q:VK}{k k':Bool}(I:Inv X pins σ H s)(q:Q (.bl k) H)(e:k=k'):EP X pins σ Q (.bool k') s:=by
 subst e
 exact⟨.bl k,H,I,rfl,q⟩
theorem CW:OpR X (compareOp .Eq) rEq:=by
 intro pins s σ H x y v u Q I rx ry h
 obtain⟨hs,q⟩:=h
 cases x with
 | non =>
  cases rx
  cases y with
  | non=>cases ry;exact PySem.EqNone.eq_none_none (o9 I q (by simp))
  | bl j=>cases ry;exact PySem.EqNone.eq_none_bool (o9 I q (by simp))
  | int j=>obtain⟨t',rfl⟩:=ry;exact PySem.EqNone.eq_none_int (o9 I q (by simp))
  | str j=>obtain⟨t',rfl⟩:=ry;exact PySem.EqNone.eq_none_str (o9 I q (by simp))
  | _=>exact absurd (show false=true from hs) MF
 | bl i =>
  cases rx
  cases y with
  | non=>cases ry;exact PySem.EqNone.eq_bool_none (o9 I q (by simp))
  | bl j=>cases ry;exact eq_bool (o9 I q pM)
  | str j=>obtain⟨t',rfl⟩:=ry;exact PySem.EqMixed.eq_bool_str (o9 I q (by simp))
  | _=>exact absurd (show false=true from hs) MF
 | int i =>
  obtain⟨t,rfl⟩:=rx
  cases y with
  | non=>cases ry;exact PySem.EqNone.eq_int_none (o9 I q (by simp))
  | int j=>obtain⟨t',rfl⟩:=ry;exact eq_int (o9 I q rS)
  | str j=>obtain⟨t',rfl⟩:=ry;exact PySem.EqMixed.eq_int_str (o9 I q (by simp))
  | _=>exact absurd (show false=true from hs) MF
 | str i =>
  obtain⟨t,rfl⟩:=rx
  cases y with
  | non=>cases ry;exact PySem.EqNone.eq_str_none (o9 I q (by simp))
  | bl j=>cases ry;exact PySem.EqMixed.eq_str_bool (o9 I q (by simp))
  | int j=>obtain⟨t',rfl⟩:=ry;exact PySem.EqMixed.eq_str_int (o9 I q (by simp))
  | str j=>obtain⟨t',rfl⟩:=ry;exact eq_str (o9 I q rR)
  | _=>exact absurd (show false=true from hs) MF
 | byt i =>
  obtain⟨t,rfl⟩:=rx
  cases y with
  | byt j=>obtain⟨t',rfl⟩:=ry;exact PySem.W.eq_bytes (o9 I q rT)
  | _=>exact absurd (show false=true from hs) MF
 | _=>cases y<;>exact absurd (show false=true from hs) MF
theorem wH:OpR X (compareOp .NotEq) rNe:=by
 intro pins s σ H x y v u Q I rx ry h
 obtain⟨hs,q⟩:=h
 cases x with
 | non =>
  cases rx
  cases y with
  | non=>cases ry;exact PySem.EqNone.ne_none_none (o9 I q (by simp))
  | bl j=>cases ry;exact PySem.EqNone.ne_none_bool (o9 I q (by simp))
  | int j=>obtain⟨t',rfl⟩:=ry;exact PySem.EqNone.ne_none_int (o9 I q (by simp))
  | str j=>obtain⟨t',rfl⟩:=ry;exact PySem.EqNone.ne_none_str (o9 I q (by simp))
  | _=>exact absurd (show false=true from hs) MF
 | bl i =>
  cases rx
  cases y with
  | non=>cases ry;exact PySem.EqNone.ne_bool_none (o9 I q (by simp))
  | bl j=>cases ry;exact ne_bool (o9 I q (congrArg not pM))
  | str j=>obtain⟨t',rfl⟩:=ry;exact PySem.EqMixed.ne_bool_str (o9 I q (by simp))
  | _=>exact absurd (show false=true from hs) MF
 | int i =>
  obtain⟨t,rfl⟩:=rx
  cases y with
  | non=>cases ry;exact PySem.EqNone.ne_int_none (o9 I q (by simp))
  | int j=>obtain⟨t',rfl⟩:=ry;exact ne_int (o9 I q (congrArg not rS))
  | str j=>obtain⟨t',rfl⟩:=ry;exact PySem.EqMixed.ne_int_str (o9 I q (by simp))
  | _=>exact absurd (show false=true from hs) MF
 | str i =>
  obtain⟨t,rfl⟩:=rx
  cases y with
  | non=>cases ry;exact PySem.EqNone.ne_str_none (o9 I q (by simp))
  | bl j=>cases ry;exact PySem.EqMixed.ne_str_bool (o9 I q (by simp))
  | int j=>obtain⟨t',rfl⟩:=ry;exact PySem.EqMixed.ne_str_int (o9 I q (by simp))
  | str j=>obtain⟨t',rfl⟩:=ry;exact ne_str (o9 I q (congrArg not rR))
  | _=>exact absurd (show false=true from hs) MF
 | byt i =>
  obtain⟨t,rfl⟩:=rx
  cases y with
  | byt j=>obtain⟨t',rfl⟩:=ry;exact PySem.W.ne_bytes (o9 I q (congrArg not rT))
  | _=>exact absurd (show false=true from hs) MF
 | _=>cases y<;>exact absurd (show false=true from hs) MF
theorem Hi:OpR X (compareOp .Lt) (rI0 fun i j=>.bl (decide (i<j))):=AS fun _ _ _ _ _ _ _ q=>lt_int q
theorem Hj:OpR X (compareOp .LtE) (rI0 fun i j=>.bl (decide (i≤j))):=AS fun _ _ _ _ _ _ _ q=>le_int q
theorem Hk:OpR X (compareOp .Gt) (rI0 fun i j=>.bl (decide (j<i))):=AS fun _ _ _ _ _ _ _ q=>gt_int q
theorem Hl:OpR X (compareOp .GtE) (rI0 fun i j=>.bl (decide (j≤i))):=AS fun _ _ _ _ _ _ _ q=>ge_int q
noncomputable def Hz:HO→Bool
 | .lst _=>true
 | .ins _ _ _=>true
 | _=>false
theorem ik{pins:List (Addr × Obj)}{s:Shared}{σ:St}{H:Hp}{a:Addr}{o:HO}(I:Inv X pins σ H s)(h:H a=some o)(p:Hz o=true):∃ ob,s.heap.get? a=some ob∧ob.cls ≠ .type "tuple" := by
 cases o with
 | lst xs =>
  obtain⟨_,its,n,_,e⟩:xs.length≤sizeLine∧∃(its:List Value) (n:Nat),j6 xs its∧s.heap.get? a=some { cls:=.type "list",data:=.seq its.toArray n }:=I.hok a _ h
  exact⟨_,e,(by show Value.type "list" ≠ .type "tuple";decide +kernel)⟩
 | ins C dx fs =>
  have x:=I.hok a _ h
  obtain⟨_,_,_,e,_⟩:=x
  exact⟨_,e,(by show Value.ref C ≠ .type "tuple";exact fun z=>by cases z)⟩
 | _=>exact absurd (show false=true from p) MF
theorem OpR.or{f:Value→Value→Sem Value}{r r':R2}(h:OpR X f r)(h':OpR X f r'):OpR X f (fun x y H Q=>r x y H Q∨r' x y H Q):=by
 intro pins s σ H x y v u Q I rx ry q
 rcases q with q|q
 ·exact h pins s σ H x y v u Q I rx ry q
 ·exact h' pins s σ H x y v u Q I rx ry q
theorem wU(b:Expr){op:CmpOp}(h:op ≠ .In:=by decide)(h2:op ≠ .NotIn:=by decide):behindInMarks op b=false:=by
 have e1:(op == CmpOp.In)=false:=by cases op<;>first|rfl|exact absurd rfl h
 have e2:(op == CmpOp.NotIn)=false:=by cases op<;>first|rfl|exact absurd rfl h2
 cases b<;>simp[behindInMarks,e1,e2]
theorem AK{op:CmpOp}{r:R2}(ho:OpR X (compareOp op) r)(ha:PE X a ta)(hb:PE X b tb)(hm:behindInMarks op b=false):PE X (.Compare a [op] [b] pos) (tOp r ta tb):=by
 intro pins s σ H Q I h
 exact wpAny_Compare1 (FE ha hb I h fun v u s2 x y H2 I2 rx ry q=>ho pins s2 σ H2 x y v u Q I2 rx ry q) hm
def GF(t:TE):TT:=fun σ H Q=>t σ H fun x H'=>∃ k,x = .bl k∧Q k H'
theorem Au{op:CmpOp}{r:R2}(ho:OpR X (compareOp op) r)(ha:PE X a ta)(hb:PE X b tb)(hm:behindInMarks op b=false):PT X (.Compare a [op] [b] pos) (GF (tOp r ta tb)):=by
 intro pins s σ H Q I h
 refine wpAny_isTrue_Compare1 (thn (ha pins s σ H _ I h) fun v s1 ⟨x,H1,I1,r1,q1⟩=>thn (hb pins s1 σ H1 _ I1 q1) fun u s2 ⟨y,H2,I2,r2,q2⟩ =>
  thn (ho pins s2 σ H2 x y v u _ I2 r1 r2 q2) fun c s3 ⟨z,H3,I3,r3,k,e,q3⟩=>?_) hm
 subst e
 cases r3
 exact wpAny_truthy_bool ⟨H3,I3,q3⟩
def vx(r r':R2)(ta tb tc:TE):TE:=fun σ H Q=>ta σ H fun x H1=>tb σ H1 fun y H2=>r x y H2 fun z H3=>∃ k,z = .bl k ∧
 (if k=true then tc σ H3 fun w' H4=>r' y w' H4 Q else Q (.bl false) H3)
theorem wF{op op':CmpOp}{r r':R2}(ho:OpR X (compareOp op) r)(ho':OpR X (compareOp op') r')(ha:PE X a ta)(hb:PE X b tb)(hc:PE X c tc)
  (hm:lastMarks [op,op'] [b,c]=false:=by with_unfolding_all rfl):PE X (.Compare a [op,op'] [b,c] pos) (vx r r' ta tb tc):=by
 intro pins s σ H Q I h
 refine Compare_chain (thn (ha pins s σ H _ I h) fun v s1 ⟨x,H1,I1,r1,q1⟩=>chain_link (thn (hb pins s1 σ H1 _ I1 q1) fun u s2 ⟨y,H2,I2,r2,q2⟩ =>
  thn (ho pins s2 σ H2 x y v u _ I2 r1 r2 q2) fun d s3 ⟨z,H3,I3,r3,k,e,q3⟩=>?_)) hm
 subst e
 cases r3
 refine wpAny_truthy_bool ?_
 cases k with
 | false=>exact ite_ff ⟨.bl false,H3,I3,rfl,q3⟩
 | true=>exact ite_tt (chain_last (thn (hc pins s3 σ H3 _ I3 q3) fun w' s4 ⟨z',H4,I4,r4,q4⟩=>ho' pins s4 σ H4 y z' u w' Q I4 r2 r4 q4))
theorem kr:(sizeLine:Nat)<2 ^ 63:=by rw[sizeLine_eq];decide
theorem gT{x:V}{us:List Value}(r:j6 [x] us):∃ u,us=[u]∧p7 x u:=by
 cases r with
 | cons r1 r2=>cases r2;exact⟨_,rfl,r1⟩
theorem vg{x y:V}{us:List Value}(r:j6 [x,y] us):∃ u w',us=[u,w']∧p7 x u∧p7 y w':=by
 cases r with
 | cons r1 r2 =>
  cases r2 with
  | cons r3 r4=>cases r4;exact⟨_,_,rfl,r1,r3⟩
theorem yj:v9 X (.builtin "abs") (fun xs H Q=>∃ i,xs=[.int i]∧Q (.int (if i<0 then -i else i)) H):=by
 intro pins s σ H xs us Q I r h
 obtain⟨i,rfl,q⟩:=h
 obtain⟨u,rfl,t,rfl⟩:=gT r
 exact call_abs_int fun u tk=>⟨.int (if i<0 then -i else i),H,I.tok _,⟨_,rfl⟩,q⟩
theorem tO(hc:X.calm=true):v9 X (.builtin "max") (fun xs H Q=>∃ i j,xs=[.int i,.int j]∧Q (.int (if j > i then j else i)) H):=by
 intro pins s σ H xs us Q I r h
 obtain⟨i,j,rfl,q⟩:=h
 obtain⟨u,w',rfl,⟨t,rfl⟩,⟨t',rfl⟩⟩:=vg r
 refine max_two_ints (I.ok.hd hc) fun h' tk k=>⟨_,H,I.kept k,?_,q⟩
 by_cases hj:j > i
 ·rw[if_pos hj,if_pos hj];exact⟨_,rfl⟩
 ·rw[if_neg hj,if_neg hj];exact⟨_,rfl⟩
theorem tN(hc:X.calm=true):v9 X (.builtin "min") (fun xs H Q=>∃ i j,xs=[.int i,.int j]∧Q (.int (if j<i then j else i)) H):=by
 intro pins s σ H xs us Q I r h
 obtain⟨i,j,rfl,q⟩:=h
 obtain⟨u,w',rfl,⟨t,rfl⟩,⟨t',rfl⟩⟩:=vg r
 refine min_two_ints (I.ok.hd hc) fun h' tk k=>⟨_,H,I.kept k,?_,q⟩
 by_cases hj:j<i
 ·rw[if_pos hj,if_pos hj];exact⟨_,rfl⟩
 ·rw[if_neg hj,if_neg hj];exact⟨_,rfl⟩
end
structure FL(h:Heap)(x dx C:Addr)(mA:Str→Option Value):Prop where
 obj:h.get? x=some (PySem.W.instObj C dx)
 ns:h.Ns1 dx mA
 ne:dx≠x
theorem tu{h:Heap}{dx:Addr}{mA:Str→Option Value}(n:h.Ns1 dx mA):∃ od,h.get? dx=some od∧∀ name,PySem.W.lookIn name od=some (mA name):=by
 obtain⟨o,es,ep,ho,hd,hk,_,hm⟩:=n
 refine⟨o,ho,fun name=>?_⟩
 have e:=hm name
 unfold nsFind findBy at e
 rw[← Array.find?_toList]at e
 unfold PySem.W.lookIn
 rw[hd]
 dsimp only
 split
 ·rename_i y q
  rw[q]at e
  exact congrArg some e
 ·rename_i q
  rw[q]at e
  have a:es.toList.any (·.refKey)=false:=by
   rw[Qw]
   intro y hy
   obtain⟨z,t,hkey⟩:=hk y (Array.mem_toList_iff.mp hy)
   simp[DictEntry.refKey,hkey]
  have a':¬ es.toList.any (·.refKey)=true:=by rw[a];exact MF
  rw[if_neg a']
  exact congrArg some e
theorem FL.look{h:Heap}{x dx C:Addr}{mA:Str→Option Value}(I:FL h x dx C mA):∃ od,PySem.W.InstAt h x (PySem.W.instObj C dx) C (some od)∧∀ name,PySem.W.lookIn name od=some (mA name) :=
 let ⟨od,ho,hl⟩:=tu I.ns
 ⟨od,⟨I.obj,rfl,rfl,ho⟩,hl⟩
section
variable {prog:Program} {w:World} {A:Around} {E:Value→Shared→Prop} {s:Shared} {K:Ms} {x dx C f:Addr} {mA:Str→Option Value} {name:Str} {v:Value}
end
section
variable {P:Program} {w:World} {H H':Hp} {h h':Heap} {a C dx:Addr} {fs fs':List (Str × V)}
theorem Bv(hok:HOk P w H h)(e:H a=some (.ins C dx fs)):∃ mA,FL h a dx C mA∧(∀ f,FK (fs.lookup f) (mA f))∧PySem.Within mA (fs.map (·.1))∧fs.length≤1000∧H dx=some (.own a):=by
 obtain⟨d,z,ne,ob,mA,n,r,q⟩:=(show B0 P w H h a (.ins C dx fs)from hok a _ e)
 exact⟨mA,⟨ob,n,ne⟩,r,q,z,d⟩
end
structure Cls(K:Ms)(C:Addr):Prop where
 pg:PySem.W.plainGet K C Str.empty=true
 hd:PySem.W.hasDictIn K C=true
 po:PySem.W.plainOver K C=true
 sa:PySem.W.findIn K (.ref C) "__setattr__" = some (some (.builtin "object.__setattr__"))
theorem Cls.get{K:Ms}{C:Addr}(c:Cls K C)(f:Str):PySem.W.plainGet K C f=true:=c.pg
section
variable {X:Cx} {pins:List (Addr × Obj)} {σ:St} {H:Hp} {s:Shared} {a C dx:Addr} {fs:List (Str × V)} {f:Str} {v:V} {A:Around} {E:Value→Shared→Prop}
theorem Inv.made(I:Inv X pins σ H s):Inv X pins σ (upd (upd H s.heap.objs.size (.own (s.heap.objs.size+1))) (s.heap.objs.size+1) (.ins C s.heap.objs.size []))
  { s with heap:=(s.heap.push PySem.W.emptyDict).push (PySem.W.instObj C s.heap.objs.size) }:=by
 have e1:(s.heap.push PySem.W.emptyDict).get? s.heap.objs.size=some PySem.W.emptyDict:=Mw s.heap rfl
 have e2:((s.heap.push PySem.W.emptyDict).push (PySem.W.instObj C s.heap.objs.size)).get? (s.heap.objs.size+1)=some (PySem.W.instObj C s.heap.objs.size):=by
  have:=Mw (s.heap.push PySem.W.emptyDict) (o:=PySem.W.instObj C s.heap.objs.size) rfl
  rwa [Nd]at this
 have e3:(s.heap.push PySem.W.emptyDict).Ns s.heap.objs.size (fun _=>none):=⟨PySem.W.emptyDict,#[],_,e1,rfl,(fun e he=>absurd he (by simp)),fun _=>rfl⟩
 have I1:=I.laid (a:=s.heap.objs.size) (o:=.own (s.heap.objs.size+1)) (h':=s.heap.push PySem.W.emptyDict) (t':=s.toks) (fun b u q=>Mr _ q) (MM _) ⟨_,e1⟩
 refine I1.laid (a:=s.heap.objs.size+1) (o:=.ins C s.heap.objs.size []) (t':=s.toks) (fun b u q=>Mr _ q) (PJ (Nd _ _)) ?_
 have ne:s.heap.objs.size≠s.heap.objs.size+1:=MN (Pu _)
 refine⟨by rw[g5 ne,i7],Np _,ne,e2,fun _=>none,(Heap.Ns1.of_empty e3).at fun o q=>Mr _ q,fun _=>True.intro,fun y hy=>absurd rfl hy⟩
end
section
variable {X:Cx} {o e value:Expr} {f:Str} {pos pos' tpos:Pos} {ta tv:TE}
end
section
variable {X:Cx} {pins:List (Addr × Obj)} {σ:St} {H:Hp} {s:Shared} {A:Around} {E:Value→Shared→Prop} {Q:Value→Shared→Prop} {c:Value} {b:Bool}
inductive cG (K:Ms) (H:Hp):V→Value→Prop where
 | non:cG K H .non (.type "NoneType")
 | bl (x:Bool):cG K H (.bl x) (.type "bool")
 | int (i:Int):cG K H (.int i) (.type "int")
 | str (x:Str):cG K H (.str x) (.type "str")
 | flt (x:UInt64):cG K H (.flt x) (.type "float")
 | lst {a:Addr} {xs:List V} (e:H a=some (.lst xs)):cG K H (.ref a) (.type "list")
 | frz {a:Addr} {o:Obj} {xs:List V} (e:H a=some (.frz o (.lst xs))):cG K H (.ref a) (.type "list")
 | tup {a:Addr} {xs:List V} (e:H a=some (.tup xs)):cG K H (.ref a) (.type "tuple")
 | dK {a:Addr} {kvs:List (Key × V)} (e:H a=some (.dK kvs)):cG K H (.ref a) (.type "dict")
 | dT {a:Addr} {kvs:List (List Key × V)} (e:H a=some (.dT kvs)):cG K H (.ref a) (.type "dict")
 | ins {a C dx:Addr} {fs:List (Str × V)} (e:H a=some (.ins C dx fs)) (cl:Cls K C) (ha:PySem.W.findIn K (.ref C) "__class__" = some (some (.builtin "object.__class__")))
   (hn:PySem.W.specialIn K (.builtin "object.__class__") "__get__" = some (some (.builtin "getset_descriptor.__get__"))) (htk:PySem.W.takesIn K (.builtin "object.__class__")=some true)
   (hm:PySem.W.mroIn K C (.type "object")=some true):cG K H (.ref a) (.ref C)
theorem O0{x:V}{u t:Value}(I:Inv X pins σ H s)(rx:p7 x u)(ty:cG X.K H x t)(e:PySem.W.kitOne X.K t c=some b)(h:∀ tk,Q (.bool b) { s with toks:=tk }) :
  wpAny (model X.prog X.w) A (call (.builtin "isinstance") [u,c]) Q E s:=by
 cases ty with
 | non=>cases(show u=Value.none from rx);exact PySem.W.kia_one PySem.W.kitx_none I.kIn True.intro e (fun z=>nomatch z) h
 | bl y=>cases(show u=Value.bool y from rx);exact PySem.W.kia_one PySem.W.kitx_bool I.kIn True.intro e (fun z=>nomatch z) h
 | int i=>obtain⟨t,q⟩:=(show ∃ t,u=Value.int i t from rx);cases q;exact PySem.W.kia_one PySem.W.kitx_int I.kIn True.intro e (fun z=>nomatch z) h
 | str y=>obtain⟨t,q⟩:=(show ∃ t,u=Value.str y t from rx);cases q;exact PySem.W.kia_one PySem.W.kitx_str I.kIn True.intro e (fun z=>nomatch z) h
 | flt y=>obtain⟨t,q⟩:=(show ∃ t,u=Value.float y t from rx);cases q;exact PySem.W.kia_one PySem.W.kitx_float I.kIn True.intro e (fun z=>nomatch z) h
 | @lst a xs ea =>
  cases(show u=Value.ref a from rx)
  obtain⟨_,_,n,_,h1⟩:=(show B0 X.prog X.w H s.heap a (.lst xs)from I.hok a _ ea)
  exact PySem.W.kia_one PySem.W.kitx_list I.kIn ⟨_,h1,rfl⟩ e (fun z=>nomatch z) h
 | @frz a ob xs ea =>
  cases(show u=Value.ref a from rx)
  obtain⟨_,_,_,n,_,h1⟩:=(show B0 X.prog X.w H s.heap a (.frz ob (.lst xs))from I.hok a _ ea)
  exact PySem.W.kia_one PySem.W.kitx_list I.kIn ⟨_,h1,rfl⟩ e (fun z=>nomatch z) h
 | @tup a xs ea =>
  cases(show u=Value.ref a from rx)
  obtain⟨_,_,_,p⟩:=(show B0 X.prog X.w H s.heap a (.tup xs)from I.hok a _ ea)
  obtain⟨o,h1,h2,_⟩:=p
  exact PySem.W.kia_one PySem.W.kitx_tuple I.kIn ⟨o,h1,h2⟩ e (fun z=>nomatch z) h
 | @dK a kvs ea =>
  cases(show u=Value.ref a from rx)
  obtain⟨_,_,vs,_,p⟩:=(show B0 X.prog X.w H s.heap a (.dK kvs)from I.hok a _ ea)
  obtain⟨o,es,ep,h1,h2,_⟩:=p
  exact PySem.W.kia_one PySem.W.kitx_dict I.kIn ⟨o,h1,h2.1⟩ e (fun z=>nomatch z) h
 | @dT a kvs ea =>
  cases(show u=Value.ref a from rx)
  obtain⟨_,_,xs,_,o,es,ep,h1,h2,_⟩:=(show B0 X.prog X.w H s.heap a (.dT kvs)from I.hok a _ ea)
  exact PySem.W.kia_one PySem.W.kitx_dict I.kIn ⟨o,h1,h2.1⟩ e (fun z=>nomatch z) h
 | @ins a C dx fs ea cl ha hn htk hm =>
  cases(show u=Value.ref a from rx)
  obtain⟨mA,O,_⟩:=Bv I.hok ea
  obtain⟨od,J,_⟩:=O.look
  exact PySem.W.kia_one (PySem.W.kitx_own (cl.get _) cl.hd ha hn htk hm) I.kIn J e (fun z=>nomatch z) h
end
structure G6(k:Nat)(A:Around):Prop where
 hd:A.handled=none
 dp:A.depth+3*k+5<recursionLimit
 un:A.units+16*k+200<cLine
theorem G6.mono{j k:Nat}{A:Around}(r:G6 k A)(h:j≤k):G6 j A:=⟨r.hd,by have:=r.dp;omega,by have:=r.un;omega⟩
theorem G6.deeper{k:Nat}{A:Around}(r:G6 (k+1) A)(env:Env):G6 k (A.deeper env) :=
 ⟨r.hd,by have:=r.dp;show A.depth+1+3*k+5<_;omega,by have:=r.un;show A.units+3+16*k+200<_;omega⟩
theorem G6.in1{k:Nat}{A:Around}(r:G6 (k+1) A):G6 k A.in1 :=
 ⟨r.hd,by have:=r.dp;show A.depth+3*k+5<_;omega,by have:=r.un;show A.units+1+16*k+200<_;omega⟩
theorem G6.depth{k:Nat}{A:Around}(r:G6 k A):A.depth<recursionLimit:=by have:=r.dp;omega
theorem G6.units{k:Nat}{A:Around}(r:G6 k A):A.units+64<cLine:=by have:=r.un;omega
def IJ:TA:=fun _ H Q=>Q [] H
def GN(ta:TE)(tr:TA):TA:=fun σ H Q=>ta σ H fun x H1=>tr σ H1 fun xs H2=>Q (x :: xs) H2
section
variable {X:Cx} {e:Expr} {es:List Expr} {te:TE} {t:TA} {pos:Pos}
theorem EM:PA X [] IJ:=fun _ _ _ _ H Q I h=>Calls.spliced_nil ⟨[],H,I,.nil,h⟩
theorem AN(ha:PE X e te)(hr:PA X es t)(hs:starEach (e :: es) X.env=(false,eval e X.env) :: starEach es X.env:=by rfl):PA X (e :: es) (GN te t):=by
 intro pos pins s σ H Q I h
 rw[hs]
 show wpAny _ _ (spliced ((false,eval e X.env) :: backTo pos (starEach es X.env))) _ _ s
 refine Calls.spliced_cons (thn (ha pins s σ H _ I h) fun u s1 zz=>?_)
 obtain⟨x,H1,I1,r1,q1⟩:=zz
 exact thn (hr pos pins s1 σ H1 _ I1 q1) fun us s2 ⟨xs,H2,I2,r2,q2⟩=>⟨x :: xs,H2,I2,.cons r1 r2,q2⟩
def IE(t:TA):TE:=fun σ H Q=>t σ H fun xs H1=>xs.length≤sizeLine∧∀ p,H1 p=none→Q (.ref p) (upd H1 p (.tup xs))
def IK(t:TA):TE:=fun σ H Q=>t σ H fun xs H1=>xs.length≤sizeLine∧∀ p,H1 p=none→Q (.ref p) (upd H1 p (.lst xs))
theorem EE{x1}(h:PA X es t):PE X (.Tuple es x1 pos) (IE t):=by
 intro pins s σ H Q I hq
 refine wpAny_Tuple_spliced (thn (h pos pins s σ H _ I hq) fun us s1 ⟨xs,H1,I1,r,z,q⟩=>⟨by rw[← r.length];exact z,?_⟩)
 have hf:H1 s1.heap.objs.size=none:=I1.hok.fresh (MM _)
 refine⟨.ref s1.heap.objs.size,upd H1 s1.heap.objs.size (.tup xs),I1.laid (t':=s1.toks) (fun b u e=>Mr _ e) (MM _) ?_,rfl,q _ hf⟩
 exact⟨z,us,r,⟨_,Mw _ rfl,rfl,_,rfl⟩⟩
theorem wB(h:PA X es t):PE X (.List es pos) (IK t):=by
 intro pins s σ H Q I hq
 refine wpAny_List_spliced (thn (h pos pins s σ H _ I hq) fun us s1 ⟨xs,H1,I1,r,z,q⟩=>⟨by rw[← r.length];exact z,?_⟩)
 have hf:H1 s1.heap.objs.size=none:=I1.hok.fresh (MM _)
 refine⟨.ref s1.heap.objs.size,upd H1 s1.heap.objs.size (.lst xs),I1.laid (t':=s1.toks) (fun b u e=>Mr _ e) (MM _) ?_,rfl,q _ hf⟩
 exact⟨z,us,0,r,Mw _ rfl⟩
end
noncomputable abbrev Sp:=List V→Hp→VK→XK→Prop
noncomputable abbrev CXT:=List Env→Hp→Shared→XK→Value→Shared→Prop
structure qb(P:Program)(w:World)(K:Ms)(mg:Str→Option Value)(base:Heap)(A:Around)(outer:List Env)(s:Shared)(H:Hp):Prop where
 frames:A.frames=some outer
 mod:Mod K mg base
 bs:∀ b o,base.get? b=some o→s.heap.get? b=some o∧H b=none
 bsz:base.objs.size≤s.heap.objs.size
 funs:s.heap.FunFrames base outer
 frf:∀ b∈frs outer,H b=none
 hok:HOk P w H s.heap
 bare:AllBare s.gens
def CE(outer:List Env)(P:Program)(w:World)(H:Hp)(s:Shared)(Q:VK)(u:Value)(s':Shared):Prop :=
 ∃ v H',s'.os=s.os∧AllBare s'.gens∧Un (frs outer) [] H H' s.heap s'.heap∧HOk P w H' s'.heap∧p7 v u∧Q v H'
def CR(CX:CXT)(outer:List Env)(P:Program)(w:World)(H:Hp)(s:Shared)(Q:VK)(E:XK)(r:Result)(s':Shared):Prop :=
 match r with
 | .ok (.ret u)=>CE outer P w H s Q u s'
 | .ok _=>False
 | .error e=>CX outer H s E e s'
structure S1(P:Program)(w:World)(K:Ms)(mg:Str→Option Value)(base:Heap)(CX:CXT)(k:Nat)(f:Addr)(fd:FuncData)(ps:List Str)(sp:Sp):Prop where
 len:∀ vs H Q E,sp vs H Q E→vs.length=ps.length
 run:∀(A:Around) (outer:List Env) (s:Shared) (H:Hp) (args:Args) (us:List Value) (vs:List V) (Q:VK) (E:XK),G6 k A→qb P w K mg base A outer s H→BindsTo s fd args (ps.zip us)→j6 vs us→sp vs H Q E →
  codeAny (model P w) A (.call (.ref f) args) (CR CX outer P w H s Q E) s
theorem S1.mono{P:Program}{w:World}{K:Ms}{mg:Str→Option Value}{base:Heap}{CX:CXT}{j k:Nat}{f:Addr}{fd:FuncData}{ps:List Str}{sp:Sp}(F:S1 P w K mg base CX j f fd ps sp)(h:j≤k) :
  S1 P w K mg base CX k f fd ps sp:=⟨F.len,fun A outer s H args us vs Q E hr=>F.run A outer s H args us vs Q E (hr.mono h)⟩
theorem S1.imp{P:Program}{w:World}{K:Ms}{mg:Str→Option Value}{base:Heap}{CX:CXT}{k:Nat}{f:Addr}{fd:FuncData}{ps:List Str}{sp sp':Sp}(F:S1 P w K mg base CX k f fd ps sp)
  (h:∀ vs H Q E,sp' vs H Q E→sp vs H Q E):S1 P w K mg base CX k f fd ps sp' :=
 ⟨fun vs H Q E q=>F.len vs H Q E (h _ _ _ _ q),fun A outer s H args us vs Q E hr he hb hv hs=>F.run A outer s H args us vs Q E hr he hb hv (h _ _ _ _ hs)⟩
theorem qb.in1{P:Program}{w:World}{K:Ms}{mg:Str→Option Value}{base:Heap}{A:Around}{outer:List Env}{s:Shared}{H:Hp}(e:qb P w K mg base A outer s H) :
  qb P w K mg base A.in1 outer s H:=⟨e.frames,e.mod,e.bs,e.bsz,e.funs,e.frf,e.hok,e.bare⟩
section
variable {X:Cx} {pins:List (Addr × Obj)} {σ:St} {H:Hp} {s s':Shared}
theorem Inv.env0(I:Inv X pins σ H s):qb X.prog X.w X.K X.mg X.base X.A X.stack s H :=
 ⟨I.ok.frames,I.ok.mod,I.bs,ME I.ok.bsz I.sz,I.stack,I.stkFree,I.hok,I.bare⟩
theorem Inv.after{Q:VK}{u:Value}(I:Inv X pins σ H s)(h:CE X.stack X.prog X.w H s Q u s'):EP X pins σ Q u s':=by
 obtain⟨v,H',os,bare,un,hok,r,q⟩:=h
 obtain⟨hh,g,d,t,os'⟩:=s'
 obtain rfl:os'=s.os:=os
 exact⟨v,H',I.call (h':=hh) (g':=g) (d':=d) (t':=t) (ch:=[]) un hok bare (fun b z=>absurd z (by simp)),r,q⟩
end
def GO(sp:Sp)(dvs:List V)(E:XK)(t:TA):TE:=fun σ H Q=>t σ H fun vs H1=>sp (vs++dvs) H1 Q E
def fc(K:Ms)(fd:FuncData)(ps:List Str)(ds:List Value):Prop :=
 ∀(s:Shared) (us:List Value),K.In s.heap→(us++ds).length=ps.length→BindsTo s fd ⟨us,[]⟩ (ps.zip (us++ds))
theorem fc.all{K:Ms}{fd:FuncData}{ps:List Str}(h:∀ us:List Value,us.length=ps.length→bindArgs fd ⟨us,[]⟩=pure (ps.zip us)):fc K fd ps []:=fun s us _ hl=>by
 rw[OA]at hl ⊢
 exact .of_eq (h us hl)
def kX(CX:CXT)(X:Cx)(E:XK):Prop:=∀(pins:List (Addr × Obj)) (σ:St) (H:Hp) (s:Shared) (e:Value) (s':Shared),Inv X pins σ H s→CX X.stack H s E e s'→X.xe e s'
section
variable {X:Cx} {CX:CXT} {k:Nat} {f C:Addr} {fd:FuncData} {ps:List Str} {sp:Sp} {dvs:List V} {ds:List Value} {E:XK} {x m:Str} {p pos apos:Pos} {e o:Expr} {es:List Expr} {ta:TE} {t:TA}
theorem Ej{pins:List (Addr × Obj)}{σ:St}{H:Hp}{s:Shared}{Q:VK}{us:List Value}{vs:List V}(F:S1 X.prog X.w X.K X.mg X.base CX k f fd ps sp)(hr:G6 k X.A)(hb:fc X.K fd ps ds)(hd:j6 dvs ds)(hx:kX CX X E)
  (I:Inv X pins σ H s) (r:j6 vs us) (h:sp (vs++dvs) H Q E):wpAny (model X.prog X.w) X.A (call (.ref f) us) (EP X pins σ Q) X.xe s:=by
 have r2:j6 (vs++dvs) (us++ds):=r.append hd
 have hl:(us++ds).length=ps.length:=by rw[← r2.length];exact F.len _ _ _ _ h
 refine wpAny_call (codeAny_mono (F.run X.A X.stack s H ⟨us,[]⟩ (us++ds) (vs++dvs) Q E hr I.env0 (hb s us I.kIn hl) r2 h) fun r s' hq=>?_)
 cases r with
 | error e=>exact hx pins σ H s e s' I hq
 | ok fl =>
  cases fl with
  | ret u=>exact I.after hq
  | next=>exact False.elim hq
  | brk=>exact False.elim hq
  | cont=>exact False.elim hq
theorem AL(F:S1 X.prog X.w X.K X.mg X.base CX k f fd ps sp)(hr:G6 k X.A)(hg:Gl X x)(hm:X.mg x=some (.ref f))(hk:PySem.W.keepIn X.K (.ref f)=true)(hb:fc X.K fd ps ds)(hd:j6 dvs ds)(hx:kX CX X E)
  (ha:PA X (e :: es) t) (hdb:(x == ("__debug__" : Str))=false:=by decide) (he:starEach (e :: es) X.env=(false,eval e X.env) :: starEach es X.env:=by rfl) (hpl:(backTo pos (starEach es X.env)).any (·.1)=false:=by rfl) :
  PE X (.Call (.Name x p) (e :: es) [] pos) (GO sp dvs E t):=by
 intro pins s σ H Q I h
 refine wpAny_Call_Name_kw (rE I hg hm ?_ hdb)
 refine PySem.W.callWith_K (h₀:=X.base) I.ok.mod.kin hk (thn (ha pos pins s σ H _ I h) fun us s1 ⟨vs,H1,I1,r,q⟩=>⟨I1.kIn,?_⟩) he hpl
 exact Ej F hr hb hd hx I1 r q
end
section
variable {X:Cx} {CX:CXT} {k:Nat} {f C:Addr} {fd:FuncData} {ps ks:List Str} {sp:Sp} {E:XK} {x m:Str} {p pos apos kpos:Pos} {e o:Expr} {es:List Expr} {kws:List Keyword} {te ta:TE} {t tk:TA} {nm:Option Str}
variable {g:List Value→List Value→List Value} {gV:List V→List V→List V}
end
structure e9(N P:List Str)(sc:Scope):Prop where
 kind:sc.kind = .function
 co:sc.isCoroutine=false
 gen:sc.isGenerator=false
 nd:N.Nodup
 pre:N.take P.length=P
 par:∀ x∈P,sc.names.lookup x=some .local∨sc.names.lookup x=some .cell
 nofree:∀ y∈sc.names,y.2 ≠ .free
theorem iG{kindOf:Str→Option NameKind}{x:Str}:∀{binds:List (Str × Value)} {m:Str→Option Value},(∀ v,(x,v)∉binds)→bindL kindOf binds m x=m x
 | [],_,_=>rfl
 | (n,v) :: r,m,h=>by
  unfold bindL
  rw[iG fun w hw=>h w (Mx _ hw)]
  split
  ·have:x≠n:=by rintro rfl;exact h v Mz
   simp[this]
  ·rfl
theorem iJ{kindOf:Str→Option NameKind}{x:Str}:∀{binds:List (Str × Value)} {m:Str→Option Value},(∀ v,(x,v)∉binds)→bindC kindOf binds m x=m x
 | [],_,_=>rfl
 | (n,v) :: r,m,h=>by
  unfold bindC
  rw[iJ fun w hw=>h w (Mx _ hw)]
  split
  ·rfl
  ·have:x≠n:=by rintro rfl;exact h v Mz
   simp[this]
theorem iH{kindOf:Str→Option NameKind}{x:Str}{v:Value}:∀{P:List Str} {vs:List Value} {i:Nat} {m:Str→Option Value},P.Nodup→P[i]? = some x→vs[i]? = some v→kindOf x=some .local →
  bindL kindOf (P.zip vs) m x=some v
 | [],_,_,_,_,h,_,_=>by simp at h
 | _ :: _,[],_,_,_,_,h,_=>by simp at h
 | p :: P,w :: vs,0,m,nd,h1,h2,hk=>by
  simp at h1 h2;subst h1;subst h2
  show bindL kindOf ((p,w) :: P.zip vs) m p=_
  unfold bindL
  rw[iG fun v hv=>(OW.mp nd).1 (OX hv).1,if_pos hk]
  simp
 | p :: P,w :: vs,i+1,m,nd,h1,h2,hk=>by
  show bindL kindOf ((p,w) :: P.zip vs) m x=_
  unfold bindL
  exact iH (i:=i) (OW.mp nd).2 (by simpa using h1) (by simpa using h2) hk
theorem iK{kindOf:Str→Option NameKind}{x:Str}{v:Value}:∀{P:List Str} {vs:List Value} {i:Nat} {m:Str→Option Value},P.Nodup→P[i]? = some x→vs[i]? = some v→kindOf x≠some .local →
  bindC kindOf (P.zip vs) m x=some v
 | [],_,_,_,_,h,_,_=>by simp at h
 | _ :: _,[],_,_,_,_,h,_=>by simp at h
 | p :: P,w :: vs,0,m,nd,h1,h2,hk=>by
  simp at h1 h2;subst h1;subst h2
  show bindC kindOf ((p,w) :: P.zip vs) m p=_
  unfold bindC
  rw[iJ fun v hv=>(OW.mp nd).1 (OX hv).1,if_neg hk]
  simp
 | p :: P,w :: vs,i+1,m,nd,h1,h2,hk=>by
  show bindC kindOf ((p,w) :: P.zip vs) m x=_
  unfold bindC
  exact iK (i:=i) (OW.mp nd).2 (by simpa using h1) (by simpa using h2) hk
noncomputable def start(N:List Str)(vs:List V):St:=vs.map some++NZ (N.length - vs.length) none
noncomputable def pP(CX:CXT)(P:Program)(w:World)(K:Ms)(mg:Str→Option Value)(base:Heap)(N:List Str)(qual:Str)(scope:Scope)(f:Addr)(cd:Value)(A:Around)(outer:List Env)(s:Shared)(H:Hp)(E:XK):Cx where
 prog:=P
 w:=w
 K:=K
 mg:=mg
 base:=base
 A:=A.deeper (envOfC qual scope s.heap.objs.size f cd)
 N:=N
 s₀:=s
 H₀:=H
 env:=envOfC qual scope s.heap.objs.size f cd
 outer:=outer
 stack:=envOfC qual scope s.heap.objs.size f cd :: outer
 ex:=[]
 calm:=true
 fn:=fun _=>true
 pn:=[]
 xe:=fun e s'=>wpAny (model P w) (A.deeper (envOfC qual scope s.heap.objs.size f cd)) (leaving (envOfC qual scope s.heap.objs.size f cd) e) (fun _ s''=>CX outer H s E e s'') (fun e' s''=>CX outer H s E e' s'') s'
theorem nQ{sc:Scope}{n:Nat}{x:Str}(h:sc.names.lookup x=some .cell):∃ c,(cellsFrom n sc.names []).lookup x=some c:=by
 have q:=PySem.W.cellsFrom_some sc.names n [] (.inl h)
 exact Option.isSome_iff_exists.mp q
theorem tH{CX:CXT}{P:Program}{w:World}{K:Ms}{mg:Str→Option Value}{base:Heap}{N ps:List Str}{qual:Str}{scope:Scope}{f:Addr}{cd:Value}{A:Around}{outer:List Env}{s s1:Shared}{H:Hp}{E:XK}{us:List Value}{vs:List V}
  (S:e9 N ps scope) (hd:A.handled=none) (e0:qb P w K mg base A outer s H) (hl:vs.length=ps.length) (r:j6 vs us)
  (x:InCallC s s.heap.objs.size (bindL (envOfC qual scope s.heap.objs.size f cd).kindOf (ps.zip us) fun _=>none) (cellsFrom (s.heap.objs.size+1) scope.names []) (bindC (envOfC qual scope s.heap.objs.size f cd).kindOf (ps.zip us) fun _=>none) s1) :
  Inv (pP CX P w K mg base N qual scope f cd A outer s H E) [] (start N vs) H s1:=by
 have hpl:ps.length≤N.length:=by have:=congrArg QM S.pre;rw[Nr]at this;omega
 obtain⟨h1,tk,rfl,hk⟩:=x.done
 have noA:∀ b:Addr,b∉(pP CX P w K mg base N qual scope f cd A outer s H E).ex:=fun b z=>absurd (show b∈([]:List Addr)from z) (by simp)
 refine⟨⟨e0.mod,S.kind,rfl,rfl,MM _,fun y z c h1 h2=>?_,fun y hy=>?_,fun y c _ h=>?_,fun _=>hd,Around.frames_deeper e0.frames,.inr ⟨rfl,rfl⟩,fun b z=>absurd z (noA b),e0.bs,e0.bsz,fun b _ _=>noA b,fun b z=>absurd z (noA b),e0.funs,e0.frf⟩,
  rfl,e0.bare,Un.kept hk,⟨_,x.toInCall.ns,fun i y v h1 h2 h3=>?_⟩,fun y c h=>⟨_,x.cell y c h⟩,e0.hok.fresh (MM _),fun y c h=>?_,fun p hp=>absurd (show p∈([]:List (Addr × Obj))from hp) (by simp),e0.hok.kept hk,?_⟩
 ·exact name_of_addr x.apart (PySem.mem_of_lookup h1) (PySem.mem_of_lookup h2)
 ·have hy:scope.names.lookup y=some .cell∨scope.names.lookup y=some .free:=hy
  rcases hy with hy|hy
  ·exact nQ hy
  ·exact absurd rfl (S.nofree _ (PySem.mem_of_lookup hy))
 ·exact NC (x.above y c (PySem.mem_of_lookup h))
 ·have hi:i<vs.length:=by
   unfold start at h2
   by_cases hi:i<vs.length
   ·exact hi
   ·rw[List.getElem?_append_right (by simpa using hi)]at h2
    rw[NK]at h2
    split at h2<;>cases h2
  have ha:vs[i]? = some v:=by
   unfold start at h2
   rw[List.getElem?_append_left (by simpa using hi),MV]at h2
   cases e:vs[i]? with
   | none=>rw[e]at h2;cases h2
   | some a=>rw[e]at h2;cases h2;rfl
  obtain⟨u,hu,rv⟩:=r.get ha
  have hp:ps[i]? = some y:=by
   rw[← S.pre,List.getElem?_take_of_lt (by omega)];exact h1
  have ndP:ps.Nodup:=by rw[← S.pre];exact S.nd.sublist (List.take_sublist _ _)
  refine⟨u,rv,?_⟩
  rcases S.par y (MI hp)with k|k
  ·exact .inl ⟨k,iH ndP hp hu k⟩
  ·obtain⟨c,e⟩:=nQ (n:=s.heap.objs.size+1) k
   refine .inr ⟨.inl k,c,e,?_⟩
   have q:=x.cell y c e
   rw[iK ndP hp hu (by show scope.names.lookup y≠_;rw[k];decide)]at q
   exact q
 ·exact e0.hok.fresh (NC (x.above y c (PySem.mem_of_lookup h)))
 ·unfold start
  show _=N.length
  rw[Nu,MA,OJ]
  omega
theorem HL{CX:CXT}{P:Program}{w:World}{K:Ms}{mg:Str→Option Value}{base:Heap}{k:Nat}{f:Addr}{name qual:Str}{params:Arguments}{body:List Stmt}{scope:Scope}{dV kV doc pm cdv ct oc:Value}{an od:Option Addr}
  {osl:Array (Option Value)} {N ps:List Str} {sp:Sp} (lk:K.lookup f=some ⟨oc,od,.func (PySem.W.fnOf name qual params body scope dV kV doc pm an cdv ct),osl⟩) (hcd:PySem.W.codeIn K cdv qual=true) (S:e9 N ps scope)
  (len:∀ vs H Q E,sp vs H Q E→vs.length=ps.length)
  (hbody:∀(A:Around) (outer:List Env) (s:Shared) (H:Hp) (vs:List V) (Q:VK) (E:XK),G6 k (A.deeper (envOfC qual scope s.heap.objs.size f cdv))→sp vs H Q E →
   ∃ t,PSs (pP CX P w K mg base N qual scope f cdv A outer s H E) body t∧t { nx:=fun _ H'=>Q .non H',rt:=Q } (start N vs) H) :
  S1 P w K mg base CX (k+1) f (PySem.W.fnOf name qual params body scope dV kV doc pm an cdv ct) ps sp:=by
 refine⟨len,fun A outer s H args us vs Q E hr e0 hb r hsp=>?_⟩
 have hl:=len _ _ _ _ hsp
 have KX:K.In s.heap:=e0.mod.kin.keeps fun b o e=>(e0.bs b o e).1
 have lim:s.heap.NoLimit:=e0.mod.nolimit.keeps fun b o e=>(e0.bs b o e).1
 have hkind:∀ y∈ps.zip us,scope.names.lookup y.1=some .local∨(scope.names.lookup y.1=some .cell∧((cellsFrom (s.heap.objs.size+1) scope.names []).lookup y.1).isSome=true):=fun⟨n,v⟩ hy=>by
  rcases S.par n (OX hy).1 with q|q
  ·exact .inl q
  ·exact .inr ⟨q,PySem.W.cellsFrom_some _ _ _ (.inl q)⟩
 refine codeAny_call_function hr.depth (KX _ _ lk) rfl S.co S.gen rfl (PySem.W.codeRec_of KX hcd) (hb _ _ _ _ ?_)
 refine wpAny_newFunctionEnv_cells S.kind hkind fun env he s1 x=>?_
 subst he
 refine⟨lim.keeps x.toInCall.keep,codeAny_func ?_⟩
 obtain⟨t,ht,hq⟩:=hbody A outer s H vs Q E (hr.deeper _) hsp
 have I:Inv (pP CX P w K mg base N qual scope f cdv A outer s H E) [] (start N vs) H s1:=tH S hr.hd e0 hl r x
 refine wpAny_mono (ht [] s1 (start N vs) H _ I hq) (fun fl s' hs=>?_) fun e s' hs=>hs
 have fin:∀{σ':St} {H':Hp} {v:V} {u:Value},Inv (pP CX P w K mg base N qual scope f cdv A outer s H E) [] σ' H' s'→p7 v u→Q v H'→CE outer P w H s Q u s' :=
  fun{σ' H' v u} J rv q=>⟨v,H',J.os,J.bare,J.base,J.hok,rv,q⟩
 cases fl with
 | ret u =>
  obtain⟨v,σ',H',J,rv,q⟩:=hs
  exact fin J rv q
 | next =>
  obtain⟨σ',H',J,q⟩:=hs
  exact fin (v:=V.non) (u:=Value.none) J rfl q
 | brk =>
  obtain⟨_,_,_,q⟩:=hs
  exact False.elim q
 | cont =>
  obtain⟨_,_,_,q⟩:=hs
  exact False.elim q
section
variable {X:Cx} {x:Str} {p pos:Pos} {e:Expr} {es:List Expr} {t:TA} {id T:String} {r:List V→Hp→VK→Prop}
def tCB(r:List V→Hp→VK→Prop)(t:TA):TE:=fun σ H Q=>t σ H fun vs H1=>r vs H1 Q
theorem wG(hc:v9 X (.builtin id) r)(hg:Gl X x)(hm:X.mg x=none)(hv:bootBuiltins x=some (.builtin id))(ha:PA X (e :: es) t)(hn:x ≠ "__name__" := by decide)(hdb:(x == ("__debug__" : Str))=false:=by decide)
  (he:starEach (e :: es) X.env=(false,eval e X.env) :: starEach es X.env:=by rfl) (hpl:(backTo pos (starEach es X.env)).any (·.1)=false:=by rfl):PE X (.Call (.Name x p) (e :: es) [] pos) (tCB r t):=by
 intro pins s σ H Q I h
 refine wpAny_Call_Name_kw (N0 I hg hm hv ?_ hn hdb)
 exact PyProof.Rows.callWith_builtin1 (thn (ha pos pins s σ H _ I h) fun us s1 ⟨vs,H1,I1,r1,q1⟩=>hc pins s1 σ H1 vs us Q I1 r1 q1) he hpl
theorem ig(hc:v9 X (.type T) r)(hg:Gl X x)(hm:X.mg x=none)(hv:bootBuiltins x=some (.type T))(ha:PA X (e :: es) t)(hn:x ≠ "__name__" := by decide)(hdb:(x == ("__debug__" : Str))=false:=by decide)
  (he:starEach (e :: es) X.env=(false,eval e X.env) :: starEach es X.env:=by rfl) (hpl:(backTo pos (starEach es X.env)).any (·.1)=false:=by rfl):PE X (.Call (.Name x p) (e :: es) [] pos) (tCB r t):=by
 intro pins s σ H Q I h
 refine wpAny_Call_Name_kw (N0 I hg hm hv ?_ hn hdb)
 exact PyProof.Rows.callWith_type1 (thn (ha pos pins s σ H _ I h) fun us s1 ⟨vs,H1,I1,r1,q1⟩=>hc pins s1 σ H1 vs us Q I1 r1 q1) he hpl
end
end L2
namespace HT
open PySem PyProof.Rows
section
open PySem.SeqAt
open PySem.AutoSeq1 (wpAny_loadPart')
open PySem.MeetsSeq PySem.MeetsSeq2 PySem.MeetsSeq3
end
section
variable {prog:Program} {w:World} {A:Around} {E:Value→Shared→Prop} {s:Shared}
noncomputable def sIx(n d:Nat):Option Int→Nat
 | none=>d
 | some v=>if v<0 then(v+(n:Int)).toNat else min v.toNat n
theorem Ef(n d:Nat)(hd:d≤n)(o:Option Int):sIx n d o≤n:=by
 cases o with
 | none=>exact hd
 | some v =>
  show(if v<0 then(v+(n:Int)).toNat else min v.toNat n)≤n
  by_cases hv:v<0
  ·rw[if_pos hv];omega
  ·rw[if_neg hv];exact OM _ _
theorem rZ(v:Int)(n d:Nat):(if v<0 then max (v+(n:Int)) 0 else min v (n:Int))=((sIx n d (some v):Nat):Int):=by
 show(if v<0 then max (v+(n:Int)) 0 else min v (n:Int))=(((if v<0 then(v+(n:Int)).toNat else min v.toNat n):Nat):Int)
 by_cases hv:v<0
 ·simp only[if_pos hv];omega
 ·simp only[if_neg hv];omega
theorem pX(lo hi:Option Int)(n:Nat):Builtin.Slice.sliceAdjust lo hi 1 (n:Int)=(((sIx n 0 lo:Nat):Int),((sIx n n hi:Nat):Int)):=by
 have h1:¬ ((1:Int)<0):=by omega
 unfold Builtin.Slice.sliceAdjust
 simp only[h1,if_false]
 refine Prod.ext ?_ ?_
 ·cases lo with
  | none=>rfl
  | some v=>exact rZ v n 0
 ·cases hi with
  | none=>rfl
  | some v=>exact rZ v n n
theorem pq(i j:Nat):Builtin.Slice.slicePlaces (i:Int) (j:Int) 1=j - i:=by
 unfold Builtin.Slice.slicePlaces
 have h1:(1:Int) > 0:=by omega
 simp only[h1,if_true,Int.ediv_one]
 split<;>omega
theorem dS{v:Value}{o:Option Int}{Q:Option Int→Shared→Prop}(p:IsPart v o)(h:Q o s):wpAny (model prog w) A (Builtin.Slice.slicePartIndex v) Q E s:=by
 cases p with
 | none=>exact slicePart_none h
 | int i t=>exact slicePart_int h
theorem N5{sl:Addr}{vl vu:Value}{lo hi:Option Int}{n:Nat}{Q:Int × Int × Nat→Shared→Prop}(hs:s.heap.IsSliceOf sl vl vu .none)(pl:IsPart vl lo)(pu:IsPart vu hi)
  (h:Q (((sIx n 0 lo:Nat):Int),1,sIx n n hi - sIx n 0 lo) s):wpAny (model prog w) A (Builtin.Slice.sliceApplied (.ref sl) (pure (n:Int))) Q E s:=by
 obtain⟨os,hos,hcs,hds⟩:=id hs
 unfold Builtin.Slice.sliceApplied Builtin.Slice.sliceFields
 refine Mq (Mq (wpAny_field hos hds (x:=vl) rfl (Mq (wpAny_field hos hds (x:=vu) rfl (Mq (wpAny_field hos hds (x:=.none) rfl (Mu ?_)))))))
 refine Mq (slicePart_none ?_)
 show wpAny _ _ (if ((1:Int) == 0)=true then _ else _) _ _ s
 rw[if_neg (by decide)]
 refine Mq (dS pl (Mq (dS pu (Mq (Mu ?_)))))
 show wpAny _ _ (match Builtin.Slice.sliceAdjust lo hi 1 (n:Int)with|(lo,hi)=>pure (lo,(1:Int),Builtin.Slice.slicePlaces lo hi 1)) _ _ s
 rw[pX lo hi n]
 show wpAny _ _ (pure (((sIx n 0 lo:Nat):Int),(1:Int),Builtin.Slice.slicePlaces ((sIx n 0 lo:Nat):Int) ((sIx n n hi:Nat):Int) 1)) _ _ s
 rw[pq]
 exact Mu h
theorem wx(xs:Array Value)(i k:Nat):((NO k).filterMap fun(m:Nat)=>xs[((i:Int)+(m:Int)*1).toNat]?).toArray=((xs.toList.drop i).take k).toArray:=by
 have e:(fun(m:Nat)=>xs[((i:Int)+(m:Int)*1).toNat]?)=fun m=>xs[i+m]?:=by
  funext m
  have:((i:Int)+(m:Int)*1).toNat=i+m:=by omega
  rw[this]
 rw[e]
 have:=pick_run xs i k
 rw[List.filterMap_map]at this
 have e2:((fun x=>xs[x]?) ∘ fun x=>i+x)=fun m=>xs[i+m]?:=rfl
 rw[e2]at this
 rw[this]
theorem ba{t sl:Addr}{items:Array Value}{vl vu:Value}{lo hi:Option Int}{Q:Value→Shared→Prop}(ht:IsTup s.heap t items)(hs:s.heap.IsSliceOf sl vl vu .none)(pl:IsPart vl lo)(pu:IsPart vu hi)
  (hw:¬ (sIx items.size 0 lo=0∧sIx items.size items.size hi=items.size))
  (h:Q (.ref s.heap.objs.size) { s with heap:=s.heap.push { cls:=.type "tuple",data:=.seq ((items.toList.drop (sIx items.size 0 lo)).take (sIx items.size items.size hi - sIx items.size 0 lo)).toArray } })
  (hsz:items.size≤sizeLine):wpAny (model prog w) A (getItem (.ref t) (.ref sl)) Q E s:=by
 have htake:sizeOk (.seq ((items.toList.drop (sIx items.size 0 lo)).take (sIx items.size items.size hi - sIx items.size 0 lo)).toArray):=by
  show((items.toList.drop (sIx items.size 0 lo)).take (sIx items.size items.size hi - sIx items.size 0 lo)).toArray.size≤sizeLine
  rw[MJ,Nr,Oq,Array.length_toList]
  omega
 have hj:sIx items.size items.size hi≤items.size:=Ef _ _ (MM _) hi
 obtain⟨os,hos,hcs,hds⟩:=id hs
 have hTs:s.TypeIs (.ref sl) "slice" := ⟨os,hos,hcs⟩
 unfold getItem
 try with_reducible refine wpAny_holding ?_
 first|refine Mq (Mu ?_)|skip
 refine Mq (wpAny_sequenceKey ht.typeIs (by decide) ?_)
 refine Mq (wpAny_callSpecial?_slot (name:=Str.ofString "__getitem__") ht.typeIs PyProof.Rows.slot_tuple_getitem
  (wpAny_call_entry PyProof.Rows.slot_tuple_getitem ht.typeIs entry_tuple_getitem ?_ (args_tuple_getitem _ _)))
 show wpAny _ _ (Builtin.Tuple.tupleItemsOf (.ref t) >>= _) _ _ s
 refine Mq (tupleItemsOf_ ht ?_)
 refine Mq (wpAny_typeOf hTs ?_)
 rw[if_pos (by decide)]
 refine Mq (N5 hs pl pu ?_)
 have hno:¬ ((((sIx items.size 0 lo:Nat):Int) == 0 && (1:Int) == 1 && (sIx items.size items.size hi - sIx items.size 0 lo) == items.size)=true):=by
  intro q
  rw[Na,Na]at q
  have q1:((sIx items.size 0 lo:Nat):Int)=0:=eq_of_beq q.1.1
  have q2:sIx items.size items.size hi - sIx items.size 0 lo=items.size:=eq_of_beq q.2
  exact hw ⟨by omega,by omega⟩
 show wpAny _ _ (if (((sIx items.size 0 lo:Nat):Int) == 0 && (1:Int) == 1 && (sIx items.size items.size hi - sIx items.size 0 lo) == items.size)=true then _ else _) _ _ s
 rw[if_neg hno,wx]
 first
  | exact Mq (m:=Builtin.Tuple.tupleExact _) (wpAny_newObj_type (Mu ⟨_,rfl,Mu h⟩) htake)
  | exact Mq (m:=Builtin.Tuple.tupleExact _) (wpAny_newObj_type (Mq (Mu (Mu ⟨_,rfl,Mu h⟩))) htake)
  | exact Mq (Mq (m:=Builtin.Tuple.tupleExact _) (wpAny_newObj_type (Mu (Mu ⟨_,rfl,Mu h⟩)) htake))
  | exact Mq (Mq (m:=Builtin.Tuple.tupleExact _) (wpAny_newObj_type (Mu ⟨_,rfl,Mu h⟩) htake))
end
end HT
namespace L2
open PySem PySem.Spec PyProof.Rows
noncomputable abbrev TO:=St→Hp→(Option Int→Hp→Prop)→Prop
def PO(X:Cx)(e:Option Expr)(t:TO):Prop :=
 ∀(pins:List (Addr × Obj)) (s:Shared) (σ:St) (H:Hp) (Q:Option Int→Hp→Prop),Inv X pins σ H s→t σ H Q →
  wpAny (model X.prog X.w) X.A (evalPart e X.env) (fun u s'=>∃ o H',Inv X pins σ H' s'∧IsPart u o∧Q o H') X.xe s
def zZ:TO:=fun _ H Q=>Q none H
def GG(t:TE):TO:=fun σ H Q=>t σ H fun x H1=>∃ i,x = .int i∧Q (some i) H1
section
variable {X:Cx} {e:Expr} {te:TE} {lo hi:Option Expr} {tl th:TO} {pos p2:Pos}
theorem AA:PO X none zZ:=by
 intro pins s σ H Q I h
 rw[evalPart_none]
 exact Mu ⟨none,H,I,.none,h⟩
theorem Az(h:PE X e te):PO X (some e) (GG te):=by
 intro pins s σ H Q I hw
 rw[evalPart_some]
 refine thn (h pins s σ H _ I hw) fun u s1 zz=>?_
 obtain⟨x,H1,I1,r1,q1⟩:=zz
 obtain⟨i,rfl,q⟩:=q1
 obtain⟨t,rfl⟩:=r1
 exact⟨some i,H1,I1,.int i t,q⟩
def SlR(X:Cx)(r:V→Option Int→Option Int→Hp→VK→Prop):Prop :=
 ∀(pins:List (Addr × Obj)) (s:Shared) (σ:St) (H:Hp) (x:V) (v vl vu:Value) (lo hi:Option Int) (sl:Addr) (Q:VK),Inv X pins σ H s→p7 x v→s.heap.IsSliceOf sl vl vu .none→IsPart vl lo→IsPart vu hi→r x lo hi H Q →
  ∃ T id,typeLookup (.type T) "__getitem__" = pure (some (.builtin id))∧s.TypeIs v T∧wpAny (model X.prog X.w) X.A (getItem v (.ref sl)) (EP X pins σ Q) X.xe s
theorem SlR.or{r r':V→Option Int→Option Int→Hp→VK→Prop}(h:SlR X r)(h':SlR X r'):SlR X (fun x lo hi H Q=>r x lo hi H Q∨r' x lo hi H Q):=by
 intro pins s σ H x v vl vu lo hi sl Q I rx hs pl pu q
 rcases q with q|q
 ·exact h pins s σ H x v vl vu lo hi sl Q I rx hs pl pu q
 ·exact h' pins s σ H x v vl vu lo hi sl Q I rx hs pl pu q
def tSl(r:V→Option Int→Option Int→Hp→VK→Prop)(te:TE)(tl th:TO):TE:=fun σ H Q=>te σ H fun x H1=>tl σ H1 fun l H2=>th σ H2 fun u H3=>r x l u H3 Q
theorem eC{r:V→Option Int→Option Int→Hp→VK→Prop}(hr:SlR X r)(he:PE X e te)(hl:PO X lo tl)(hu:PO X hi th):PE X (.Subscript e (.Slice lo hi none p2) pos) (tSl r te tl th):=by
 intro pins s σ H Q I h
 refine Subscript_ (thn (he pins s σ H _ I h) fun v s1 zz=>?_)
 obtain⟨x,H1,I1,r1,q1⟩:=zz
 refine wpAny_Slice (thn (hl pins s1 σ H1 _ I1 q1) fun vl s2 ⟨l,H2,I2,pl,q2⟩=>thn (hu pins s2 σ H2 _ I2 q2) fun vu s3 zz=>?_)
 obtain⟨u,H3,I3,pu,q3⟩:=zz
 rw[evalPart_none]
 refine Mu ?_
 have I4:Inv X pins σ H3 { s3 with heap:=s3.heap.push { cls:=.type "slice",data:=.fields #[vl,vu,.none] } }:=I3.kept (t':=s3.toks) fun b ob q=>Mr _ q
 obtain⟨T,id,hT,ht,hg⟩:=hr pins { s3 with heap:=s3.heap.push { cls:=.type "slice",data:=.fields #[vl,vu,.none] } } σ H3 x v vl vu l u s3.heap.objs.size Q I4 r1 (Heap.IsSliceOf.new ..) pl pu q3
 show wpAny (model X.prog X.w) X.A (subscriptTail e (.Slice lo hi none p2) v (.ref s3.heap.objs.size)) (EP X pins σ Q) X.xe { s3 with heap:=s3.heap.push { cls:=.type "slice",data:=.fields #[vl,vu,.none] } }
 exact tail_any (ops:=[.ref s3.heap.objs.size,v]) ht hT hg (by with_unfolding_all rfl)
noncomputable def nK(xs:List V)(lo hi:Option Int):List V:=(xs.drop (HT.sIx xs.length 0 lo)).take (HT.sIx xs.length xs.length hi - HT.sIx xs.length 0 lo)
theorem cm(xs:List V)(lo hi:Option Int):(nK xs lo hi).length≤xs.length:=by
 unfold nK
 rw[Nr,Oq]
 omega
noncomputable def IS(K:Ms):V→Option Int→Option Int→Hp→VK→Prop:=fun x lo hi H Q=>∃ a xs,x = .ref a∧SqT K H a xs ∧
 ¬ (HT.sIx xs.length 0 lo=0∧HT.sIx xs.length xs.length hi=xs.length)∧∀ p,H p=none→Q (.ref p) (upd H p (.tup (nK xs lo hi)))
theorem vE:SlR X (IS X.K):=by
 intro pins s σ H x v vl vu lo hi sl Q I rx hs pl pu h
 obtain⟨a,xs,rfl,hx,hw,q⟩:=h
 cases rx
 obtain⟨its,r,ht,hz⟩:=I.tuple hx
 have hlen:its.toArray.size=xs.length:=by rw[MJ];exact r.length.symm
 refine⟨"tuple",_,PyProof.Rows.slot_tuple_getitem.lookup,ht.typeIs,?_⟩
 refine HT.ba ht hs pl pu (by rw[hlen];exact hw) ?_ (by rw[hlen];exact hz)
 rw[hlen]
 refine⟨.ref s.heap.objs.size,_,I.laid (t':=s.toks) (o:=.tup (nK xs lo hi)) (fun b ob q=>Mr _ q) (MM _) ?_,rfl,q _ (I.hok.fresh (MM _))⟩
 exact⟨ME (cm xs lo hi) hz,_,(r.drop (HT.sIx xs.length 0 lo)).take (HT.sIx xs.length xs.length hi - HT.sIx xs.length 0 lo),IsTup.new _ _⟩
end
noncomputable def ixN(n:Nat)(i:Int):Option Nat:=if 0≤i then(if i<n then some i.toNat else none)else if -(n:Int)≤i then some (i+n).toNat else none
noncomputable def atI{α:Type}(xs:List α)(i:Int):Option α:=(ixN xs.length i).bind fun j=>xs[j]?
theorem rG{n:Nat}{i:Int}{j:Nat}(h:ixN n i=some j):seqIndex? i n=some j∧j<n∧-(n:Int)≤i∧i<n:=by
 unfold ixN at h
 by_cases h0:0≤i
 ·rw[if_pos h0]at h
  by_cases h1:i<n
  ·rw[if_pos h1]at h
   have e:i.toNat=j:=Option.some.inj h
   exact⟨by rw[seqIndex_of h0 h1,e],by omega,by omega,h1⟩
  ·rw[if_neg h1]at h;cases h
 ·rw[if_neg h0]at h
  by_cases h1:-(n:Int)≤i
  ·rw[if_pos h1]at h
   have e:(i+n).toNat=j:=Option.some.inj h
   exact⟨by rw[seqIndex_neg (by omega) h1,e],by omega,h1,by omega⟩
  ·rw[if_neg h1]at h;cases h
theorem sr{α:Type}{xs:List α}{i:Int}{v:α}(h:atI xs i=some v):∃ j,seqIndex? i xs.length=some j∧xs[j]? = some v∧j<xs.length∧-(xs.length:Int)≤i∧i<xs.length:=by
 unfold atI at h
 cases e:ixN xs.length i with
 | none=>rw[e]at h;cases h
 | some j =>
  rw[e]at h
  obtain⟨h1,h2,h3,h4⟩:=rG e
  exact⟨j,h1,h,h2,h3,h4⟩
theorem kR{α:Type}{xs:List α}{j:Nat}{v:α}(h:xs[j]? = some v):atI xs (j:Int)=some v:=by
 have hj:j<xs.length:=(MH.mp h).1
 have e:ixN xs.length (j:Int)=some j:=by
  unfold ixN
  rw[if_pos (by omega),if_pos (by omega)];simp
 unfold atI;rw[e];exact h
def kW(b:Expr):Prop:=∀ o i,subscripted b false o i=operate [o,i] (getItem o i)
def IxR(X:Cx)(r:R2):Prop :=
 ∀(value slice:Expr) (pins:List (Addr × Obj)) (s:Shared) (σ:St) (H:Hp) (x y:V) (v u:Value) (Q:VK),Inv X pins σ H s→p7 x v→p7 y u→r x y H Q →
  subscripted slice false v u=operate [v,u] (getItem v u)→wpAny (model X.prog X.w) X.A (subscriptTail value slice v u) (EP X pins σ Q) X.xe s
def MtR(X:Cx)(id:String)(r:V→List V→Hp→VK→Prop):Prop :=
 ∀(pins:List (Addr × Obj)) (s:Shared) (σ:St) (H:Hp) (x:V) (xs:List V) (v:Value) (us:List Value) (Q:VK),Inv X pins σ H s→p7 x v→j6 xs us→r x xs H Q →
  wpAny (model X.prog X.w) X.A (call (.builtin id) (v :: us)) (EP X pins σ Q) X.xe s
section
variable {X:Cx} {a b:Expr} {ta tb:TE} {pos:Pos}
theorem IxR.or{r r':R2}(h:IxR X r)(h':IxR X r'):IxR X (fun x y H Q=>r x y H Q∨r' x y H Q):=by
 intro value slice pins s σ H x y v u Q I rx ry q hs
 rcases q with q|q
 ·exact h value slice pins s σ H x y v u Q I rx ry q hs
 ·exact h' value slice pins s σ H x y v u Q I rx ry q hs
theorem MtR.or{id:String}{r r':V→List V→Hp→VK→Prop}(h:MtR X id r)(h':MtR X id r'):MtR X id (fun x xs H Q=>r x xs H Q∨r' x xs H Q):=by
 intro pins s σ H x xs v us Q I rx rs q
 rcases q with q|q
 ·exact h pins s σ H x xs v us Q I rx rs q
 ·exact h' pins s σ H x xs v us Q I rx rs q
theorem Hd{r:R2}(hr:IxR X r)(ha:PE X a ta)(hb:PE X b tb)(hs:kW b):PE X (.Subscript a b pos) (tOp r ta tb):=by
 intro pins s σ H Q I h
 exact Subscript_ (FE ha hb I h fun v u s2 x y H2 I2 rx ry q=>hr a b pins s2 σ H2 x y v u Q I2 rx ry q (hs _ _))
def IW(K:Ms):R2:=fun x y H Q=>∃ p xs i v,x = .ref p∧y = .int i∧SqL K H p xs∧atI xs i=some v∧Q v H
def IV(K:Ms):R2:=fun x y H Q=>∃ p xs i v,x = .ref p∧y = .int i∧SqT K H p xs∧atI xs i=some v∧Q v H
theorem Bu:IxR X (IW X.K):=by
 intro value slice pins s σ H x y v u Q I rx ry h hs
 obtain⟨p,xs,i,z,rfl,rfl,hq,he,q⟩:=h
 cases rx
 obtain⟨t,rfl⟩:=ry
 obtain⟨its,r,pl,hz⟩:=I.list hq
 obtain⟨j,h1,h2,h3,h4,h5⟩:=sr he
 obtain⟨w,ew,rw'⟩:=r.get h2
 have hl:=r.length
 have hn:=kr
 have fin:EP X pins σ Q w s:=⟨z,H,I,rw',q⟩
 by_cases h0:0≤i
 ·have hj:i.toNat=j:=by
   rw[seqIndex_of h0 h5]at h1
   exact Option.some.inj h1
  exact item_listR pl.isList h0 (by omega) (by rw[hj];simpa using ew) fin hs
 ·have hj:(i+(its.toArray.size:Int)).toNat=j:=by
   rw[seqIndex_neg (by omega) h4]at h1
   rw[MJ,← hl]
   exact Option.some.inj h1
  exact subscriptTail_builtinR (x:=w) pl.isList.typeIs slot_list_getitem.lookup
   (wpAny_getItem_list_neg (Q:=fun r s'=>r=w∧EP X pins σ Q r s') pl.isList (by omega) (by rw[MJ]<;>omega) (by omega) (by rw[hj];simpa using ew) ⟨rfl,fin⟩) hs
theorem Ff:IxR X (IV X.K):=by
 intro value slice pins s σ H x y v u Q I rx ry h hs
 obtain⟨p,xs,i,z,rfl,rfl,hq,he,q⟩:=h
 cases rx
 obtain⟨t,rfl⟩:=ry
 obtain⟨its,r,pl,hz⟩:=I.tuple hq
 obtain⟨j,h1,h2,h3,h4,h5⟩:=sr he
 obtain⟨w,ew,rw'⟩:=r.get h2
 have hl:=r.length
 have hn:=kr
 have fin:EP X pins σ Q w s:=⟨z,H,I,rw',q⟩
 exact subscriptTail_builtinR (x:=w) pl.typeIs slot_tuple_getitem.lookup
  (getItem_tuple (j:=j) (Q:=fun r s'=>r=w∧EP X pins σ Q r s') pl (by omega) (by omega) (by rw[MJ,← hl];exact h1) (by simpa using ew) ⟨rfl,fin⟩) hs
theorem pF(its:List Value)(n j:Nat)(u:Value):Obj.mapSeq (·.setIfInBounds j u) { cls:=.type "list",data:=.seq its.toArray n } = { cls:=.type "list",data:=.seq (its.set j u).toArray n }:=by
 simp[Obj.mapSeq]
theorem Inv.lst{pins:List (Addr × Obj)}{σ:St}{H:Hp}{s:Shared}{p:Addr}{xs:List V}(I:Inv X pins σ H s)(h:H p=some (.lst xs)) :
  ∃(its:List Value) (n:Nat),j6 xs its∧s.heap.get? p=some { cls:=.type "list",data:=.seq its.toArray n }∧xs.length≤sizeLine:=by
 obtain⟨z,its,n,r,e⟩:=I.hok p _ h
 exact⟨its,n,r,e,z⟩
theorem Inv.lstUpd{pins:List (Addr × Obj)}{σ:St}{H:Hp}{s:Shared}{p:Addr}{xs ys:List V}{its its':List Value}{n n':Nat}{f:Obj→Obj}(I:Inv X pins σ H s)(h:H p=some (.lst xs))
  (ho:s.heap.get? p=some { cls:=.type "list",data:=.seq its.toArray n }) (hf:f { cls:=.type "list",data:=.seq its.toArray n } = { cls:=.type "list",data:=.seq its'.toArray n' }) (r:j6 ys its') (hz:ys.length≤sizeLine) (t:Nat) :
  Inv X pins σ (upd H p (.lst ys)) { s with heap:=s.heap.update p f,toks:=t }:=by
 have e:(s.heap.update p f).get? p=some { cls:=.type "list",data:=.seq its'.toArray n' }:=by
  rw[Nw f ho (by rw[hf]<;>rfl),hf]
 refine I.write (x:=p) (e:=p) (by rw[h];trivial) (.inl rfl) (fun b u hb q=>(NN _ _ (Ne.symm hb)).trans q) ⟨_,e⟩ ?_
 exact⟨hz,its',n',r,e⟩
noncomputable def GY:V→V→V→Hp→(Hp→Prop)→Prop:=fun o i v H Q=>∃ p xs k j,o = .ref p∧i = .int k∧H p=some (.lst xs)∧ixN xs.length k=some j∧Q (upd H p (.lst (xs.set j v)))
theorem vG:Iw X GY:=by
 intro pins s σ H o i v ov iv u Q I ro ri rv h
 obtain⟨p,xs,k,j,rfl,rfl,hp,hj,q⟩:=h
 cases ro
 obtain⟨t,rfl⟩:=ri
 obtain⟨its,n,r,ho,hz⟩:=I.lst hp
 obtain⟨h1,h2,h3,h4⟩:=rG hj
 have hl:=r.length
 have hn:=kr
 have I':Inv X pins σ (upd H p (.lst (xs.set j v))) { s with heap:=s.heap.update p (Obj.mapSeq (·.setIfInBounds j u)) } :=
  I.lstUpd hp ho (pF its n j u) (r.set rv j) (by rw[QN];exact hz) s.toks
 by_cases h0:0≤k
 ·have hk:k.toNat=j:=by
   rw[seqIndex_of h0 h4]at h1
   exact Option.some.inj h1
  exact PySem.W.ki_setAt ho h0 (by omega) (by rw[MJ,← hl];exact h4) (by rw[hk];exact⟨_,I',q⟩)
 ·have hk:(k+(its.toArray.size:Int)).toNat=j:=by
   rw[seqIndex_neg (by omega) h3]at h1
   rw[MJ,← hl]
   exact Option.some.inj h1
  exact PySem.W.ki_setBack ho (by omega) (by rw[MJ,← hl];exact h3) (by omega) (by rw[hk];exact⟨_,I',q⟩)
theorem iY(lo hi:Option Int)(n:Nat):(sliceBounds lo hi none n).1=((HT.sIx n 0 lo:Nat):Int)∧(sliceBounds lo hi none n).2.1=((HT.sIx n n hi:Nat):Int)∧(sliceBounds lo hi none n).2.2=1:=by
 refine⟨?_,?_,rfl⟩
 ·cases lo with
  | none=>simp[sliceBounds,HT.sIx]
  | some i =>
   simp only[sliceBounds,HT.sIx,QI,show(1:Int) > 0 by decide,if_true]
   by_cases h:i<0
   ·simp only[h,if_true]<;>omega
   ·simp only[h,if_false]<;>omega
 ·cases hi with
  | none=>simp[sliceBounds,HT.sIx]
  | some i =>
   simp only[sliceBounds,HT.sIx,QI,show(1:Int) > 0 by decide,if_true]
   by_cases h:i<0
   ·simp only[h,if_true]<;>omega
   ·simp only[h,if_false]<;>omega
theorem fg(its:List Value)(lo hi:Option Int):slicePick its.toArray lo hi none=((its.drop (HT.sIx its.length 0 lo)).take (HT.sIx its.length its.length hi - HT.sIx its.length 0 lo)).toArray:=by
 obtain⟨h1,h2,h3⟩:=iY lo hi its.toArray.size
 unfold slicePick
 rw[h1,h2,h3]
 simp only[sliceRange_one,pick_run,MJ]<;>rfl
noncomputable def IT(K:Ms):V→Option Int→Option Int→Hp→VK→Prop:=fun x lo hi H Q=>∃ a xs,x = .ref a∧SqL K H a xs∧∀ p,H p=none→Q (.ref p) (upd H p (.lst (nK xs lo hi)))
theorem qY:SlR X (IT X.K):=by
 intro pins s σ H x v vl vu lo hi sl Q I rx hs pl pu h
 obtain⟨a,xs,rfl,hx,q⟩:=h
 cases rx
 obtain⟨its,r,ht,hz⟩:=I.list hx
 have hlen:=r.length
 refine⟨"list",_,slot_list_getitem.lookup,ht.isList.typeIs,?_⟩
 refine wpAny_getItem_list_slice ht.isList hs pl pu .none (by simp) ?_ (by rw[MJ]<;>omega)
 rw[fg,← hlen]
 refine⟨.ref s.heap.objs.size,_,I.laid (t':=s.toks) (o:=.lst (nK xs lo hi)) (fun b ob q=>Mr _ q) (MM _) ?_,rfl,q _ (I.hok.fresh (MM _))⟩
 exact⟨ME (cm xs lo hi) hz,_,0,(r.drop (HT.sIx xs.length 0 lo)).take (HT.sIx xs.length xs.length hi - HT.sIx xs.length 0 lo),Mw _ rfl⟩
noncomputable def Y1:V→Bool
 | .non=>true
 | .bl _=>true
 | .int _=>true
 | .str _=>true
 | _=>false
noncomputable def eqV:V→V→Bool
 | .non,.non=>true
 | .bl a,.bl b=>a == b
 | .bl a,.int b=>(if a then 1 else 0) == b
 | .int a,.bl b=>a == (if b then 1 else 0)
 | .int a,.int b=>a == b
 | .str a,.str b=>a == b
 | _,_=>false
theorem Fm{A:Around}{s:Shared}{y x:V}{u v:Value}(ry:p7 y u)(rx:p7 x v)(fy:Y1 y=true)(fx:Y1 x=true):SeqAt.EqAt A s u v (eqV y x):=by
 cases y with
 | non =>
  cases ry
  cases x with
  | non=>cases rx;exact SeqAt.EqAt.same _
  | bl b=>cases rx;exact SeqAt.EqAt.none_bool b
  | int b=>obtain⟨t,rfl⟩:=rx;exact SeqAt.EqAt.none_int b t
  | str b=>obtain⟨t,rfl⟩:=rx;exact SeqAt.EqAt.none_str b t
  | _=>exact absurd (show false=true from fx) MF
 | bl a =>
  cases ry
  cases x with
  | non=>cases rx;exact SeqAt.EqAt.bool_none a
  | bl b=>cases rx;exact SeqAt.EqAt.bool_bool a b
  | int b=>obtain⟨t,rfl⟩:=rx;exact SeqAt.EqAt.bool_int a b t
  | str b=>obtain⟨t,rfl⟩:=rx;exact SeqAt.EqAt.bool_str a b t
  | _=>exact absurd (show false=true from fx) MF
 | int a =>
  obtain⟨t',rfl⟩:=ry
  cases x with
  | non=>cases rx;exact SeqAt.EqAt.int_none a t'
  | bl b=>cases rx;exact SeqAt.EqAt.int_bool a t' b
  | int b=>obtain⟨t,rfl⟩:=rx;exact SeqAt.EqAt.int_int a t' b t
  | str b=>obtain⟨t,rfl⟩:=rx;exact SeqAt.EqAt.int_str a t' b t
  | _=>exact absurd (show false=true from fx) MF
 | str a =>
  obtain⟨t',rfl⟩:=ry
  cases x with
  | non=>cases rx;exact SeqAt.EqAt.str_none a t'
  | bl b=>cases rx;exact SeqAt.EqAt.str_bool a t' b
  | int b=>obtain⟨t,rfl⟩:=rx;exact SeqAt.EqAt.str_int a t' b t
  | str b=>obtain⟨t,rfl⟩:=rx;exact SeqAt.EqAt.str_str a t' b t
  | _=>exact absurd (show false=true from fx) MF
 | _=>exact absurd (show false=true from fy) MF
noncomputable def eqU(x:V)(u:Value):Bool:=match u with
 | .none=>eqV .non x
 | .bool b=>eqV (.bl b) x
 | .int i _=>eqV (.int i) x
 | .str z _=>eqV (.str z) x
 | _=>false
theorem xJ{x y:V}{u:Value}(r:p7 y u)(f:Y1 y=true):eqU x u=eqV y x:=by
 cases y with
 | non=>cases r;rfl
 | bl b=>cases r;rfl
 | int i=>obtain⟨t,rfl⟩:=r;rfl
 | str z=>obtain⟨t,rfl⟩:=r;rfl
 | _=>exact absurd (show false=true from f) MF
theorem kT{x:V}:∀{xs:List V} {us:List Value},j6 xs us→xs.all Y1=true→us.any (eqU x)=xs.any fun y=>eqV y x
 | _,_,.nil,_=>rfl
 | y :: xs,u :: us,.cons r t,f=>by
  rw[Qo,Na]at f
  rw[Ra,Ra,xJ r f.1,kT t f.2]
theorem eM{A:Around}{s:Shared}{x:V}{v:Value}(rx:p7 x v)(fx:Y1 x=true):∀{xs:List V} {us:List Value},j6 xs us→xs.all Y1=true→∀ u∈us,SeqAt.EqAt A s u v (eqU x u)
 | _,_,.nil,_=>fun u hu=>by cases hu
 | y :: xs,u :: us,.cons r t,f=>fun u' hu=>by
  rw[Qo,Na]at f
  rcases Mv.mp hu with rfl|hu
  ·rw[xJ r f.1];exact Fm r rx f.1 fx
  ·exact eM rx fx t f.2 u' hu
noncomputable def inV(x:V)(xs:List V):Bool:=xs.any fun y=>eqV y x
def rIn(K:Ms)(neg:Bool):R2:=fun x y H Q=>∃ p xs,y = .ref p∧(SqL K H p xs∨SqT K H p xs)∧Y1 x=true∧xs.all Y1=true∧Q (.bl (if neg then !inV x xs else inV x xs)) H
theorem jU:OpR X (compareOp .NotIn) (rIn X.K true):=by
 intro pins s σ H x y v u Q I rx ry h
 obtain⟨p,xs,rfl,hq,fx,fs,q⟩:=h
 cases ry
 rcases hq with hq|hq
 ·obtain⟨its,r,pl,hz⟩:=I.list hq
  refine SeqAt.notIn_listAt (eqU x) pl.isList (fun w hw=>eM rx fx r fs w (by simpa using hw)) ⟨.bl _,H,I,rfl,?_⟩
  rw[show its.toArray.any (eqU x)=its.any (eqU x)by simp,kT r fs]
  exact q
 ·obtain⟨its,r,pl,hz⟩:=I.tuple hq
  refine SeqAt.notIn_tupleAt (eqU x) pl (fun w hw=>eM rx fx r fs w (by simpa using hw)) ⟨.bl _,H,I,rfl,?_⟩
  rw[show its.toArray.any (eqU x)=its.any (eqU x)by simp,kT r fs]
  exact q
theorem kN:v9 X (.builtin "len") (fun xs H Q=>∃ p ys,xs=[.ref p]∧(SqL X.K H p ys∨SqT X.K H p ys)∧Q (.int ys.length) H):=by
 intro pins s σ H xs us Q I r h
 obtain⟨p,ys,rfl,hq,q⟩:=h
 obtain⟨u,rfl,rx⟩:=gT r
 cases rx
 have hn:=kr
 rcases hq with hq|hq
 ·obtain⟨its,r',pl,hz⟩:=I.list hq
  have hlen:=r'.length
  exact Calls.call_len_list pl.isList (by simp only[MJ]<;>omega) ⟨.int ys.length,H,I.tok _,⟨s.toks+1,by rw[MJ,hlen]⟩,q⟩
 ·obtain⟨its,r',pl,hz⟩:=I.tuple hq
  have hlen:=r'.length
  exact len_tuple pl (by simp only[MJ]<;>omega) ⟨.int ys.length,H,I.tok _,⟨s.toks+1,by rw[MJ,hlen]⟩,q⟩
theorem v9.or{f:Value}{r r':List V→Hp→VK→Prop}(h:v9 X f r)(h':v9 X f r'):v9 X f (fun xs H Q=>r xs H Q∨r' xs H Q):=by
 intro pins s σ H xs us Q I rs q
 rcases q with q|q
 ·exact h pins s σ H xs us Q I rs q
 ·exact h' pins s σ H xs us Q I rs q
theorem kM:v9 X (.type "list") (fun xs H Q=>∃ p ys,xs=[.ref p]∧(SqL X.K H p ys∨SqT X.K H p ys)∧∀ l,H l=none→Q (.ref l) (upd H l (.lst ys))):=by
 intro pins s σ H xs us Q I r h
 obtain⟨p,ys,rfl,hq,q⟩:=h
 obtain⟨u,rfl,rx⟩:=gT r
 cases rx
 have fin:∀(its:List Value),j6 ys its→ys.length≤sizeLine→∀(h':Heap) (c':Nat),(∀ b o',s.heap.get? b=some o'→h'.get? b=some o') →
   h'.get? s.heap.objs.size=some { cls:=.type "list",dict:=none,data:=.seq its.toArray c',slots:=#[] }→EP X pins σ Q (.ref s.heap.objs.size) { s with heap:=h' }:=fun its r' hz h' c' kp e =>
  ⟨.ref s.heap.objs.size,_,I.laid (t':=s.toks) kp (MM _) (show B0 X.prog X.w _ h' _ (.lst ys)from⟨hz,its,c',r',e⟩),rfl,q _ (I.hok.fresh (MM _))⟩
 rcases hq with hq|hq
 ·obtain⟨its,r',pl,hz⟩:=I.list hq
  have hlen:=r'.length
  obtain⟨o,ho,hc,n,hd⟩:=pl.isList
  exact call_list_seq p (.inl rfl) ho hc hd (fun h' c' kp e=>fin its r' hz h' c' kp e) (by simp only[MJ]<;>omega)
 ·obtain⟨its,r',pl,hz⟩:=I.tuple hq
  have hlen:=r'.length
  obtain⟨o,ho,hc,n,hd⟩:=pl
  exact call_list_seq p (.inr rfl) ho hc hd (fun h' c' kp e=>fin its r' hz h' c' kp e) (by simp only[MJ]<;>omega)
theorem fX:v9 X (.type "tuple") (fun xs H Q=>∃ p ys,xs=[.ref p]∧((SqL X.K H p ys∧∀ l,H l=none→Q (.ref l) (upd H l (.tup ys)))∨(SqT X.K H p ys∧Q (.ref p) H))):=by
 intro pins s σ H xs us Q I r h
 obtain⟨p,ys,rfl,h⟩:=h
 obtain⟨u,rfl,rx⟩:=gT r
 cases rx
 rcases h with⟨hq,q⟩|⟨hq,q⟩
 ·obtain⟨its,r',pl,hz⟩:=I.list hq
  have hlen:=r'.length
  refine call_tuple_list pl.isList (fun h' kp=>?_) (by simp only[MJ]<;>omega)
  have I1:Inv X pins σ H { s with heap:=h' }:=I.kept (t':=s.toks) kp
  have I2:Inv X pins σ (upd H h'.objs.size (.tup ys)) { s with heap:=h'.push { cls:=.type "tuple",data:=.seq its.toArray } } :=
   I1.laid (t':=s.toks) (fun b o e=>Mr _ e) (MM _) (show B0 X.prog X.w _ _ _ (.tup ys)from⟨hz,its,r',IsTup.new _ _⟩)
  exact⟨.ref h'.objs.size,_,I2,rfl,q _ (I1.hok.fresh (MM _))⟩
 ·obtain⟨its,r',pl,hz⟩:=I.tuple hq
  exact call_tuple_same pl ⟨.ref p,H,I,rfl,q⟩
def tyV(K:Ms)(T:String)(x:V)(H:Hp):Prop:=match x with
 | .str _=>T = "str"
 | .int _=>T = "int"
 | .ref p=>(T = "list" ∧ ∃ xs,SqL K H p xs)∨(T = "tuple" ∧ ∃ o,K.lookup p=some o∧o.cls = .type "tuple" ∧ o.dict=none) ∨
   (T = "dict" ∧ ((∃ kvs,H p=some (.dK kvs)) ∨ ∃ kvs,H p=some (.dT kvs)))∨(T = "set" ∧ ∃ S n,H p=some (.set S n))
 | _=>False
theorem vh{pins:List (Addr × Obj)}{σ:St}{H:Hp}{s:Shared}{T:String}{x:V}{v:Value}(I:Inv X pins σ H s)(r:p7 x v)(ty:tyV X.K T x H) :
  s.TypeIs v T∧∀ a,v = .ref a→∃ ob,s.heap.get? a=some ob∧ob.dict=none:=by
 cases x with
 | str z =>
  obtain⟨t,rfl⟩:=r
  cases(show T = "str" from ty)
  exact⟨typeIs_str s z t,fun _ e=>nomatch e⟩
 | int i =>
  obtain⟨t,rfl⟩:=r
  cases(show T = "int" from ty)
  exact⟨typeIs_int s i t,fun _ e=>nomatch e⟩
 | ref p =>
  cases r
  rcases ty with⟨rfl,xs,hq⟩|⟨rfl,o,hk,hc,hd⟩|⟨rfl,hk⟩|⟨rfl,S,n,hk⟩
  ·obtain⟨its,_,pl,_⟩:=I.list hq
   refine⟨pl.isList.typeIs,fun a e=>?_⟩
   cases e
   obtain⟨o,n,e,c,hd,_⟩:=pl
   exact⟨o,e,hd⟩
  ·refine⟨⟨o,I.kIn p o hk,hc⟩,fun a e=>?_⟩
   cases e
   exact⟨o,I.kIn _ o hk,hd⟩
  ·have z:∃ o,s.heap.get? p=some o∧o.ExactDict:=by
    rcases hk with⟨kvs,hk⟩|⟨kvs,hk⟩
    ·obtain⟨_,_,_,_,o,_,_,e,ex,_⟩:=I.hok p _ hk
     exact⟨o,e,ex⟩
    ·obtain⟨_,_,_,_,o,_,_,e,ex,_⟩:=I.hok p _ hk
     exact⟨o,e,ex⟩
   obtain⟨o,e,ex⟩:=z
   refine⟨⟨o,e,ex.1⟩,fun a e2=>?_⟩
   cases e2
   exact⟨o,e,ex.2.1⟩
  ·obtain⟨o,_,_,_,e,ex,_⟩:=I.hok p _ hk
   refine⟨⟨o,e,ex.1⟩,fun a e2=>?_⟩
   cases e2
   exact⟨o,e,ex.2.1⟩
 | _=>exact False.elim ty
def IP(K:Ms)(T:String)(r:V→List V→Hp→VK→Prop)(to:TE):TE:=fun σ H Q=>to σ H fun x H1=>tyV K T x H1∧r x [] H1 Q
def tBM(K:Ms)(T:String)(r:V→List V→Hp→VK→Prop)(to:TE)(t:TA):TE:=fun σ H Q=>to σ H fun x H1=>tyV K T x H1∧t σ H1 fun xs H2=>r x xs H2 Q
variable {o e:Expr} {es:List Expr} {to:TE} {t:TA} {name:Str} {apos cpos:Pos} {T id:String} {r:V→List V→Hp→VK→Prop}
theorem EK(pa:PlainAttrs T)(slot:Slot T name id)(hty:typeOf (.builtin id)=pure (.type "method_descriptor"))(hm:MtR X id r)(ho:PE X o to)
  (hbase:attributeBase o name X.env (eval o X.env)=eval o X.env:=by rfl) (hline:(apos.endLine == cpos.line)=true:=by rfl):PE X (.Call (.Attribute o name apos) [] [] cpos) (IP X.K T r to):=by
 intro pins s σ H Q I h
 refine wpAny_Call_method0_late hbase hline (thn (ho pins s σ H _ I h) fun v s1 zz=>?_)
 obtain⟨x,H1,I1,r1,ty,q1⟩:=zz
 obtain⟨h1,h2⟩:=vh I1 r1 ty
 exact⟨T,id,pa,slot,hty,h1,h2,Calls.callWith_builtin rfl (PySem.evalArgs_none (hm pins s1 σ H1 x [] v [] Q I1 r1 .nil q1))⟩
theorem He(pa:PlainAttrs T)(slot:Slot T name id)(hty:typeOf (.builtin id)=pure (.type "method_descriptor"))(hm:MtR X id r)(ho:PE X o to)(ha:PA X (e :: es) t)
  (hbase:attributeBase o name X.env (eval o X.env)=eval o X.env:=by rfl)
  (hfew:((backTo cpos (starEach (e :: es) X.env)).all (fun x=>!x.1) && (backToKw cpos (keywordEach [] X.env)).all (fun x=>x.1.isSome)
   && decide ((e :: es).length+([]:List Keyword).length+(if ([]:List Keyword).isEmpty then 0 else 1)<30))=true:=by rfl)
  (hline:(apos.endLine == cpos.line)=true:=by rfl) (hs:starEach (e :: es) X.env=(false,eval e X.env) :: starEach es X.env:=by rfl) (hplain:(backTo cpos (starEach es X.env)).any (·.1)=false:=by rfl) :
  PE X (.Call (.Attribute o name apos) (e :: es) [] cpos) (tBM X.K T r to t):=by
 intro pins s σ H Q I h
 refine wpAny_Call_method_late hbase hfew hline rfl (thn (ho pins s σ H _ I h) fun v s1 zz=>?_)
 obtain⟨x,H1,I1,r1,ty,q1⟩:=zz
 obtain⟨h1,h2⟩:=vh I1 r1 ty
 refine⟨T,id,pa,slot,hty,h1,h2,?_⟩
 have hA:=ha cpos pins s1 σ H1 _ I1 q1
 rw[hs]at hA ⊢
 refine Calls.callWith_builtin (by show(false || (backTo cpos (starEach es X.env)).any (·.1))=false;rw[hplain]<;>rfl) (Calls.evalArgs_plain ?_)
 exact thn hA fun us s2 ⟨vs,H2,I2,r2,q2⟩=>hm pins s2 σ H2 x vs v us Q I2 r1 r2 q2
end
def MtM(X:Cx)(id:String)(r:V→List V→Hp→VK→Prop):Prop :=
 ∀(pins:List (Addr × Obj)) (s:Shared) (σ:St) (H:Hp) (x:V) (xs:List V) (v:Value) (us:List Value) (Q:VK),Inv X pins σ H s→p7 x v→j6 xs us→r x xs H Q →
  wpAny (model X.prog X.w) X.A (call (.builtin id) (v :: us)) (EP X pins σ Q) X.xe s
theorem j6.one{x:V}{us:List Value}(h:j6 [x] us):∃ u,us=[u]∧p7 x u:=by
 cases h with|cons r t=>cases t;exact⟨_,rfl,r⟩
theorem j6.two{x y:V}{us:List Value}(h:j6 [x,y] us):∃ u v,us=[u,v]∧p7 x u∧p7 y v:=by
 cases h with|cons r t=>cases t with|cons q t2=>cases t2;exact⟨_,_,rfl,r,q⟩
theorem j6.zero:∀{us:List Value},j6 [] us→us=[]
 | _,.nil=>rfl
theorem j6.reverse{xs:List V}{us:List Value}(h:j6 xs us):j6 xs.reverse us.reverse:=by
 induction h with
 | nil=>exact .nil
 | cons r t ih=>rw[Qx,Qx];exact j6.append ih (.cons r .nil)
section
variable {X:Cx} {pins:List (Addr × Obj)} {σ:St} {H:Hp} {s:Shared} {l b:Addr} {xs ys zs:List V}
theorem Inv.lset{its its':List Value}{n:Nat}{f:Array Value→Array Value}{t':Nat}(I:Inv X pins σ H s)(hH:H l=some (.lst xs))
  (e:s.heap.get? l=some { cls:=.type "list",data:=.seq its.toArray n }) (hf:f its.toArray=its'.toArray) (hv:j6 ys its') (hz:ys.length≤sizeLine) :
  Inv X pins σ (upd H l (.lst ys)) { s with heap:=s.heap.update l (Obj.mapSeq f),toks:=t' }:=by
 have q:=PySem.IsL.update e f
 rw[hf]at q
 refine I.write (x:=l) (e:=l) (by rw[hH];exact trivial) (.inl rfl) (fun b' u hb hu=>(NN s.heap (Obj.mapSeq f) (Ne.symm hb)).trans hu) ⟨_,q⟩ ?_
 exact⟨hz,its',_,hv,q⟩
theorem Inv.lnew{its:List Value}{t':Nat}(I:Inv X pins σ H s)(hv:j6 ys its)(hz:ys.length≤sizeLine) :
  Inv X pins σ (upd H s.heap.objs.size (.lst ys)) { s with heap:=s.heap.push { cls:=.type "list",data:=.seq its.toArray },toks:=t' } :=
 I.laid (fun _ _ q=>Mr _ q) (MM _) ⟨hz,its,0,hv,Mw _ rfl⟩
theorem Inv.fresh(I:Inv X pins σ H s):H s.heap.objs.size=none:=I.hok.fresh (MM _)
theorem Inv.lstM(I:Inv X pins σ H s)(hH:H l=some (.lst xs)):xs.length≤sizeLine∧∃(its:List Value) (n:Nat),j6 xs its∧xs.length=its.length∧s.heap.get? l=some { cls:=.type "list",data:=.seq its.toArray n }:=by
 obtain⟨z,its,n,r,e⟩:=I.hok l _ hH
 exact⟨z,its,n,r,r.length,e⟩
end
section
variable {X:Cx}
noncomputable def rh:V→List V→Hp→VK→Prop:=fun x vs H Q=>∃ l xs y,x = .ref l∧vs=[y]∧H l=some (.lst xs)∧xs.length<sizeLine∧Q .non (upd H l (.lst (xs++[y])))
theorem ip:MtM X "list.append" rh:=by
 intro pins s σ H x vs v us Q I rx rv h
 obtain⟨l,xs,y,rfl,rfl,hH,hz,q⟩:=h
 cases rx
 obtain⟨u,rfl,ru⟩:=rv.one
 obtain⟨z,its,n,r,hl,e⟩:=I.lstM hH
 refine call_meets F.slot_list_append ⟨_,e,rfl⟩ F.entry_list_append (F.args_list_append_2 _ _) (PySem.list_append l its.toArray n u (by rw[MJ];omega)) ⟨e,?_⟩
 refine⟨.non,_,I.lset (its':=its++[u]) hH e (by simp) (r.append (.cons ru .nil)) ?_,rfl,q⟩
 rw[Nu,List.length_singleton]
 omega
end
section
variable {prog:Program} {w:World} {A:Around} {E:Value→Shared→Prop} {s:Shared}
end
section
variable {X:Cx}
end
end L2
namespace Att
open PySem PySem.W PySem.Calls PyProof.Rows
theorem cD{P:Params}{h:Heap}:∀(ns:List Int) (vs:List Value),WellAll P h vs (ns.map WData.int)→IntsAre vs ns:=by
 intro ns
 induction ns with
 | nil =>
  intro vs w
  rw[Od]at w
  cases w
  exact .nil
 | cons n ns ih =>
  intro vs w
  rw[Ni]at w
  cases w with
  | cons a b =>
   cases a
   exact .cons _ _ (ih _ b)
theorem sP{l:OpenLaw}{n:Nat}(hn:l.most=some n){P:Params}{h:Heap}{args:List WData}{vals:List Value}
  (hpre:l.row.toRowW.claim.pre args=true) (hwl:WellAll P h vals args) :
  ∃ a vs ns,vals=[Value.ref a]∧args=[WData.list (ns.map WData.int)]∧h.get? a=some { cls:=.type "list",data:=.seq vs.toArray }∧IntsAre vs ns∧ns.length≤n:=by
 have hsh:WShape.hasAll [] args [.list .int]=true:=(pre_splitW hpre).1
 have hc:l.pre.holds [] { args:=args } = true:=(pre_splitW hpre).2
 obtain⟨d,r,rfl,h1,h2⟩:=hasAllW_cons hsh
 obtain rfl:=hasAllW_nil h2
 obtain⟨xs,rfl,h3⟩:=hasW_list h1
 obtain⟨ns,rfl⟩:=items_int h3
 have hlen:ns.length≤n:=by
  unfold OpenLaw.pre at hc
  have h4:(WTm.not (.lt (.lit (.int (n:Int))) (.len (.arg 0)))).holds [] { args:=[.list (ns.map .int)] } = true:=by
   have h4:=(holds_andW hc).1
   rw[hn]at h4
   exact h4
  have h5:=condW_of h4 (w_not (w_lt w_lit (w_len_list (w_arg rfl))))
  rw[MA]at h5
  refine Nat.le_of_not_lt fun q=>?_
  have q':(n:Int)<((ns.length:Nat):Int):=by omega
  first
   | (rw[decide_eq_true q']at h5;exact absurd h5 (by decide))
   | (simp at h5;omega)
 cases hwl with
 | cons w1 w2 =>
  cases w2
  cases w1 with
  | list ho hall=>exact⟨_,_,ns,rfl,rfl,ho,cD ns _ hall,hlen⟩
theorem sU(l:OpenLaw)(args:List WData):l.row.toRowW.claim.post args (.bool true) args=true :=
 postW_of (r:=l.row.toRowW) (X:=(true == true))
  (show WShape.has [] (.bool true) .bool=true by first|rfl|decide|simp[WShape.has,WShape.arms,WShape.armsAll])
  (show(WTm.eq .res (.lit (.bool true))).value [] { args:=args,res:=some (.bool true),after:=args } = some (.bool (true == true))from w_eq_bool (w_res rfl) w_lit) rfl
theorem nT{l:OpenLaw}{n:Nat}{q:Program}{loose:List Str}{XP:(Str→Option Value)→Heap→Prop}{YP:World→Heap→Prop}{d:DefRec}
  (hn:l.most=some n) (hdf:d.params.defaults=[])
  (call:∀(w:World) (s₀ s₁:Shared) (mg mb:Str→Option Value) (fa:Addr) (o:Obj) (pm cd doc:Value) (a:Addr) (vs:List Value) (ns:List Int),
   Ground q loose [] XP w s₀ mg mb s₁.heap→YP w s₁.heap →
   s₁.heap.get? fa=some o→o.data = .func (docDef d.name d.params d.body d.scope pm cd doc)→s₁.heap.CodeRec cd d.name→mg d.name=some (.ref fa) →
   s₁.heap.get? a=some { cls:=.type "list",data:=.seq vs.toArray }→IntsAre vs ns→ns.length≤n→s₁.gens = #[] →
   codeAny (model l.prog w) callerA (.call (.ref fa) ⟨[.ref a],[]⟩) (fun r s'=>r = .ok (.ret (.bool true))∧OldK s₁.heap s'.heap∧s'.os=s₁.os∧AllBare s'.gens) s₁) :
  WalkO q loose XP YP l.row.toRowW d [] (fun f vs=>PySem.call f vs):=by
 intro w s₀ s₁ mg mb G Y fa o pm cd doc dV kV ho hd hcd hD hmg hg args vals as hpre hlay hrd hwl hlo
 obtain rfl:dV = .none:=Dflts.none hD hdf
 obtain rfl:kV = .none:=Dflts.noKw hD
 obtain⟨a,vs,ns,rfl,rfl,hobj,hints,hlen⟩:=sP hn hpre hwl
 refine enter_call (codeAny_mono (call w s₀ s₁ mg mb fa o pm cd doc a vs ns G Y ho (fd_plain hd) hcd hmg hobj hints hlen hg) fun r s' hq=>?_)
 obtain⟨rfl,h2,h3,h4⟩:=hq
 exact⟨.inl ⟨.bool true,.bool true,[],rfl,fun _=>rfl,.bool true,sU l _,fun _=>⟨List.Pairwise.nil,fun _ hm=>(nomatch hm)⟩⟩,h2,h3,h4⟩
section
variable {prog:Program} {w:World} {A:Around} {E:Value→Shared→Prop} {s:Shared} {K:Frag}
end
end Att
namespace L2
open PySem PySem.Spec PyProof.Rows
theorem br:∀{vs:List Value} {ns:List Int},IntsAre vs ns→j6 (ns.map V.int) vs
 | _,_,.nil=>.nil
 | _,_,.cons n t h=>.cons ⟨t,rfl⟩ (br h)
def tR(H:Hp):Prop:=∀ b,H b=none ∨ ∃ o xs,H b=some (.frz o (.lst xs))
theorem xf{P:Program}{w:World}{K:Ms}{mg mb:Str→Option Value}{CX:CXT}{k:Nat}{fa a:Addr}{fd:FuncData}{x:Str}{sp:Sp}{s₁:Shared}{vs:List Value}{ns:List Int}
  (KX:K.In s₁.heap) (hns:s₁.heap.Ns mainGlobals mg) (hb:s₁.heap.Ns builtinsNs mb) (hbb:∀ x:Str,x ≠ "__name__" → mb x=bootBuiltins x) (hlim:s₁.heap.NoLimit) (hg:s₁.gens = #[])
  (ha:s₁.heap.get? a=some { cls:=.type "list",data:=.seq vs.toArray }) (hi:IntsAre vs ns) (hl:ns.length≤sizeLine) (hr:G6 k callerA)
  (F:∀ base:Heap,K.In base→base.Ns mainGlobals mg→S1 P w K mg base CX k fa fd [x] sp) (hbind:∀(s:Shared) (u:Value),BindsTo s fd ⟨[u],[]⟩ [(x,u)])
  (hsp:∀ H:Hp,tR H→SqL K H a (ns.map V.int)→sp [.ref a] H (fun v _=>v = .bl true) fun _ _ _=>False)
  (hCX:∀ H e s',CX [] H s₁ (fun _ _ _=>False) e s'→False) :
  codeAny (model P w) callerA (.call (.ref fa) ⟨[.ref a],[]⟩) (fun r s'=>r = .ok (.ret (.bool true))∧OldK s₁.heap s'.heap∧s'.os=s₁.os∧AllBare s'.gens) s₁:=by
 have rv:=br hi
 have lenV:=hi.length
 have core:∀ H:Hp,tR H→SqL K H a (ns.map V.int)→HOk P w H s₁.heap→(∀ b,H b≠none→b=a)→(H a≠none→K.lookup a=none) →
   codeAny (model P w) callerA (.call (.ref fa) ⟨[.ref a],[]⟩) (fun r s'=>r = .ok (.ret (.bool true))∧OldK s₁.heap s'.heap∧s'.os=s₁.os∧AllBare s'.gens) s₁:=by
  intro H hO hS hok hA hK
  have base_of:∀{b:Addr} {o:Obj},s₁.heap.get? b=some o→H b=none→(kA s₁.heap H).get? b=some o:=fun e n=>xv e n
  have noA:∀{b:Addr} {o:Obj} {es:Array DictEntry} {ep:Nat},s₁.heap.get? b=some o→o.data = .dict es ep→H b=none:=fun{b o es ep} e d=>by
   cases q:H b with
   | none=>rfl
   | some u =>
    have e':b=a:=hA b (by rw[q];simp)
    subst e'
    rw[ha]at e;cases e
    have d':Data.seq vs.toArray _=Data.dict es ep:=d
    cases d'
  have nsK:∀{b:Addr} {m:Str→Option Value},s₁.heap.Ns b m→(kA s₁.heap H).Ns b m:=fun{b m} ⟨o,es,ep,e,d,r⟩=>⟨o,es,ep,base_of e (noA e d),d,r⟩
  have hKb:K.In (kA s₁.heap H):=fun b o e=>base_of (KX b o e) (by
   cases q:H b with
   | none=>rfl
   | some u =>
    have e':b=a:=hA b (by rw[q];simp)
    subst e'
    rw[hK (by rw[q];simp)]at e;cases e)
  have hM:Mod K mg (kA s₁.heap H):=⟨hKb,nsK hns,⟨mb,nsK hb,hbb⟩,let ⟨mc,h1,h2⟩:=hlim;⟨mc,nsK h1,h2⟩⟩
  have e0:qb P w K mg (kA s₁.heap H) callerA [] s₁ H:=⟨rfl,hM,fun b o e=>Bb e,PJ (tI _ _),trivial,fun b hb=>absurd (show b∈([]:List Addr)from hb) (by simp),hok,.of_eq hg⟩
  refine codeAny_mono ((F _ hKb (nsK hns)).run callerA [] s₁ H ⟨[.ref a],[]⟩ [.ref a] [.ref a] _ _ hr e0 (hbind s₁ (.ref a)) (.cons rfl .nil) (hsp H hO hS)) fun r s' h=>?_
  cases r with
  | error e=>exact(hCX H e s' h).elim
  | ok fl =>
   cases fl with
   | next=>exact False.elim h
   | brk=>exact False.elim h
   | cont=>exact False.elim h
   | ret u =>
    obtain⟨v,H',os,bare,un,hok',r',q⟩:=h
    have q':v = .bl true:=q
    subst q'
    obtain rfl:u=Value.bool true:=r'
    refine⟨rfl,OldK.of_keep fun b o e=>?_,os,bare⟩
    cases q:H b with
    | none=>exact un.keep b o e q (by intro z;exact absurd (show b∈([]:List Addr)from z) (by simp)) (by simp)
    | some u =>
     rcases hO b with z|⟨ob,xs,z⟩
     ·rw[q]at z;cases z
     ·have z2:=un.frzs b ob _ z
      obtain⟨e1,_⟩:=hok b _ z
      obtain⟨e2,_⟩:=hok' b _ z2
      rw[e]at e1;cases e1
      exact e2
 cases hk:K.lookup a with
 | some o =>
  have e:=KX a o hk
  rw[ha]at e
  cases e
  refine core (fun _=>none) (fun _=>.inl rfl) (.inr ⟨_,vs.toArray,_,hk,rfl,rfl,rfl,by rw[MJ,lenV];exact hl,by simpa using rv⟩) (fun b u z=>by have z':(none:Option HO)=some u:=z;cases z') (fun b z=>absurd rfl z) fun z=>absurd rfl z
 | none =>
  refine core (fun b=>if b=a then some (.frz { cls:=.type "list",data:=.seq vs.toArray } (.lst (ns.map V.int)))else none) (fun b=>?_) (.inl (.inr ⟨{ cls:=.type "list",data:=.seq vs.toArray },if_pos rfl⟩)) (fun b u z=>?_) (fun b z=>?_) fun _=>hk
  ·by_cases hb:b=a
   ·exact .inr ⟨_,_,if_pos hb⟩
   ·exact .inl (if_neg hb)
  ·by_cases hb:b=a
   ·have z':=(if_pos hb).symm.trans z
    cases z'
    subst hb
    exact⟨ha,by rw[MA];exact hl,vs,_,rv,ha⟩
   ·have z':=(if_neg hb).symm.trans z
    cases z'
  ·by_cases hb:b=a
   ·exact hb
   ·exact absurd (if_neg hb) z
theorem zW{l:PySem.W.OpenLaw}{n k:Nat}{q:Program}{loose:List Str}{XP:(Str→Option Value)→Heap→Prop}{YP:World→Heap→Prop}{d:DefRec}{K:Params→Ms}{CX:World→CXT}{sp:World→Sp}{x:Str}
  (hn:l.most=some n) (hn2:n≤sizeLine) (hdf:d.params.defaults=[]) (hr:G6 k callerA)
  (hY:∀(w:World) (h:Heap),YP w h→(K w.params).In h)
  (F:∀(w:World) (mg:Str→Option Value) (fa:Addr) (h:Heap),(K w.params).In h→h.Ns mainGlobals mg→mg d.name=some (.ref fa) →
   ∃ fd:FuncData,(∀(s:Shared) (u:Value),BindsTo s fd ⟨[u],[]⟩ [(x,u)]) ∧
    ∀ base:Heap,(K w.params).In base→base.Ns mainGlobals mg→S1 l.prog w (K w.params) mg base (CX w) k fa fd [x] (sp w))
  (hsp:∀(w:World) (H:Hp) (a:Addr) (ns:List Int),ns.length≤n→tR H→SqL (K w.params) H a (ns.map V.int)→sp w [.ref a] H (fun v _=>v = .bl true) fun _ _ _=>False)
  (hCX:∀(w:World) (H:Hp) (s:Shared) (e:Value) (s':Shared),CX w [] H s (fun _ _ _=>False) e s'→False) :
  PySem.W.WalkO q loose XP YP l.row.toRowW d [] (fun f vs=>PySem.call f vs):=by
 refine Att.nT hn hdf fun w s₀ s₁ mg mb fa o pm cd doc a vs ns G Y ho hd hcd hmg hobj hints hlen hg=>?_
 have KX:=hY w _ Y
 obtain⟨fd,hb,hF⟩:=F w mg fa _ KX G.T.g hmg
 exact xf KX G.T.g G.T.b G.T.builtins G.T.nolimit hg hobj hints (ME hlen hn2) hr hF hb (fun H hO hS=>hsp w H a ns hlen hO hS) fun H e s'=>hCX w H s₁ e s'
theorem uZ{l:PySem.W.OpenLaw}{n k:Nat}{q:Program}{loose:List Str}{XP:(Str→Option Value)→Heap→Prop}{YP:World→Heap→Prop}{d:DefRec}{K:Params→Ms}{CX:CXT}{sp:Ms→Sp}{x:Str}
  (hn:l.most=some n) (hn2:n≤sizeLine) (hdf:d.params.defaults=[]) (hr:G6 k callerA)
  (hY:∀(w:World) (h:Heap),YP w h→(K w.params).In h)
  (F:∀(w:World) (mg:Str→Option Value) (fa:Addr) (h:Heap),(K w.params).In h→h.Ns mainGlobals mg→mg d.name=some (.ref fa) →
   ∃ fd:FuncData,(∀(s:Shared) (u:Value),BindsTo s fd ⟨[u],[]⟩ [(x,u)]) ∧
    ∀ base:Heap,(K w.params).In base→base.Ns mainGlobals mg→S1 l.prog w (K w.params) mg base CX k fa fd [x] (sp (K w.params)))
  (hsp:∀(K:Ms) (H:Hp) (a:Addr) (ns:List Int),ns.length≤n→tR H→SqL K H a (ns.map V.int)→sp K [.ref a] H (fun v _=>v = .bl true) fun _ _ _=>False)
  (hCX:∀(H:Hp) (s:Shared) (e:Value) (s':Shared),CX [] H s (fun _ _ _=>False) e s'→False) :
  PySem.W.WalkO q loose XP YP l.row.toRowW d [] (fun f vs=>PySem.call f vs) :=
 zW (K:=K) (CX:=fun _=>CX) (sp:=fun w=>sp (K w.params)) hn hn2 hdf hr hY F (fun w H a ns h1 h2 h3=>hsp (K w.params) H a ns h1 h2 h3) fun _ H s e s'=>hCX H s e s'
noncomputable def R4(s:Stmt):Arguments:=match s with
 | .FunctionDef _ a _ _ _ _ _ _ _ _=>a
 | _=>{ posonlyargs:=[],args:=[],vararg:=none,kwonlyargs:=[],kw_defaults:=[],kwarg:=none,defaults:=[] }
noncomputable def J2(s:Stmt):List Stmt:=match s with
 | .FunctionDef _ _ b _ _ _ _ _ _ _=>b
 | _=>[]
noncomputable def e6(s:Stmt):Scope:=match s with
 | .FunctionDef _ _ _ _ _ _ sc _ _ _=>sc
 | _=>{ kind:=.function,names:=[],isGenerator:=false,isCoroutine:=false }
abbrev CX0:CXT:=fun _ _ _ _ _ _=>False
abbrev E0:XK:=fun _ _ _=>False
theorem Hg{X:Cx}:kX CX0 X E0:=fun _ _ _ _ _ _ _ h=>h.elim
section
variable {P:Program} {w:World} {K:Ms} {mg:Str→Option Value} {base:Heap}
end
section
variable {X:Cx}
theorem pv(i:Nat){x:Str}{pos:Pos}(hN:X.N[i]? = some x:=by rfl)(hv:Vis X.env.scope x:=by first|exact Or.inl rfl|exact Or.inr (Or.inl rfl)|exact Or.inr (Or.inr rfl))(hd:(x == ("__debug__" : Str))=false:=by decide)
  (hcd:(x == ("__classdict__" : Str))=false:=by decide):PE X (.Name x pos) (GD i):=wA hN hv hd hcd
end
theorem Hy{A B:Prop}(h:B):if false=true then A else B:=by
 rw[if_neg MF]
 exact h
theorem Hw{A B:Prop}(h:A):if true=true then A else B:=by
 rw[if_pos rfl]
 exact h
end L2
end
namespace RM
open Rat
noncomputable def bl(n:Nat):Nat:=n.log2+1
theorem aV(n:Nat):n<2 ^ bl n:=Nat.lt_log2_self
theorem eV{n k:Nat}(h:n<2 ^ k)(hk:0<k):bl n≤k:=by
 unfold bl
 rcases Qp n with h0|h0
 ·subst h0;rw[Nat.log2_zero];omega
 ·have:=(Qg (Qh.mp h0)).mpr h
  omega
theorem yo(n:Nat):0<bl n:=Nat.succ_pos _
theorem kQ{m n:Nat}(h:m≤n):bl m≤bl n:=eV (MP h (aV n)) (yo n)
theorem R6(m n:Nat):bl (m*n)≤bl m+bl n:=by
 refine eV ?_ (Nat.add_pos_left (yo m) _)
 rw[Nt]
 exact ND (aV m) (aV n)
theorem FD(m n:Nat):bl (m+n)≤max (bl m) (bl n)+1:=by
 refine eV ?_ (Nat.succ_pos _)
 have h1:=aV m
 have h2:=aV n
 have e1:2 ^ bl m≤2 ^ max (bl m) (bl n):=My (by decide) (PK _ _)
 have e2:2 ^ bl n≤2 ^ max (bl m) (bl n):=My (by decide) (Pw _ _)
 rw[NJ]
 omega
noncomputable def sz(q:Rat):Nat:=max (bl q.num.natAbs) (bl q.den)
theorem O7(q:Rat):bl q.num.natAbs≤sz q:=PK _ _
theorem E8(q:Rat):bl q.den≤sz q:=Pw _ _
theorem CS{q:Rat}{n:Nat}(h1:bl q.num.natAbs≤n)(h2:bl q.den≤n):sz q≤n:=PV.mpr ⟨h1,h2⟩
theorem EV(a b:Int):(divInt a b).num.natAbs≤a.natAbs:=by
 rw[num_divInt]
 rcases Int.lt_trichotomy b 0 with h|h|h
 ·rw[Pd h]
  refine ME (Pg _ _) ?_
  simp
 ·subst h;simp
 ·rw[PC h,Int.one_mul]
  exact Pg _ _
theorem Fq(a b:Int)(hb:b≠0):(divInt a b).den≤b.natAbs:=by
 rw[den_divInt,if_neg hb]
 exact Oe _ _
theorem V3(a b:Int)(hb:b≠0):sz (divInt a b)≤max (bl a.natAbs) (bl b.natAbs) :=
 CS (ME (kQ (EV a b)) (PK _ _)) (ME (kQ (Fq a b hb)) (Pw _ _))
theorem t8(q:Rat):(q.den:Int)≠0:=by have:=q.den_nz;omega
theorem pY(q r:Rat):q+r=divInt (q.num*r.den+r.num*q.den) (q.den*r.den):=by
 conv=>lhs;rw[← num_divInt_den q,← num_divInt_den r]
 rw[divInt_add_divInt _ _ (t8 q) (t8 r)]
theorem pE(q r:Rat):q*r=divInt (q.num*r.num) (q.den*r.den):=by
 conv=>lhs;rw[← num_divInt_den q,← num_divInt_den r]
 rw[divInt_mul_divInt]
theorem xQ(q r:Rat):q / r=divInt (q.num*r.den) (q.den*r.num):=by
 rw[div_def]
 conv=>lhs;rw[← num_divInt_den q,← num_divInt_den r]
 rw[inv_divInt,divInt_mul_divInt]
theorem eL(a b:Int):(a+b).natAbs≤a.natAbs+b.natAbs:=OG a b
theorem J7(q r:Rat):sz (q+r)≤sz q+sz r+1:=by
 rw[pY]
 have hb:((q.den:Int)*(r.den:Int))≠0:=Nj (t8 q) (t8 r)
 refine ME (V3 _ _ hb) (PV.mpr ⟨?_,?_⟩)
 ·refine ME (kQ (eL _ _)) (ME (FD _ _) ?_)
  rw[Nf,Nf]
  have h1:=R6 q.num.natAbs (r.den:Int).natAbs
  have h2:=R6 r.num.natAbs (q.den:Int).natAbs
  have a1:=O7 q
  have a2:=O7 r
  have a3:=E8 q
  have a4:=E8 r
  simp only[MC]at h1 h2 ⊢
  omega
 ·rw[Nf]
  have h1:=R6 (q.den:Int).natAbs (r.den:Int).natAbs
  have a3:=E8 q
  have a4:=E8 r
  simp only[MC]at h1 ⊢
  omega
theorem u8(q r:Rat):sz (q*r)≤sz q+sz r:=by
 rw[pE]
 have hb:((q.den:Int)*(r.den:Int))≠0:=Nj (t8 q) (t8 r)
 refine ME (V3 _ _ hb) (PV.mpr ⟨?_,?_⟩)
 ·rw[Nf]
  have h1:=R6 q.num.natAbs r.num.natAbs
  have a1:=O7 q
  have a2:=O7 r
  omega
 ·rw[Nf]
  have h1:=R6 (q.den:Int).natAbs (r.den:Int).natAbs
  have a3:=E8 q
  have a4:=E8 r
  simp only[MC]at h1 ⊢
  omega
theorem bu(q:Rat):sz (-q)=sz q:=by
 unfold sz
 rw[Pq,Qi,Nz]
theorem DY(q r:Rat):sz (q - r)≤sz q+sz r+1:=by
 rw[Qq]
 have:=J7 q (-r)
 rw[bu]at this
 exact this
theorem Y6(q r:Rat)(hr:r≠0):sz (q / r)≤sz q+sz r:=by
 rw[xQ]
 have hn:r.num≠0:=fun h=>hr (NM.mp h)
 have hb:((q.den:Int)*r.num)≠0:=Nj (t8 q) hn
 refine ME (V3 _ _ hb) (PV.mpr ⟨?_,?_⟩)
 ·rw[Nf]
  have h1:=R6 q.num.natAbs (r.den:Int).natAbs
  have a1:=O7 q
  have a4:=E8 r
  simp only[MC]at h1 ⊢
  omega
 ·rw[Nf]
  have h1:=R6 (q.den:Int).natAbs r.num.natAbs
  have a3:=E8 q
  have a2:=O7 r
  simp only[MC]at h1 ⊢
  omega
theorem vy(q:Rat){n:Nat}(hn:0<n)(h1:q.num.natAbs<2 ^ n)(h2:q.den<2 ^ n):sz q≤n:=CS (eV h1 hn) (eV h2 hn)
theorem ak:sz 0=1:=by decide
theorem vz:sz 1=1:=by decide
theorem nE(a b:Nat)(h:b≠0):NH a b=NH b (a % b):=by
 rw[QD,Nat.gcd_rec,QD]
theorem R1{a g:Int}(h:g ∣ a):a.fdiv g=a / g:=by
 obtain⟨c,rfl⟩:=h
 by_cases hg:g=0
 ·subst hg;simp
 ·rw[Int.mul_fdiv_cancel_left _ hg,Int.mul_ediv_cancel_left _ hg]
theorem EW(a b:Int)(hb:b≠0)(share:Int)(hs:share=if b<0 then -((NH a.natAbs b.natAbs:Nat):Int)else((NH a.natAbs b.natAbs:Nat):Int)) :
  a.fdiv share=(divInt a b).num∧b.fdiv share=((divInt a b).den:Int):=by
 have hg:NH a.natAbs b.natAbs=Rf b a:=by unfold Rf;exact QD _ _
 have da:((Rf b a:Nat):Int) ∣ a:=Int.gcd_dvd_right b a
 have db:((Rf b a:Nat):Int) ∣ b:=Int.gcd_dvd_left b a
 rw[hg]at hs
 rw[num_divInt,den_divInt,if_neg hb]
 by_cases h:b<0
 ·rw[if_pos h]at hs
  subst hs
  rw[R1 (Int.neg_dvd.mpr da),R1 (Int.neg_dvd.mpr db),Pd h]
  refine⟨?_,?_⟩
  ·rw[Int.ediv_neg,Int.neg_one_mul,Qj da]
  ·rw[Int.ediv_neg,← Qj db]
   have e:-b=((b.natAbs:Nat):Int):=by omega
   rw[e]
   norm_cast
 ·rw[if_neg h]at hs
  subst hs
  have hp:0<b:=by omega
  rw[R1 da,R1 db,PC hp,Int.one_mul]
  refine⟨rfl,?_⟩
  have e:b=((b.natAbs:Nat):Int):=by omega
  conv=>lhs;rw[e]
  norm_cast
theorem Hs(q r:Rat):decide (q.num*(r.den:Int)<r.num*(q.den:Int))=decide (q<r):=by
 by_cases h:q<r
 ·rw[decide_eq_true h,decide_eq_true ((Rat.lt_iff q r).mp h)]
 ·rw[decide_eq_false h,decide_eq_false (fun z=>h ((Rat.lt_iff q r).mpr z))]
end RM
namespace L2
open PySem PySem.Spec PyProof.Rows
section
variable {prog:Program} {w:World} {A:Around} {R:Result→Shared→Prop} {s:Shared}
noncomputable def qU(ifs:List Expr)(env:Env):Sem Bool:=forIn ifs true fun c r=>if r=true then do let ok ← isTrue c env (eval c env);pure (ForInStep.yield ok)else pure (ForInStep.yield r)
theorem kG{elt target iter:Expr}{ifs:List Expr}{scope:Scope}{pos:Pos}{it acc:Value}{env:Env}(I:Nat→Shared→Prop)
  (turn:∀ n s,I n s→wpAny (model prog w) A (pyNext it) (fun r s₁=>match r with
   | none=>R (.ok .next) s₁
   | some v=>wpAny (model prog w) A (letOwnedTupleGo target it v) (fun _ s₁'=>wpAny (model prog w) A (assign target env v) (fun _ s₂=>wpAny (model prog w) A (qU ifs env) (fun ok s₂'=>if ok=true then wpAny (model prog w) A (eval elt env) (fun x s₃ =>
     wpAny (model prog w) A (call (.builtin "list.append") [acc,x]) (fun _ s₄=>∃ m,m<n∧I m s₄) (notedBy (model prog w) A env fun e s'=>R (.error e) s') s₃)
     (notedBy (model prog w) A env fun e s'=>R (.error e) s') s₂' else ∃ m,m<n∧I m s₂') (notedBy (model prog w) A env fun e s'=>R (.error e) s') s₂) (notedBy (model prog w) A env fun e s'=>R (.error e) s') s₁') (notedBy (model prog w) A env fun e s'=>R (.error e) s') s₁) (notedBy (model prog w) A env fun e s'=>R (.error e) s') s)
  (n:Nat) (h:I n s) :
  codeAny (model prog w) A (.compLoop (.ListComp elt [⟨target,iter,ifs,0⟩] scope pos) 0 it acc env) R s:=by
 refine codeAny_loop rfl I (fun n s hI=>?_) n h
 show wpAny _ _ ((compTurn (.ListComp elt [⟨target,iter,ifs,0⟩] scope pos) 0 it acc env).onRaise (fun x=>do noteFrame x env;theTreesLotGoes x)) _ _ s
 refine wpAny_noted ?_
 rw[compTurn_list]
 refine Mq (wpAny_standAt (Mq (wpAny_mono (turn n s hI) (fun r s₁ h₁=>?_) fun _ _ h'=>h')))
 cases r with
 | none=>exact Mu h₁
 | some v =>
  refine Mq (wpAny_mono h₁ (fun _ s₁' h₁'=>?_) fun _ _ h'=>h')
  refine Mq (wpAny_mono h₁' (fun _ s₂ h₂=>Mq (wpAny_mono h₂ (fun ok s₂' h₃=>?_) fun _ _ h'=>h')) fun _ _ h'=>h')
  cases ok with
  | true =>
   refine Mq (Mq (wpAny_mono h₃ (fun x s₃ h₄=>Mq (wpAny_mono h₄ (fun _ s₄ h₅=>Mu (Mu ⟨rfl,h₅⟩)) fun _ _ h'=>h')) fun _ _ h'=>h'))
  | false=>exact Mq (Mu (Mu ⟨rfl,h₃⟩))
end
def bN(X:Cx)(ifs:List Expr)(t:TT):Prop :=
 ∀(pins:List (Addr × Obj)) (s:Shared) (σ:St) (H:Hp) (Q:Bool→Hp→Prop),Inv X pins σ H s→t σ H Q→wpAny (model X.prog X.w) X.A (qU ifs X.env) (TP X pins σ Q) X.xe s
def ID:TT:=fun _ H Q=>Q true H
theorem wo{X:Cx}:bN X [] ID:=fun pins s σ H Q I q=>Mu ⟨H,I,q⟩
theorem wm{X:Cx}{c:Expr}{t:TT}(h:PT X c t):bN X [c] t:=fun pins s σ H Q I q=>wpAny_tests_one (h pins s σ H Q I q)
noncomputable def U6(cells:List (Str × Addr)):List (Str × NameKind)→List (Str × Addr)→List (Str × Addr)
 | [],acc=>acc
 | (n,k) :: r,acc=>if k == .free then U6 cells r ((n,(cells.lookup n).getD 0) :: acc)else U6 cells r acc
theorem ae{env:Env}:∀(names:List (Str × NameKind)) (acc:List (Str × Addr)),(∀ n,(n,NameKind.free)∈names→∃ c,env.cells.lookup n=some c) →
  (forIn names acc (fun(x:Str × NameKind) (cs:List (Str × Addr))=>if (x.2 == NameKind.free)=true then(do let a ← cellOf env x.1;pure (ForInStep.yield ((x.1,a) :: cs)))else pure (ForInStep.yield cs)):Sem (List (Str × Addr)))=pure (U6 env.cells names acc)
 | [],acc,_=>rfl
 | (n,k) :: r,acc,h=>by
  rw[OB]
  unfold U6
  by_cases hk:(k == NameKind.free)=true
  ·have e:k = .free:=by cases k<;>first|rfl|(exact absurd hk (by decide))
   subst e
   obtain⟨c,hc⟩:=h n Mz
   rw[if_pos hk,if_pos hk]
   have e1:cellOf env n=pure c:=by unfold cellOf;rw[hc]
   rw[e1,pure_bind,pure_bind,hc]
   exact ae r _ fun m hm=>h m (Mx _ hm)
  ·rw[if_neg hk,if_neg hk,pure_bind]
   exact ae r _ fun m hm=>h m (Mx _ hm)
theorem nP{scope:Scope}{env:Env}(h:∀ n,(n,NameKind.free)∈scope.names→∃ c,env.cells.lookup n=some c):closureFor scope env=pure (U6 env.cells scope.names []):=by
 have:=ae (env:=env) scope.names [] h
 unfold closureFor
 first
  | (simp only[]at this ⊢;rw[← this];simp only[bind_pure];rfl)
  | (rw[← this];rfl)
  | (simp only[bind_pure,pure_bind];exact this)
theorem R5{cells:List (Str × Addr)}{x:Str}{c:Addr}:∀(names:List (Str × NameKind)) (acc:List (Str × Addr)),(∀ n,(n,NameKind.free)∈names→∃ c,cells.lookup n=some c)→(∀ y d,acc.lookup y=some d→cells.lookup y=some d)→(U6 cells names acc).lookup x=some c→cells.lookup x=some c
 | [],acc,_,ha,h=>ha x c h
 | (n,k) :: r,acc,hn,ha,h=>by
  unfold U6 at h
  by_cases hk:(k == NameKind.free)=true
  ·rw[if_pos hk]at h
   have e:k = .free:=by cases k<;>first|rfl|(exact absurd hk (by decide))
   subst e
   obtain⟨d,hd⟩:=hn n Mz
   refine R5 r _ (fun m hm=>hn m (Mx _ hm)) (fun y e hy=>?_) h
   rw[Ot]at hy
   split at hy
   ·rename_i hz
    have hz':y=n:=by simpa using hz
    subst hz'
    rw[hd]at hy ⊢
    cases hy;rfl
   ·exact ha y e hy
  ·rw[if_neg hk]at h
   exact R5 r _ (fun m hm=>hn m (Mx _ hm)) ha h
theorem X0{cells:List (Str × Addr)}{x:Str}:∀(names:List (Str × NameKind)) (acc:List (Str × Addr)),((x,NameKind.free)∈names ∨ ∃ c,acc.lookup x=some c)→∃ c,(U6 cells names acc).lookup x=some c
 | [],acc,h=>by
  rcases h with h|h
  ·cases h
  ·exact h
 | (n,k) :: r,acc,h=>by
  unfold U6
  by_cases hk:(k == NameKind.free)=true
  ·rw[if_pos hk]
   refine X0 r _ ?_
   by_cases hx:x=n
   ·right;rw[Ot];simp[hx]
   ·rcases h with h|⟨c,h⟩
    ·rcases Mv.mp h with z|z
     ·injection z with z1 _;exact absurd z1 hx
     ·exact .inl z
    ·right
     refine⟨c,?_⟩
     rw[Ot]
     have:(x == n)=false:=by simpa using hx
     rw[this];exact h
  ·rw[if_neg hk]
   refine X0 r _ ?_
   rcases h with h|h
   ·rcases Mv.mp h with z|z
    ·injection z with _ z2
     subst z2
     exact absurd rfl hk
    ·exact .inl z
   ·exact .inr h
theorem cf{scope:Scope}{env:Env}{x:Str}{k:NameKind}(h:(relabel scope env).names.lookup x=some k)(hk:k = .cell∨k = .free)(hcell:∀ y∈scope.names,y.2 ≠ .cell):(x,NameKind.free)∈scope.names:=by
 have go:∀(l:List (Str × NameKind)),(∀ y∈l,y.2 ≠ .cell)→(l.map fun(n,k)=>if (k == NameKind.free && env.scope.kind == .function && env.kindOf n == some .cell)=true then(n,NameKind.cell)else(n,k)).lookup x=some k→(x,NameKind.free)∈l:=by
  intro l
  induction l with
  | nil=>intro _ h;cases h
  | cons p r ih =>
   intro hl h
   obtain⟨n,j⟩:=p
   rw[Ni,Ot]at h
   by_cases hj:j = .free
   ·subst hj
    by_cases hx:x=n
    ·subst hx;exact Mz
    ·refine Mx _ (ih (fun y hy=>hl y (Mx _ hy)) ?_)
     have e:∀ b:Bool,(x == (if b=true then(n,NameKind.cell)else(n,NameKind.free)).1)=false:=fun b=>by cases b<;>simpa using hx
     dsimp only at h
     rw[e]at h
     exact h
   ·have e:(j == NameKind.free)=false:=by simpa using hj
    have hc:=hl (n,j) Mz
    dsimp only at h
    rw[e]at h
    simp only[Oo,Ob,if_false]at h
    by_cases hx:x=n
    ·have:(x == n)=true:=by simpa using hx
     rw[this]at h
     have h':j=k:=by simpa using h
     subst h'
     rcases hk with z|z
     ·exact absurd z hc
     ·exact absurd z hj
    ·have:(x == n)=false:=by simpa using hx
     rw[this]at h
     exact Mx _ (ih (fun y hy=>hl y (Mx _ hy)) h)
 exact go scope.names hcell h
noncomputable def cxF(X:Cx)(scope:Scope)(cl:List (Str × Addr))(N':List Str)(s3:Shared)(H3:Hp)(C:Addr)(fp:List Addr)(pins:List (Addr × Obj)):Cx :=
 { X with N:=N',s₀:=s3,H₀:=H3,env:=compEnvC scope cl C X.env,outer:=X.stack,ex:=fp,fn:=fun _=>false,pn:=X.pn++pins,xe:=fun _ _=>False }
noncomputable def kK(n:Nat)(caps:List Nat)(σ:St):St:=NZ n none++caps.map fun i=>(σ[i]?).getD none
def ox(n:Nat)(caps:List Nat)(wi:TI)(g:TG)(tc:TT)(te:TE):TE:=fun σ H Q=>wi σ H fun J H1=>∀ D,H1 D=none→∃ W:Nat→Nat→Hp→Prop,(∃ m,W 0 m (upd H1 D (.lst [])))∧∀ i m H,W i m H →
 (J.stop i H∧Q (.ref D) H)∨(J.go i H∧∀ x H',J.yld i H x H'→g x (kK n caps σ) H' fun σ2 H2=>tc σ2 H2 fun b H2'=>if b=true then te σ2 H2' fun v H3=>∃ ys,H3 D=some (.lst ys)∧ys.length<sizeLine∧∃ m',m'<m∧W (i+1) m' (upd H3 D (.lst (ys++[v])))else ∃ m',m'<m∧W (i+1) m' H2')
section
variable {X:Cx} {elt tg iter:Expr} {scope:Scope} {cl:List (Str × Addr)} {tgs cps:List Str} {caps:List Nat} {wi:TI} {g:TG} {tc:TT} {te:TE} {pos:Pos} {ifs:List Expr}
def yH(s3:Shared)(H3:Hp)(fp:List Addr)(cl:List (Str × Addr))(x:Str)(v:V):Prop :=
 ∃(u:Value) (c:Addr) (o:Obj),p7 v u∧cl.lookup x=some c∧s3.heap.get? c=some o∧o.data = .cell (some u)∧H3 c=none∧c∉fp
theorem Inv.reset{pins pins':List (Addr × Obj)}{σ0 σ':St}{H3 H':Hp}{s3 s':Shared}{fp:List Addr}{C:Addr}(I:Inv (cxF X scope cl (tgs++cps) s3 H3 C fp pins) pins' σ' H' s')
  (hsc:∀ x∈cps,(relabel scope X.env).names.lookup x=some .cell∨(relabel scope X.env).names.lookup x=some .free) (hl:caps.length=cps.length)
  (hc:∀(j:Nat) (x:Str) (v:V),cps[j]? = some x→(caps.map fun i=>(σ0[i]?).getD none)[j]? = some (some v)→yH s3 H3 fp cl x v) :
  Inv (cxF X scope cl (tgs++cps) s3 H3 C fp pins) pins' (kK tgs.length caps σ0) H' s':=by
 obtain⟨m,hn,_⟩:=I.loc
 refine⟨I.ok,I.os,I.bare,I.base,⟨m,hn,fun i x v e1 e2 e3=>?_⟩,I.cell,I.free,I.freeC,I.pin,I.hok,by simp[kK,cxF,hl]⟩
 have e1:(tgs++cps)[i]? = some x:=e1
 unfold kK at e2
 rw[OQ]at e1 e2
 rw[OJ]at e2
 by_cases hi:i<tgs.length
 ·rw[if_pos hi]at e2
  rw[NK]at e2
  split at e2<;>cases e2
 ·rw[if_neg hi]at e1 e2
  obtain⟨u,c,o,r,h1,h2,h3,h4,h5⟩:=hc (i - tgs.length) x v e1 e2
  obtain⟨sl,k⟩:=I.base.any h2 h4 h5
  refine⟨u,r,.inr ⟨?_,c,h1,_,k,h3⟩⟩
  rcases hsc x (MI e1)with z|z
  ·exact .inl z
  ·exact .inr z
theorem nN{pins:List (Addr × Obj)}{σ0:St}{σ:St}{H3:Hp}{s3:Shared}{fp:List Addr}{it D C:Addr}{tn:Nat→Heap→Prop}{J:It}{h₁:Heap}{tk:Nat}{m:Str→Option Value}{R:Result→Shared→Prop}{Qd:Hp→Prop}
  (hc:X.calm=true) (hcell:∀ x∈scope.names,x.2 ≠ .cell) (hkind:scope.kind = .function)
  (hcl:∀ x c,cl.lookup x=some c→X.env.cells.lookup x=some c) (hhas:∀ x,(x,NameKind.free)∈scope.names→∃ c,cl.lookup x=some c)
  (hsc:∀ x∈cps,(relabel scope X.env).names.lookup x=some .cell∨(relabel scope X.env).names.lookup x=some .free) (hl:caps.length=cps.length)
  (hcap:∀(j:Nat) (x:Str) (v:V),cps[j]? = some x→(caps.map fun i=>(σ0[i]?).getD none)[j]? = some (some v)→yH s3 H3 fp cl x v)
  (hg:∀ cl s3 H3 C fp pins,PG (cxF X scope cl (tgs++cps) s3 H3 C fp pins) tg g) (hq:∀ cl s3 H3 C fp pins,bN (cxF X scope cl (tgs++cps) s3 H3 C fp pins) ifs tc) (he:∀ cl s3 H3 C fp pins,PE (cxF X scope cl (tgs++cps) s3 H3 C fp pins) elt te)
  (I3:Inv X pins σ H3 s3) (T:nX X.prog X.w X.K tg J fp it tn) (st3:tn 0 s3.heap) (f3:∀ b∈fp,X7 X pins H3 b) (hC:C=s3.heap.objs.size) (hn:h₁.Ns C m) (hk:∀ b o,s3.heap.get? b=some o→h₁.get? b=some o)
  (W:Nat→Nat→Hp→Prop) (m0:Nat) (w0:W 0 m0 H3)
  (turn:∀ i m H,W i m H→(J.stop i H∧Qd H)∨(J.go i H∧∀ x H',J.yld i H x H'→g x (kK tgs.length caps σ0) H' fun σ2 H2=>tc σ2 H2 fun b H2'=>if b=true then te σ2 H2' fun v H3=>∃ ys,H3 D=some (.lst ys)∧ys.length<sizeLine∧∃ m',m'<m∧W (i+1) m' (upd H3 D (.lst (ys++[v])))else ∃ m',m'<m∧W (i+1) m' H2'))
  (hR:∀ s' H' σ',Inv (cxF X scope cl (tgs++cps) s3 H3 C fp pins) [] σ' H' s'→Qd H'→R (.ok .next) s') :
  codeAny (model X.prog X.w) X.A (.compStart (.ListComp elt [⟨tg,iter,ifs,0⟩] scope pos) 0 (.ref it) (.ref D) (compEnvC scope cl C X.env)) R { s3 with heap:=h₁,toks:=tk }:=by
 have lt3:∀ b∈fp,b<s3.heap.objs.size:=fun b hb=>by
  obtain⟨o,e,_⟩:=T.obj 0 _ st3 b hb
  exact MB e
 have ok':(cxF X scope cl (tgs++cps) s3 H3 C fp pins).Ok:={
  mod:=I3.ok.mod
  kind:=hkind
  glob:=I3.ok.glob
  blt:=I3.ok.blt
  above:=PJ hC.symm
  inj:=fun x y c e e'=>I3.ok.inj x y c (hcl x c e) (hcl y c e')
  has:=fun x h=>by
   rcases h with h|h
   ·exact hhas x (cf h (.inl rfl) hcell)
   ·exact hhas x (cf h (.inr rfl) hcell)
  cab:=fun x c h=>by cases h
  hd:=fun _=>I3.ok.hd hc
  frames:=I3.ok.frames
  stk:=.inl rfl
  exf:=fun b hb=>⟨fun z=>by
   have z':b=C:=z
   have h1:=lt3 b hb
   rw[z',hC]at h1
   exact NP _ h1,fun x c e=>(f3 b hb).2.2.2.2.1 x c (hcl x c e)⟩
  bs:=fun b o e=>I3.bs b o e
  bsz:=ME I3.ok.bsz I3.sz
  noex:=fun b o e hb=>by
   obtain⟨_,_,_,q,_⟩:=f3 b hb
   rcases q with q|q
   ·exact I3.ok.noex b o e q
   ·have h1:=MB e
    exact absurd (Mt (Mt h1 I3.ok.bsz) q) (NP _)
  exfs:=fun b hb z=>by
   obtain⟨_,q1,q2,_⟩:=f3 b hb
   rcases Mv.mp (I3.stkSub b z)with y|y
   ·exact q1 y
   ·exact q2 y
  funs:=I3.stack
  frf:=I3.stkFree }
 have J0:Inv (cxF X scope cl (tgs++cps) s3 H3 C fp pins) [] (NZ (tgs++cps).length none) H3 { s3 with heap:=h₁,toks:=tk }:={
  ok:=ok'
  os:=rfl
  bare:=I3.bare
  base:=Un.kept hk
  loc:=⟨m,hn,fun i x v _ e _=>by
   rw[NK]at e
   split at e<;>cases e⟩
  cell:=fun x c e=>by
   obtain⟨v,o,ho,hd⟩:=I3.cell x c (hcl x c e)
   exact⟨v,o,hk c o ho,hd⟩
  free:=I3.hok.fresh (PJ hC.symm)
  freeC:=fun x c e=>I3.freeC x c (hcl x c e)
  pin:=fun p hp=>by
   have hp':p∈X.pn++pins:=by simpa[cxF]using hp
   obtain⟨a1,a2,a3,a4,a5⟩:=I3.pin p hp'
   refine⟨hk _ _ a1,a2,fun z=>?_,fun z=>?_,a5⟩
   ·have z':p.1=C:=z
    have h1:=MB a1
    rw[z',hC]at h1
    exact NP _ h1
   ·rcases Mv.mp (I3.stkSub _ z)with y|y
    ·exact a3 y
    ·exact a4 y
  hok:=I3.hok.kept hk
  len:=by simp[cxF] }
 have stat:∀{H':Hp},(∀ b∈fp,H' b=none)→∀ b∈fp,X7 (cxF X scope cl (tgs++cps) s3 H3 C fp pins) [] H' b:=fun hn b hb=>by
  obtain⟨_,_,_,_,_,q⟩:=f3 b hb
  exact⟨hn b hb,(ok'.exf b hb).1,ok'.exfs b hb,.inl hb,(ok'.exf b hb).2,fun p hp=>q p (by simpa[cxF]using hp)⟩
 have loop:codeAny (model X.prog X.w) X.A (.compLoop (.ListComp elt [⟨tg,iter,ifs,0⟩] scope pos) 0 (.ref it) (.ref D) (compEnvC scope cl C X.env)) R { s3 with heap:=h₁,toks:=tk }:=by
  refine kG (fun n s'=>∃ i σ' H',Inv (cxF X scope cl (tgs++cps) s3 H3 C fp pins) [] σ' H' s'∧tn i s'.heap∧(∀ b∈fp,H' b=none)∧W i n H') ?_ m0
   ⟨0,_,H3,J0,T.keep _ _ _ st3 fun b hb o e=>hk b o e,fun b hb=>(f3 b hb).1,w0⟩
  rintro n s4 ⟨i,σ4,H4,I4,st4,fr4,w4⟩
  rcases turn i n H4 w4 with⟨stop,qn⟩|⟨go,step⟩
  ·refine thn (T.done (cxF X scope cl (tgs++cps) s3 H3 C fp pins) rfl rfl rfl hc i [] s4 σ4 H4 _ I4 (stat fr4) st4 stop) fun r s5 zz=>?_
   obtain⟨hr,I5⟩:=zz
   subst hr
   exact hR s5 H4 σ4 I5 qn
  ·refine thn (T.item (cxF X scope cl (tgs++cps) s3 H3 C fp pins) rfl rfl rfl hc i [] s4 σ4 H4 _ I4 (stat fr4) st4 go) fun r s5 zz=>?_
   obtain⟨u,hr,h5⟩:=zz
   subst hr
   refine thn h5 fun _ s6 zz=>?_
   obtain⟨x,H6,I6,r6,y6,st6,fr6⟩:=zz
   have I6w:=I6.reset hsc hl hcap
   have I6':=I6w.pinned (stat fr6) (T.obj _ _ st6)
   refine wpAny_mono (hg cl s3 H3 C fp pins _ s6 _ H6 x u _ I6' r6 (step x H6 y6)) (fun _ s7 ⟨σ7,H7,I7,q7⟩=>?_) fun _ _ z=>z.elim
   refine wpAny_mono (hq cl s3 H3 C fp pins _ s7 σ7 H7 _ I7 q7) (fun b s7' ⟨H7',I7',q7'⟩=>?_) fun _ _ z=>z.elim
   cases b with
   | false =>
    obtain⟨m',hm,w8⟩:=q7'
    refine⟨m',hm,i+1,σ7,H7',I7'.unpinned,T.keep _ _ _ st6 fun b hb o e=>(I7'.pin (b,o) (MT _ (MT _ (F4 hb e)))).1,fun b hb=>?_,w8⟩
    obtain⟨o,e,d⟩:=T.obj _ _ st6 b hb
    exact(I7'.pin (b,o) (MT _ (MT _ (F4 hb e)))).2.1
   | true =>
    refine wpAny_mono (he cl s3 H3 C fp pins _ s7' σ7 H7' _ I7' q7') (fun v s8 ⟨y,H8,I8,r8,q8⟩=>?_) fun _ _ z=>z.elim
    obtain⟨ys,hy,hz,m',hm,w8⟩:=q8
    refine wpAny_mono (ip (X:=cxF X scope cl (tgs++cps) s3 H3 C fp pins) _ s8 σ7 H8 (.ref D) [y] (.ref D) [v] (fun _ H9=>W (i+1) m' H9) I8 rfl (.cons r8 .nil) ⟨D,ys,y,rfl,rfl,hy,hz,w8⟩) (fun _ s9 ⟨_,H9,I9,_,w9⟩=>?_) fun _ _ z=>z.elim
    refine⟨m',hm,i+1,σ7,H9,I9.unpinned,T.keep _ _ _ st6 fun b hb o e=>(I9.pin (b,o) (MT _ (MT _ (F4 hb e)))).1,fun b hb=>?_,w9⟩
    obtain⟨o,e,d⟩:=T.obj _ _ st6 b hb
    exact(I9.pin (b,o) (MT _ (MT _ (F4 hb e)))).2.1
 exact codeAny_compStart_list loop (T.self _ 0 _ _ _ (T.keep _ _ _ st3 fun b hb o e=>hk b o e) loop)
theorem iE(hc:X.calm=true)(hcell:∀ x∈scope.names,x.2 ≠ .cell)(hkind:scope.kind = .function)(hnames:∀ x∈scope.names,x.2 = .local→scope.names.lookup x.1=some .local)
  (hfr:∀ x∈scope.names,x.2 = .free→x.1∈cps) (hN:caps.map (fun i=>X.N[i]?)=cps.map some) (hX:∀ x∈cps,X.env.scope.names.lookup x=some .cell∧scope.names.lookup x=some .free)
  (hsc:∀ x∈cps,(relabel scope X.env).names.lookup x=some .cell∨(relabel scope X.env).names.lookup x=some .free)
  (hi:PI X tg iter wi) (hg:∀ cl s3 H3 C fp pins,PG (cxF X scope cl (tgs++cps) s3 H3 C fp pins) tg g) (hq:∀ cl s3 H3 C fp pins,bN (cxF X scope cl (tgs++cps) s3 H3 C fp pins) ifs tc) (he:∀ cl s3 H3 C fp pins,PE (cxF X scope cl (tgs++cps) s3 H3 C fp pins) elt te)
  (hs:∀ x,foldedSetIterable iter X.env x=pure x) {use:Option (Value→Sem Unit)} {Qf:Value→Shared→Prop} {pins:List (Addr × Obj)} {s:Shared} {σ:St} {H:Hp} {Q:VK} (I:Inv X pins σ H s) (h:ox tgs.length caps wi g tc te σ H Q)
  (hU:∀(D C:Addr) (s':Shared) (H4:Hp) (m4:Str→Option Value),s'.heap.Ns C m4→X7 X pins H4 C→(∀ h',Heap.SameBut C s'.heap h'→Inv X pins σ H4 { s' with heap:=h' })→Q (.ref D) H4→compPost (model X.prog X.w) X.A X.xe use Qf (.ref D) C (.ok .next) s') :
  wpAny (model X.prog X.w) X.A (comprehension (.ListComp elt [⟨tg,iter,ifs,0⟩] scope pos) scope X.env (firstIterPos [⟨tg,iter,ifs,0⟩] pos) (newList []) false (eval iter X.env) use) Qf X.xe s:=by
 have hl:caps.length=cps.length:=by
  have:=congrArg QM hN
  simpa using this
 have hcells:∀ n,(n,NameKind.free)∈scope.names→∃ c,X.env.cells.lookup n=some c:=fun n hn=>I.ok.has n (.inl (hX n (hfr _ hn rfl)).1)
 refine wpAny_comprehension_free (use:=use) rfl hs (nP hcells) hkind hnames (thn (hi pins s σ H _ I h) fun v s1 h1=>thn h1 fun itv s2 h2=>?_)
 obtain⟨it,fp,tn,J,H',e,I2,T,st2,f2,hW⟩:=h2
 subst e
 refine wpAny_newObj_type (hd:=by size_fits) (wpAny_newFunctionEnv hcell (by intro y hy;simp at hy) (fun h₁ hns₁ hsb₁=>?_) hkind)
 dsimp only at hns₁ hsb₁ ⊢
 have I3:=I2.lnew (ys:=[]) (its:=[]) (t':=s2.toks) .nil (Np _)
 obtain⟨W,⟨m0,w0⟩,turn⟩:=hW _ I2.fresh
 have st3:tn 0 (s2.heap.push { cls:=.type "list",data:=.seq ([]:List Value).toArray }):=T.keep _ _ _ st2 fun b hb o e=>Mr _ e
 have f3:∀ b∈fp,X7 X pins (upd H' s2.heap.objs.size (.lst [])) b:=fun b hb=>by
  obtain⟨q0,q⟩:=f2 b hb
  obtain⟨o,e,_⟩:=T.obj 0 _ st2 b hb
  exact⟨by rw[g5 (MN (MB e))];exact q0,q⟩
 have old:∀ b o,(s2.heap.push { cls:=.type "list",data:=.seq ([]:List Value).toArray }).get? b=some o→h₁.get? b=some o:=fun b o e =>
  hsb₁.extBut b o (MN (MB e)) (Mr _ e)
 have hcap:∀(j:Nat) (x:Str) (v:V),cps[j]? = some x→(caps.map fun i=>(σ[i]?).getD none)[j]? = some (some v) →
   yH { s2 with heap:=s2.heap.push { cls:=.type "list",data:=.seq ([]:List Value).toArray },toks:=s2.toks } (upd H' s2.heap.objs.size (.lst [])) fp (U6 X.env.cells scope.names []) x v:=fun j x v ex ev=>by
  have hx:=hX x (MI ex)
  have hj:(caps.map (fun i=>X.N[i]?))[j]? = some (some x):=by rw[hN,MV,ex];rfl
  rw[MV]at ev hj
  cases hcj:caps[j]? with
  | none=>rw[hcj]at ev;cases ev
  | some i =>
   rw[hcj]at ev hj
   have ev':(σ[i]?).getD none=some v:=by simpa using ev
   have hj':X.N[i]? = some x:=by simpa using hj
   have es:σ[i]? = some (some v):=by
    cases q:σ[i]? with
    | none=>rw[q]at ev';cases ev'
    | some w=>rw[q]at ev';rw[show w=some v by simpa using ev']
   obtain⟨m,hn,hlook⟩:=I3.loc
   obtain⟨u,ru,lk⟩:=hlook i x v hj' es (.inr (.inl hx.1))
   rcases lk with⟨k1,_⟩|⟨_,c,hc1,o,ho,hd⟩
   ·have k1':X.env.scope.names.lookup x=some .local:=k1
    rw[hx.1]at k1';cases k1'
   ·have hmem:(x,NameKind.free)∈scope.names:=by
     have hlk:=hx.2
     have go:∀ l:List (Str × NameKind),l.lookup x=some .free→(x,NameKind.free)∈l:=by
      intro l
      induction l with
      | nil=>intro z;cases z
      | cons p r ih =>
       intro z
       obtain⟨n,k⟩:=p
       rw[Ot]at z
       split at z
       ·rename_i q;have q':x=n:=by simpa using q
        have z':k = .free:=by simpa using z
        rw[q',z'];exact Mz
       ·exact Mx _ (ih z)
     exact go _ hlk
    obtain⟨c',hc'⟩:=X0 (cells:=X.env.cells) scope.names [] (.inl hmem)
    have:=R5 scope.names [] hcells (fun y d z=>by cases z) hc'
    rw[hc1]at this
    cases this
    refine⟨u,c,o,ru,hc',ho,hd,I3.freeC x c hc1,fun hb=>?_⟩
    exact(f3 c hb).2.2.2.2.1 x c hc1 rfl
 refine nN (s3:={ s2 with heap:=s2.heap.push { cls:=.type "list",data:=.seq ([]:List Value).toArray },toks:=s2.toks }) (Qd:=fun H=>Q (.ref s2.heap.objs.size) H) (tk:=s2.toks+([]:List (Str × Value)).length) (cl:=U6 X.env.cells scope.names [])
  hc hcell hkind (fun x c z=>R5 scope.names [] hcells (fun y d z=>by cases z) z) (fun x z=>X0 scope.names [] (.inl z)) hsc hl hcap hg hq he I3 T st3 f3 rfl hns₁ old W m0 w0 turn fun s' H4 σ4 I4 q4=>?_
 obtain⟨m4,hn4,_⟩:=I4.loc
 have hCfree:H4 _=none:=I4.free
 have nC:∀ b u,H4 b=some u→b≠(s2.heap.push { cls:=.type "list",data:=.seq ([]:List Value).toArray }).objs.size:=fun b u e z=>by
  rw[z]at e
  have:=e.symm.trans hCfree
  cases this
 have lt:∀ b o,(s2.heap.push { cls:=.type "list",data:=.seq ([]:List Value).toArray }).get? b=some o→b≠(s2.heap.push { cls:=.type "list",data:=.seq ([]:List Value).toArray }).objs.size:=fun b o e=>MN (MB e)
 have ub:=I4.base
 have fC:X7 X pins H4 (s2.heap.push { cls:=.type "list",data:=.seq ([]:List Value).toArray }).objs.size:=I3.fpOk (MM _) hCfree
 refine hU _ _ s' H4 m4 hn4 fC (fun h' hsb=>?_) q4
 have un:Un (frs X.stack) fp (upd H' s2.heap.objs.size (.lst [])) H4 (s2.heap.push { cls:=.type "list",data:=.seq ([]:List Value).toArray }) h':={
  keep:=fun b o e n x y=>(hsb.2 b (lt b o e)).trans (ub.keep b o e n x y)
  slot:=fun b o e n x y=>let ⟨q,z⟩:=ub.slot b o e n x y;⟨q,(hsb.2 b (lt b o e)).trans z⟩
  free:=ub.free
  there:=fun b o e y=>let ⟨q,z⟩:=ub.there b o e y;⟨q,(hsb.2 b (lt b o e)).trans z⟩
  tups:=ub.tups
  frzs:=ub.frzs
  tbls:=ub.tbls }
 refine I3.call' (s':={ s' with heap:=h' }) I4.os un (fun b u e=>?_) I4.bare fun b hb=>?_
 ·refine(I4.hok b u e).stay (fun c v hcv q=>(hsb.2 c ?_).trans q) (fun _ q=>q) fun _ _ q=>q
  rcases hcv with z|z
  ·rw[z];exact nC b u e
  ·exact nC c _ z
 ·obtain⟨q0,q1,q2,q3,q4,q5⟩:=f3 b hb
  exact⟨q3,q1,q4,q5⟩
theorem wD(hc:X.calm=true)(hcell:∀ x∈scope.names,x.2 ≠ .cell)(hkind:scope.kind = .function)(hnames:∀ x∈scope.names,x.2 = .local→scope.names.lookup x.1=some .local)
  (hfr:∀ x∈scope.names,x.2 = .free→x.1∈cps) (hN:caps.map (fun i=>X.N[i]?)=cps.map some) (hX:∀ x∈cps,X.env.scope.names.lookup x=some .cell∧scope.names.lookup x=some .free)
  (hsc:∀ x∈cps,(relabel scope X.env).names.lookup x=some .cell∨(relabel scope X.env).names.lookup x=some .free)
  (hi:PI X tg iter wi) (hg:∀ cl s3 H3 C fp pins,PG (cxF X scope cl (tgs++cps) s3 H3 C fp pins) tg g) (hq:∀ cl s3 H3 C fp pins,bN (cxF X scope cl (tgs++cps) s3 H3 C fp pins) ifs tc) (he:∀ cl s3 H3 C fp pins,PE (cxF X scope cl (tgs++cps) s3 H3 C fp pins) elt te)
  (hs:∀ x,foldedSetIterable iter X.env x=pure x:=by intro _;rfl):PE X (.ListComp elt [⟨tg,iter,ifs,0⟩] scope pos) (ox tgs.length caps wi g tc te):=by
 intro pins s σ H Q I h
 rw[eval_ListComp]
 exact iE hc hcell hkind hnames hfr hN hX hsc hi hg hq he hs I h fun D C s' H4 m4 hn4 fC hI q4=>⟨m4,hn4,fun h' hsb=>⟨.ref D,H4,hI h' hsb,rfl,q4⟩⟩
def PU(X:Cx)(i:Nat)(x:Str)(pos':Pos)(e:Expr)(te:TE):Prop:=∀(pins:List (Addr × Obj)) (s:Shared) (σ:St) (H:Hp) (Q:VK),Inv X pins σ H s→te σ H Q →
 wpAny (model X.prog X.w) X.A (evalThenUse e X.env (assign (.Name x pos') X.env)) (fun _ s'=>∃ v H',Inv X pins (σ.set i (some v)) H' s'∧Q v H') X.xe s
theorem PU.imp{X:Cx}{i:Nat}{x:Str}{pos':Pos}{e:Expr}{t t':TE}(h:PU X i x pos' e t)(f:∀ σ H Q,t' σ H Q→t σ H Q):PU X i x pos' e t':=fun pins s σ H Q I q=>h pins s σ H Q I (f σ H Q q)
theorem Ax{i:Nat}{x:Str}{pos' pos:Pos}{e:Expr}{te:TE}(h:PU X i x pos' e te)(hs:swapsWith e (some (.Name x pos')) pos.line X.env=pure true):PS X (.Assign [.Name x pos'] e pos) (DX te (xA i)):=by
 intro pins s σ H D I q
 rw[exec_Assign_Name_used _ _ _ _ hs]
 refine Mq (wpAny_standAt (Mq (thn (h pins s σ H _ I q) fun _ s1 ⟨v,H1,I1,q1⟩=>Mu ?_)))
 exact⟨_,H1,I1,q1⟩
theorem we(hc:X.calm=true)(hcell:∀ x∈scope.names,x.2 ≠ .cell)(hkind:scope.kind = .function)(hnames:∀ x∈scope.names,x.2 = .local→scope.names.lookup x.1=some .local)
  (hfr:∀ x∈scope.names,x.2 = .free→x.1∈cps) (hN:caps.map (fun i=>X.N[i]?)=cps.map some) (hX:∀ x∈cps,X.env.scope.names.lookup x=some .cell∧scope.names.lookup x=some .free)
  (hsc:∀ x∈cps,(relabel scope X.env).names.lookup x=some .cell∨(relabel scope X.env).names.lookup x=some .free)
  (hi:PI X tg iter wi) (hg:∀ cl s3 H3 C fp pins,PG (cxF X scope cl (tgs++cps) s3 H3 C fp pins) tg g) (hq:∀ cl s3 H3 C fp pins,bN (cxF X scope cl (tgs++cps) s3 H3 C fp pins) ifs tc) (he:∀ cl s3 H3 C fp pins,PE (cxF X scope cl (tgs++cps) s3 H3 C fp pins) elt te)
  {i:Nat} {x:Str} {pos':Pos} (hNd:X.N.Nodup) (hxi:X.N[i]? = some x) (hx:Loc X.env.scope x) (hf:X.fn x=true∨X.env.scope.names.lookup x=some .local)
  (hs:∀ x,foldedSetIterable iter X.env x=pure x:=by intro _;rfl):PU X i x pos' (.ListComp elt [⟨tg,iter,ifs,0⟩] scope pos) (ox tgs.length caps wi g tc te):=by
 intro pins s σ H Q I h
 refine Mq (thn (iE (use:=some (assign (.Name x pos') X.env)) (Qf:=fun _ s'=>∃ v H',Inv X pins (σ.set i (some v)) H' s'∧Q v H') hc hcell hkind hnames hfr hN hX hsc hi hg hq he hs I h fun D C s' H4 m4 hn4 fC hI q4=>?_) fun _ s1 z=>Mu z)
 have I4:Inv X pins σ H4 s':=hI s'.heap (Heap.SameBut.refl _ _)
 show wpAny _ _ (assign (.Name x pos') X.env (.ref D)) _ _ s'
 refine wpAny_assign_Name (gW (v:=.ref D) I4 hNd hxi hx rfl (fun s2 I2 ⟨a,hsb,ha⟩=>?_) hf)
 have hac:C≠a:=by
  rcases ha with ha|ha
  ·rw[ha];exact fC.2.1
  ·exact Ne.symm (fC.2.2.2.2.1 x a ha)
 refine⟨m4,hn4.sameBut hsb hac,fun h' hs'=>⟨.ref D,H4,?_,q4⟩⟩
 exact I2.turned (t':=s2.toks) (fun b o hb e=>hs'.extBut b o hb e) fC.1 fC.2.1 fC.2.2.2.1 fC.2.2.2.2.1 fC.2.2.2.2.2
end
end L2
namespace L2
open PySem
noncomputable def SI:Bool→Heap→Addr→Addr→Nat→Prop
 | true,h,it,a,i=>h.IsListIter it a i
 | false,h,it,a,i=>h.IsTupleIter it a i
noncomputable def SS:Bool→Heap→Addr→Array Value→Prop
 | true,h,a,xs=>h.IsList a xs
 | false,h,a,xs=>h.IsTuple a xs
theorem SI.at{k:Bool}{h h':Heap}{it a:Addr}{i:Nat}(x:SI k h it a i)(f:∀ o,h.get? it=some o→h'.get? it=some o):SI k h' it a i:=by
 cases k<;>(obtain⟨o,e,r⟩:=x;exact⟨o,f o e,r⟩)
theorem SS.at{k:Bool}{h h':Heap}{a:Addr}{xs:Array Value}(x:SS k h a xs)(f:∀ o,h.get? a=some o→h'.get? a=some o):SS k h' a xs:=by
 cases k<;>(obtain⟨o,e,r⟩:=x;exact⟨o,f o e,r⟩)
theorem SI.obj{k:Bool}{h:Heap}{it a:Addr}{i:Nat}(x:SI k h it a i):∃ o,h.get? it=some o∧∀ v,o.data ≠ .cell v:=by
 cases k<;>(obtain⟨o,e,c,d⟩:=x;exact⟨o,e,fun v z=>by rw[d]at z;cases z⟩)
theorem SS.obj{k:Bool}{h:Heap}{a:Addr}{xs:Array Value}(x:SS k h a xs):∃ o,h.get? a=some o:=by
 cases k<;>(obtain⟨o,e,_⟩:=x;exact⟨o,e⟩)
section
variable {prog:Program} {w:World} {A:Around} {E:Value→Shared→Prop} {s:Shared}
theorem sM{p t:Addr}{n:Nat}{xs:Array Value}{v:Value}{Q:Value→Shared→Prop}(hp:s.heap.IsTupleIter p t n)(ht:s.heap.IsTuple t xs)(hv:xs[n]? = some v)
  (q:∀ h',h'.IsTupleIter p t (n+1)→Heap.SameBut p s.heap h'→Q v { s with heap:=h' }):wpAny (model prog w) A (Builtin.SmallTypes.nextOf (.ref p)) Q E s:=by
 obtain⟨ob,e1,e2,e3⟩:=id hp
 obtain⟨ot,f1,_,cap,f2⟩:=ht
 unfold Builtin.SmallTypes.nextOf
 refine Mq (wpAny_callSpecial?_slot (name:=Str.ofString "__next__") hp.typeIs F.slot_tuple_iterator_next (wpAny_call_entry F.slot_tuple_iterator_next hp.typeIs F.entry_tuple_iterator_next ?_ (F.args_tuple_iterator_next_1 _)))
 show wpAny _ _ (field (.ref p) 0 >>= _) _ _ s
 refine Mq (wpAny_field e1 e3 (x:=.ref t) rfl ?_)
 show wpAny _ _ (if (Value.ref t == Value.none)=true then _ else _) _ _ s
 rw[if_neg (fun z:(Value.ref t == Value.none)=true=>nomatch z)]
 show wpAny _ _ (field (.ref p) 1 >>= _) _ _ s
 refine Mq (wpAny_field e1 e3 (x:=.int n 0) rfl ?_)
 show wpAny _ _ (seqItems? (.ref t) >>= _) _ _ s
 refine Mq (wpAny_seqItems f1 f2 ?_)
 simp only[MY,hv]
 refine Mq (wpAny_setField e1 e3 (by simp) (Mu ⟨v,rfl,Mu (q _ ⟨_,Nw _ e1 (Obj.isFreed_of_fields (Obj.data_mapFields e3 _)),(Obj.cls_mapFields ..).trans e2,?_⟩ (Heap.SameBut.update ..))⟩))
 rw[Obj.data_mapFields e3];simp[rawInt]
theorem vk{p t:Addr}{n:Nat}{xs:Array Value}{Q:Value→Shared→Prop}(hA:A.handled=none)(hp:s.heap.IsTupleIter p t n)(ht:s.heap.IsTuple t xs)(hv:xs[n]? = none)
  (q:∀ h' e,Heap.ExtBut p s.heap h'→(∃ o,h'.get? e=some o∧o.cls = .type "StopIteration")→E (.ref e) { s with heap:=h' }):wpAny (model prog w) A (Builtin.SmallTypes.nextOf (.ref p)) Q E s:=by
 obtain⟨ob,e1,e2,e3⟩:=id hp
 obtain⟨ot,f1,_,cap,f2⟩:=ht
 unfold Builtin.SmallTypes.nextOf
 refine Mq (wpAny_callSpecial?_slot (name:=Str.ofString "__next__") hp.typeIs F.slot_tuple_iterator_next (wpAny_call_entry F.slot_tuple_iterator_next hp.typeIs F.entry_tuple_iterator_next ?_ (F.args_tuple_iterator_next_1 _)))
 show wpAny _ _ (field (.ref p) 0 >>= _) _ _ s
 refine Mq (wpAny_field e1 e3 (x:=.ref t) rfl ?_)
 show wpAny _ _ (if (Value.ref t == Value.none)=true then _ else _) _ _ s
 rw[if_neg (fun z:(Value.ref t == Value.none)=true=>nomatch z)]
 show wpAny _ _ (field (.ref p) 1 >>= _) _ _ s
 refine Mq (wpAny_field e1 e3 (x:=.int n 0) rfl ?_)
 show wpAny _ _ (seqItems? (.ref t) >>= _) _ _ s
 refine Mq (wpAny_seqItems f1 f2 ?_)
 simp only[MY,hv]
 refine Mq (wpAny_rule (Mq (wpAny_setField e1 e3 (by simp) ?_)))
 show wpAny _ _ (newExc (.type "StopIteration") [] >>= _) _ _ _
 refine Mq ?_;simp only[newExc,newTuple]
 refine Mq (wpAny_newObj_type ?_ (by size_fits));refine Mq (m:=firstArgMember _ _) (wpAny_of_eq (a:=Value.none) (by first|rfl|(simp only[firstArgMember];rfl)) ?_)
 refine wpAny_newObj_type ?_ (by size_fits);simp only[raiseNew];refine Mq (wpAny_handled ?_)
 first|rw[show A.in1.handled=none from hA]|rw[hA]
 refine Mq (Mu (wpAny_throw (q _ _ (((Heap.SameBut.update ..).extBut.push _).push _) ⟨_,Mw _ rfl,rfl⟩)))
theorem O9{k:Bool}{p a:Addr}{n:Nat}{xs:Array Value}{v:Value}{Q:Value→Shared→Prop}(hp:SI k s.heap p a n)(ha:SS k s.heap a xs)(hv:xs[n]? = some v)
  (q:∀ h',SI k h' p a (n+1)→Heap.SameBut p s.heap h'→Q v { s with heap:=h' }):wpAny (model prog w) A (Builtin.SmallTypes.nextOf (.ref p)) Q E s:=by
 cases k with
 | true=>exact wpAny_nextOf_list_item hp ha hv q
 | false=>exact sM hp ha hv q
theorem ja{k:Bool}{p a:Addr}{n:Nat}{xs:Array Value}{Q:Value→Shared→Prop}(hA:A.handled=none)(hp:SI k s.heap p a n)(ha:SS k s.heap a xs)(hv:xs[n]? = none)
  (q:∀ h' e,Heap.ExtBut p s.heap h'→(∃ o,h'.get? e=some o∧o.cls = .type "StopIteration")→E (.ref e) { s with heap:=h' }):wpAny (model prog w) A (Builtin.SmallTypes.nextOf (.ref p)) Q E s:=by
 cases k with
 | true=>exact wpAny_nextOf_list_end hA hp ha hv q
 | false=>exact vk hA hp ha hv q
theorem SI.but{k:Bool}{h h':Heap}{it a b:Addr}{i:Nat}(x:SI k h it a i)(e:Heap.ExtBut b h h')(n:it≠b):SI k h' it a i:=x.at fun o z=>e it o n z
theorem SS.but{k:Bool}{h h':Heap}{a b:Addr}{xs:Array Value}(x:SS k h a xs)(e:Heap.ExtBut b h h')(n:a≠b):SS k h' a xs:=x.at fun o z=>e a o n z
theorem yL{z TI TO p1 p2 l1 l2:Addr}{c1 c2:Bool}{n1 n2:Nat}{xs ys:Array Value}{v1 v2 u1 u2:Value}{Q:Option Value→Shared→Prop}(D:ZipApart z TI TO p1 p2 l1 l2)
  (iz:IsZip s.heap z TI TO .none) (iI:IsPair s.heap TI (.ref p1) (.ref p2)) (iO:IsPair s.heap TO u1 u2) (g1:SI c1 s.heap p1 l1 n1) (g2:SI c2 s.heap p2 l2 n2) (m1:SS c1 s.heap l1 xs) (m2:SS c2 s.heap l2 ys) (w1:xs[n1]? = some v1) (w2:ys[n2]? = some v2)
  (q:∀ h',IsZip h' z TI TO (rawInt s.heap.objs.size)→IsPair h' TO v1 v2→SI c1 h' p1 l1 (n1+1)→SI c2 h' p2 l2 (n2+1)→IsPair h' s.heap.objs.size v1 v2→h'.objs.size=s.heap.objs.size+1 →
   (∀ b o,b≠z→b≠TO→b≠p1→b≠p2→s.heap.get? b=some o→h'.get? b=some o)→Q (some (.ref s.heap.objs.size)) { s with heap:=h' }):wpAny (model prog w) A (pyNext (.ref z)) Q E s:=by
 have ty:s.TypeIs (.ref z) "zip" := ⟨_,iz,rfl⟩
 unfold pyNext
 refine Mq (wpAny_attempt (wpAny_callSpecial?_slot (name:=Str.ofString "__next__") ty F.slot_zip_next (wpAny_call_entry F.slot_zip_next ty F.entry_zip_next ?_ (F.args_zip_next_1 _))))
 show wpAny _ _ (field (.ref z) 2 >>= _) _ _ _
 refine Mq (wpAny_field iz rfl (x:=.bool false) rfl ?_)
 show wpAny _ _ (field (.ref z) 3 >>= _) _ _ _
 refine Mq (wpAny_field iz rfl (x:=.ref TI) rfl (Mq (wpAny_seqItems iI rfl ?_)))
 show wpAny _ _ (Builtin.SmallTypes.ownedTupleIsFree (.ref z) >>= _) _ _ _
 refine Mq ?_;unfold Builtin.SmallTypes.ownedTupleIsFree
 refine Mq (wpAny_field iz rfl (x:=.none) rfl (Mu ?_));simp only[if_true]
 refine Mq (wpAny_rule (Mq (wpAny_field iz rfl (x:=.ref TO) rfl (Mq (wpAny_setField_rec iz (by simp) fun ha za sa=>?_)))))
 replace za:IsZip ha z TI TO .ellipsis:=za
 refine Mq ?_;simp only[ON,OY,OB,Ph]
 refine Mq (Mq (wpAny_onRaise ?_))
 show wpAny _ _ (Builtin.SmallTypes.nextOf (.ref p1) >>= _) _ _ _
 refine Mq (O9 (g1.but sa.extBut D.i1z) (m1.but sa.extBut D.l1z) w1 fun hb gb sb=>Mu ?_)
 have oB:IsPair hb TO u1 u2:=sb.extBut _ _ D.TOi1 (sa.extBut _ _ D.TOz iO)
 refine Mq (wpAny_seqItems oB rfl (Mq (wpAny_updateSeq_pair oB fun hc oC sc=>?_)))
 replace oC:IsPair hc TO v1 u2:=oC
 refine Mq (wpAny_letGo (Mu (Mq (Mq (wpAny_onRaise ?_)))))
 show wpAny _ _ (Builtin.SmallTypes.nextOf (.ref p2) >>= _) _ _ _
 refine Mq (O9 (((g2.but sa.extBut D.i2z).but sb.extBut D.i12.symm).but sc.extBut D.TOi2.symm) (((m2.but sa.extBut D.l2z).but sb.extBut D.l2i1).but sc.extBut D.l2TO) w2 fun hd gd sd=>Mu ?_)
 have oD:IsPair hd TO v1 u2:=sd.extBut _ _ D.TOi2 oC
 refine Mq (wpAny_seqItems oD rfl (Mq (wpAny_updateSeq_pair oD fun he oE se=>?_)))
 replace oE:IsPair he TO v1 v2:=oE
 refine Mq (wpAny_letGo (Mu (Mu (Mq (wpAny_seqItems oE rfl (Mq (wpAny_newTuple ?_)))))))
 have zs:he.objs.size=s.heap.objs.size:=by rw[se.1,sd.1,sc.1,sb.1,sa.1]
 have zE:IsZip he z TI TO .ellipsis:=se.extBut _ _ D.TOz.symm (sd.extBut _ _ D.i2z.symm (sc.extBut _ _ D.TOz.symm (sb.extBut _ _ D.i1z.symm za)))
 have kE:∀ b o,b≠z→b≠TO→b≠p1→b≠p2→s.heap.get? b=some o→he.get? b=some o:=fun b o b1 b2 b3 b4 e=>se.extBut _ _ b2 (sd.extBut _ _ b4 (sc.extBut _ _ b2 (sb.extBut _ _ b3 (sa.extBut _ _ b1 e))))
 have gE1:SI c1 he p1 l1 (n1+1):=((gb.but sc.extBut D.TOi1.symm).but sd.extBut D.i12).but se.extBut D.TOi1.symm
 have gE2:SI c2 he p2 l2 (n2+1):=gd.but se.extBut D.TOi2.symm
 have ltz:z<he.objs.size:=MB zE
 show wpAny _ _ (Builtin.SmallTypes.ownedTupleHandOut (.ref z) (.ref he.objs.size) >>= _) _ _ _
 refine Mq ?_;unfold Builtin.SmallTypes.ownedTupleHandOut
 refine Mq (wpAny_setField_rec (Mr _ zE) (by simp) fun hf zf sf=>?_)
 replace zf:IsZip hf z TI TO (rawInt he.objs.size):=zf
 refine wpAny_setField_rec zf (by simp) fun hg zg sg=>?_
 replace zg:IsZip hg z TI TO (rawInt he.objs.size):=zg
 have lift:∀ b o,b≠z→he.get? b=some o→hg.get? b=some o:=fun b o b1 e=>sg.extBut _ _ b1 (sf.extBut _ _ b1 (Mr _ e))
 have tG:IsPair hg he.objs.size v1 v2:=sg.extBut _ _ (Nl ltz) (sf.extBut _ _ (Nl ltz) (Mw _ rfl))
 have zz:hg.objs.size=he.objs.size+1:=by rw[sg.1,sf.1,Nd]
 rw[zs]at zg tG zz
 refine Mu ⟨_,rfl,Mu ?_⟩
 show Q (some (.ref he.objs.size)) _
 rw[zs]
 exact q hg zg (lift _ _ D.TOz oE) (gE1.at fun o e=>lift _ o D.i1z e) (gE2.at fun o e=>lift _ o D.i2z e) tG zz fun b o b1 b2 b3 b4 e=>lift b o b1 (kE b o b1 b2 b3 b4 e)
theorem DF{z TI TO p1 p2 l1 l2:Addr}{c1 c2:Bool}{n1 n2:Nat}{xs ys:Array Value}{u1 u2:Value}{Q:Option Value→Shared→Prop}(hA:A.handled=none)(D:ZipApart z TI TO p1 p2 l1 l2)
  (iz:IsZip s.heap z TI TO .none) (iI:IsPair s.heap TI (.ref p1) (.ref p2)) (iO:IsPair s.heap TO u1 u2) (g1:SI c1 s.heap p1 l1 n1) (g2:SI c2 s.heap p2 l2 n2) (m1:SS c1 s.heap l1 xs) (m2:SS c2 s.heap l2 ys) (fin:xs[n1]? = none∨ys[n2]? = none)
  (q:∀ h',(∀ b o,b≠z→b≠TO→b≠p1→b≠p2→s.heap.get? b=some o→h'.get? b=some o)→Q none { s with heap:=h' }):wpAny (model prog w) A (pyNext (.ref z)) Q E s:=by
 have ty:s.TypeIs (.ref z) "zip" := ⟨_,iz,rfl⟩
 unfold pyNext
 have out:∀(h':Heap) (e:Addr),(∀ b o,b≠z→b≠TO→b≠p1→b≠p2→s.heap.get? b=some o→h'.get? b=some o)→(∃ o,h'.get? e=some o∧o.cls = .type "StopIteration") →
   wpAny (model prog w) A (do if ← isInstance (.ref e) (.type "StopIteration")then pure none else throw (.ref e):Sem (Option Value)) Q E { s with heap:=h' }:=fun h' e k ⟨o,e1,e2⟩ =>
  Mq (wpAny_isInstance (T := "StopIteration") (b:=true) ⟨o,e1,e2⟩ isSubtype_stop (Mu (q h' k)))
 refine Mq (wpAny_attempt (wpAny_callSpecial?_slot (name:=Str.ofString "__next__") ty F.slot_zip_next (wpAny_call_entry F.slot_zip_next ty F.entry_zip_next ?_ (F.args_zip_next_1 _))))
 show wpAny _ _ (field (.ref z) 2 >>= _) _ _ _
 refine Mq (wpAny_field iz rfl (x:=.bool false) rfl ?_)
 show wpAny _ _ (field (.ref z) 3 >>= _) _ _ _
 refine Mq (wpAny_field iz rfl (x:=.ref TI) rfl (Mq (wpAny_seqItems iI rfl ?_)))
 show wpAny _ _ (Builtin.SmallTypes.ownedTupleIsFree (.ref z) >>= _) _ _ _
 refine Mq ?_;unfold Builtin.SmallTypes.ownedTupleIsFree
 refine Mq (wpAny_field iz rfl (x:=.none) rfl (Mu ?_));simp only[if_true]
 refine Mq (wpAny_rule (Mq (wpAny_field iz rfl (x:=.ref TO) rfl (Mq (wpAny_setField_rec iz (by simp) fun ha za sa=>?_)))))
 replace za:IsZip ha z TI TO .ellipsis:=za
 refine Mq ?_;simp only[ON,OY,OB,Ph]
 refine Mq (Mq (wpAny_onRaise ?_))
 show wpAny _ _ (Builtin.SmallTypes.nextOf (.ref p1) >>= _) _ _ _
 cases w1:xs[n1]? with
 | none =>
  refine Mq (ja hA (g1.but sa.extBut D.i1z) (m1.but sa.extBut D.l1z) w1 fun hb e sb zz=>?_)
  obtain⟨oe,oe1,oe2⟩:=zz
  have zb:IsZip hb z TI TO .ellipsis:=sb _ _ D.i1z.symm za
  have nz:e≠z:=fun y=>by subst y;rw[zb]at oe1;cases oe1;simp at oe2
  refine wpAny_setField_rec zb (by simp) fun hc _ sc=>out hc e (fun b o b1 _ b3 _ y=>sc.extBut _ _ b1 (sb _ _ b3 (sa.extBut _ _ b1 y))) ⟨oe,sc.extBut _ _ nz oe1,oe2⟩
 | some v1 =>
  have w2:ys[n2]? = none:=fin.resolve_left (by rw[w1];exact fun y=>nomatch y)
  refine Mq (O9 (g1.but sa.extBut D.i1z) (m1.but sa.extBut D.l1z) w1 fun hb gb sb=>Mu ?_)
  have oB:IsPair hb TO u1 u2:=sb.extBut _ _ D.TOi1 (sa.extBut _ _ D.TOz iO)
  refine Mq (wpAny_seqItems oB rfl (Mq (wpAny_updateSeq_pair oB fun hc oC sc=>?_)))
  refine Mq (wpAny_letGo (Mu (Mq (Mq (wpAny_onRaise ?_)))))
  show wpAny _ _ (Builtin.SmallTypes.nextOf (.ref p2) >>= _) _ _ _
  refine Mq (ja hA (((g2.but sa.extBut D.i2z).but sb.extBut D.i12.symm).but sc.extBut D.TOi2.symm) (((m2.but sa.extBut D.l2z).but sb.extBut D.l2i1).but sc.extBut D.l2TO) w2 fun hd e sd zz=>?_)
  obtain⟨oe,oe1,oe2⟩:=zz
  have zd:IsZip hd z TI TO .ellipsis:=sd _ _ D.i2z.symm (sc.extBut _ _ D.TOz.symm (sb.extBut _ _ D.i1z.symm za))
  have nz:e≠z:=fun y=>by subst y;rw[zd]at oe1;cases oe1;simp at oe2
  refine wpAny_setField_rec zd (by simp) fun he _ se=>out he e (fun b o b1 b2 b3 b4 y=>se.extBut _ _ b1 (sd _ _ b4 (sc.extBut _ _ b2 (sb.extBut _ _ b3 (sa.extBut _ _ b1 y))))) ⟨oe,se.extBut _ _ nz oe1,oe2⟩
end
noncomputable abbrev itO(k:Bool)(a:Addr):Obj:={ cls:=.type (if k then "list_iterator" else "tuple_iterator"),data:=.fields #[.ref a,.int 0 0] }
noncomputable abbrev zA(k1:Bool)(h:Heap)(l1:Addr):Heap:=h.push (itO k1 l1)
noncomputable abbrev zB(k1 k2:Bool)(h:Heap)(l1 l2:Addr):Heap:=(zA k1 h l1).push (itO k2 l2)
noncomputable abbrev zC(k1 k2:Bool)(h:Heap)(l1 l2:Addr):Heap:=(zB k1 k2 h l1 l2).push { cls:=.type "tuple",data:=.seq #[.ref h.objs.size,.ref (zA k1 h l1).objs.size] }
noncomputable abbrev zD(k1 k2:Bool)(h:Heap)(l1 l2:Addr):Heap:=(zC k1 k2 h l1 l2).push { cls:=.type "tuple",data:=.seq #[.none,.none] }
noncomputable abbrev zE(k1 k2:Bool)(h:Heap)(l1 l2:Addr):Heap:=(zD k1 k2 h l1 l2).push { cls:=.type "zip",data:=.fields #[.none,.bool false,.bool false,.ref (zB k1 k2 h l1 l2).objs.size,.ref (zC k1 k2 h l1 l2).objs.size] }
set_option maxHeartbeats 2000000 in
theorem DE(k1 k2:Bool)(l1 l2:Addr)(xs ys:Array Value) :
  Meets (Builtin.«zip.__new__» ⟨[.type "zip",.ref l1,.ref l2],[]⟩) (fun _ R s=>SS k1 s.heap l1 xs∧SS k2 s.heap l2 ys∧R (.ok (.ret (.ref (zD k1 k2 s.heap l1 l2).objs.size))) { s with heap:=zE k1 k2 s.heap l1 l2 }) :=
 .of_wp fun prog w A R s h=>by
  obtain⟨hp,g,d,tk,os⟩:=s
  obtain⟨ha,hb,h⟩:=h
  have hsub:=sub_zip
  cases k1 with
  | true =>
   have a1:Heap.IsList (Shared.heap ⟨hp,g,d,tk,os⟩) l1 xs:=ha
   cases k2 with
   | true =>
    have a2:Heap.IsList (Shared.heap ⟨hp.push { cls:=.type "list_iterator",data:=.fields #[.ref l1,.int 0 0] },g,d,tk,os⟩) l2 ys:=Heap.IsList.push hb _
    wp_walk using wpAny_pyIter_list a1,wpAny_pyIter_list a2
    exact⟨_,rfl,h⟩
   | false =>
    have a2:Heap.IsTuple (Shared.heap ⟨hp.push { cls:=.type "list_iterator",data:=.fields #[.ref l1,.int 0 0] },g,d,tk,os⟩) l2 ys:=Heap.IsTuple.push hb _
    wp_walk using wpAny_pyIter_list a1,wpAny_pyIter_tuple a2
    exact⟨_,rfl,h⟩
  | false =>
   have a1:Heap.IsTuple (Shared.heap ⟨hp,g,d,tk,os⟩) l1 xs:=ha
   cases k2 with
   | true =>
    have a2:Heap.IsList (Shared.heap ⟨hp.push { cls:=.type "tuple_iterator",data:=.fields #[.ref l1,.int 0 0] },g,d,tk,os⟩) l2 ys:=Heap.IsList.push hb _
    wp_walk using wpAny_pyIter_tuple a1,wpAny_pyIter_list a2
    exact⟨_,rfl,h⟩
   | false =>
    have a2:Heap.IsTuple (Shared.heap ⟨hp.push { cls:=.type "tuple_iterator",data:=.fields #[.ref l1,.int 0 0] },g,d,tk,os⟩) l2 ys:=Heap.IsTuple.push hb _
    wp_walk using wpAny_pyIter_tuple a1,wpAny_pyIter_tuple a2
    exact⟨_,rfl,h⟩
section
variable {prog:Program} {w:World} {A:Around} {E:Value→Shared→Prop} {s:Shared}
theorem BG{k1 k2:Bool}{l1 l2:Addr}{xs ys:Array Value}{Q:Value→Shared→Prop}(ha:SS k1 s.heap l1 xs)(hb:SS k2 s.heap l2 ys)
  (q:∀ h',IsZip h' (s.heap.objs.size+4) (s.heap.objs.size+2) (s.heap.objs.size+3) .none→IsPair h' (s.heap.objs.size+2) (.ref s.heap.objs.size) (.ref (s.heap.objs.size+1))→IsPair h' (s.heap.objs.size+3) .none .none →
   SI k1 h' s.heap.objs.size l1 0→SI k2 h' (s.heap.objs.size+1) l2 0→h'.objs.size=s.heap.objs.size+5→(∀ b o,s.heap.get? b=some o→h'.get? b=some o)→Q (.ref (s.heap.objs.size+4)) { s with heap:=h' }) :
  wpAny (model prog w) A (call (.type "zip") [.ref l1,.ref l2]) Q E s:=by
 refine callType_new F.called_zip (by decide) (F.typeCall_zip_2 _ _) (F.newCall_zip_2 _ _) (fun obj=>F.args_object_init_3 obj _ _) F.entry_zip_new (DE k1 k2 l1 l2 xs ys) ⟨ha,hb,?_⟩
 have s1:(zA k1 s.heap l1).objs.size=s.heap.objs.size+1:=Nd ..
 have s2:(zB k1 k2 s.heap l1 l2).objs.size=s.heap.objs.size+2:=(Nd ..).trans (by rw[s1])
 have s3:(zC k1 k2 s.heap l1 l2).objs.size=s.heap.objs.size+3:=(Nd ..).trans (by rw[s2])
 have s4:(zD k1 k2 s.heap l1 l2).objs.size=s.heap.objs.size+4:=(Nd ..).trans (by rw[s3])
 have s5:(zE k1 k2 s.heap l1 l2).objs.size=s.heap.objs.size+5:=(Nd ..).trans (by rw[s4])
 have o5:(zE k1 k2 s.heap l1 l2).get? (zD k1 k2 s.heap l1 l2).objs.size=some _:=Mw _ rfl
 have up1:∀ b o,(zD k1 k2 s.heap l1 l2).get? b=some o→(zE k1 k2 s.heap l1 l2).get? b=some o:=fun b o e=>Mr _ e
 have o4:(zE k1 k2 s.heap l1 l2).get? (zC k1 k2 s.heap l1 l2).objs.size=some _:=up1 _ _ (Mw _ rfl)
 have up2:∀ b o,(zC k1 k2 s.heap l1 l2).get? b=some o→(zE k1 k2 s.heap l1 l2).get? b=some o:=fun b o e=>up1 b o (Mr _ e)
 have o3:(zE k1 k2 s.heap l1 l2).get? (zB k1 k2 s.heap l1 l2).objs.size=some _:=up2 _ _ (Mw _ rfl)
 have up3:∀ b o,(zB k1 k2 s.heap l1 l2).get? b=some o→(zE k1 k2 s.heap l1 l2).get? b=some o:=fun b o e=>up2 b o (Mr _ e)
 have o2:(zE k1 k2 s.heap l1 l2).get? (zA k1 s.heap l1).objs.size=some (itO k2 l2):=up3 _ _ (Mw _ rfl)
 have up4:∀ b o,(zA k1 s.heap l1).get? b=some o→(zE k1 k2 s.heap l1 l2).get? b=some o:=fun b o e=>up3 b o (Mr _ e)
 have o1:(zE k1 k2 s.heap l1 l2).get? s.heap.objs.size=some (itO k1 l1):=up4 _ _ (Mw _ rfl)
 have mk:∀(k:Bool) (b a:Addr),(zE k1 k2 s.heap l1 l2).get? b=some (itO k a)→SI k (zE k1 k2 s.heap l1 l2) b a 0:=fun k b a e=>by cases k<;>exact⟨_,e,rfl,rfl⟩
 show _∧_
 rw[s2,s3,s4]at o5
 rw[s1,s2]at o3
 rw[s3]at o4
 rw[s1]at o2
 rw[s4]
 exact⟨⟨_,o5,rfl⟩,q _ o5 o3 o4 (mk _ _ _ o1) (mk _ _ _ o2) s5 fun b o e=>up4 b o (Mr _ e)⟩
end
end L2
namespace L2
open PySem PySem.Spec PyProof.Rows
section
variable {X:Cx} {pins:List (Addr × Obj)} {σ:St} {H:Hp} {s:Shared} {h':Heap}
theorem Inv.turnedN{t':Nat}{ch:List Addr}(I:Inv X pins σ H s)(k:∀ b o,b∉ch→s.heap.get? b=some o→h'.get? b=some o)(hf:∀ b∈ch,X7 X pins H b):Inv X pins σ H { s with heap:=h',toks:=t' }:=by
 have nit:∀ b u,H b=some u→b∉ch:=fun b u e z=>by rw[(hf b z).1]at e;cases e
 refine I.step (g':=s.gens) (d':=s.drawn) (ch:=ch) (fun b hb=>?_) (fun b o _ _ hc e _=>k b o hc e) (fun b o _ _ hc e _=>⟨o.slots,k b o hc e⟩) (fun _ _ _ _ n=>n)
  (fun b o hc e=>⟨o,k b o hc e⟩) (fun _ _ e=>e) (fun _ _ _ e=>e) (fun b ps e=>⟨#[],by rw[e];simp⟩) (fun m hm=>?_) (fun b u e=>?_) I.bare
 ·obtain⟨_,q1,_,q3,q4,q5⟩:=hf b hb
  exact⟨q3,q1,q4,q5⟩
 ·obtain⟨o,es,ep,ho,r⟩:=hm
  exact⟨o,es,ep,k _ o (fun z=>(hf _ z).2.1 rfl) ho,r⟩
 ·refine(I.hok b u e).stay (fun c v hc q=>k c v ?_ q) (fun _ q=>q) fun _ _ q=>q
  rcases hc with z|z
  ·rw[z];exact nit b u e
  ·exact nit c _ z
end
def SqK(K:Ms)(k:Bool)(H:Hp)(a:Addr)(xs:List V):Prop:=if k=true then SqL K H a xs else SqT K H a xs
theorem Inv.sqk{X:Cx}{pins:List (Addr × Obj)}{σ:St}{H:Hp}{s:Shared}(I:Inv X pins σ H s){k:Bool}{a:Addr}{xs:List V}(h:SqK X.K k H a xs):∃ its:List Value,j6 xs its∧SS k s.heap a its.toArray:=by
 cases k with
 | true =>
  obtain⟨its,r,p,_⟩:=I.list (show SqL X.K H a xs from h)
  exact⟨its,r,p.isList⟩
 | false =>
  obtain⟨its,r,p,_⟩:=I.tuple (show SqT X.K H a xs from h)
  exact⟨its,r,p⟩
theorem Inv.sqk_inj{X:Cx}{pins:List (Addr × Obj)}{σ:St}{H:Hp}{s:Shared}(I:Inv X pins σ H s){k:Bool}{a:Addr}{xs ys:List V}(h:SqK X.K k H a xs)(h2:SqK X.K k H a ys):xs=ys:=by
 cases k with
 | true=>exact I.list_inj (show SqL X.K H a xs from h) (show SqL X.K H a ys from h2)
 | false=>exact I.tuple_inj (show SqT X.K H a xs from h) (show SqT X.K H a ys from h2)
noncomputable def Itz(K:Ms)(k1 k2:Bool)(l1 l2:Addr):It :=
 ⟨fun i H=>∃ xs ys x y,SqK K k1 H l1 xs∧SqK K k2 H l2 ys∧xs[i]? = some x∧ys[i]? = some y,
  fun i H v H'=>∃ T x y,H T=none∧v = .ref T∧H'=upd H T (.tup [x,y])∧(∀ xs,SqK K k1 H l1 xs→xs[i]? = some x)∧∀ ys,SqK K k2 H l2 ys→ys[i]? = some y,
  fun i H=>∃ xs ys,SqK K k1 H l1 xs∧SqK K k2 H l2 ys∧(xs.length≤i∨ys.length≤i)⟩
def Ir(k1 k2:Bool)(z TI TO p1 p2 l1 l2:Addr)(i:Nat)(h:Heap):Prop:=IsZip h z TI TO .none∧IsPair h TI (.ref p1) (.ref p2)∧(∃ a b,IsPair h TO a b)∧SI k1 h p1 l1 i∧SI k2 h p2 l2 i
theorem vj{P:Program}{w:World}{K:Ms}{elts:List Expr}{kx:Nat}{tp:Pos}{k1 k2:Bool}{z TI TO p1 p2 l1 l2:Addr}(D:ZipApart z TI TO p1 p2 l1 l2) :
  nX P w K (.Tuple elts kx tp) (Itz K k1 k2 l1 l2) [z,TI,TO,p1,p2] z (Ir k1 k2 z TI TO p1 p2 l1 l2) where
 mem:=by simp
 obj:=fun i h ⟨iz,iI,⟨a,b,iO⟩,g1,g2⟩ c hc=>by
  simp only[Mv,MG,or_false]at hc
  rcases hc with rfl|rfl|rfl|rfl|rfl
  ·exact⟨_,iz,fun v e=>by cases e⟩
  ·exact⟨_,iI,fun v e=>by cases e⟩
  ·exact⟨_,iO,fun v e=>by cases e⟩
  ·exact g1.obj
  ·exact g2.obj
 keep:=fun i h h' ⟨iz,iI,⟨a,b,iO⟩,g1,g2⟩ k=>⟨k z (by simp) _ iz,k TI (by simp) _ iI,⟨a,b,k TO (by simp) _ iO⟩,g1.at fun o e=>k p1 (by simp) o e,g2.at fun o e=>k p2 (by simp) o e⟩
 item:=by
  intro X hP hw hK hc i pins s σ H E I hf st hg
  subst hP hw hK
  obtain⟨iz,iI,⟨a,b,iO⟩,g1,g2⟩:=st
  obtain⟨xs,ys,x,y,q1,q2,hx,hy⟩:=hg
  obtain⟨is1,r1,m1⟩:=I.sqk q1
  obtain⟨is2,r2,m2⟩:=I.sqk q2
  obtain⟨u1,hu1,ru1⟩:=r1.get hx
  obtain⟨u2,hu2,ru2⟩:=r2.get hy
  refine yL D iz iI iO g1 g2 m1 m2 (v1:=u1) (v2:=u2) (by simpa using hu1) (by simpa using hu2) fun h' a1 a2 a3 a4 a5 a6 kk=>?_
  refine⟨_,rfl,?_⟩
  refine wpAny_letOwnedTupleGo_zip (s:={ s with heap:=h' }) a1 fun h2 b1 b2=>?_
  have lt:∀{c o},s.heap.get? c=some o→c≠s.heap.objs.size:=fun e=>MN (MB e)
  have nz:s.heap.objs.size≠z:=Ne.symm (lt iz)
  have I1:Inv X pins σ (upd H s.heap.objs.size (.tup [x,y])) { s with heap:=s.heap.push { cls:=.type "tuple",data:=.seq #[u1,u2] },toks:=s.toks } :=
   I.laid (o:=.tup [x,y]) (fun b ob q=>Mr _ q) (MM _) ⟨(show 2≤sizeLine by decide),[u1,u2],.cons ru1 (.cons ru2 .nil),IsTup.new _ _⟩
  have nfp:∀ c∈[z,TI,TO,p1,p2],c≠s.heap.objs.size:=fun c hc=>by
   simp only[Mv,MG,or_false]at hc
   rcases hc with rfl|rfl|rfl|rfl|rfl
   ·exact lt iz
   ·exact lt iI
   ·exact lt iO
   ·obtain⟨o,e,_⟩:=g1.obj;exact lt e
   ·obtain⟨o,e,_⟩:=g2.obj;exact lt e
  have hf':∀ c∈[z,TI,TO,p1,p2],X7 X pins (upd H s.heap.objs.size (.tup [x,y])) c:=fun c hc=>by
   obtain⟨f0,f1⟩:=hf c hc
   exact⟨by rw[g5 (nfp c hc)];exact f0,f1⟩
  have I2:Inv X pins σ (upd H s.heap.objs.size (.tup [x,y])) { s with heap:=h2,toks:=s.toks }:=by
   refine Inv.turnedN (s:={ s with heap:=s.heap.push { cls:=.type "tuple",data:=.seq #[u1,u2] },toks:=s.toks }) (t':=s.toks) (h':=h2) (ch:=[z,TI,TO,p1,p2]) I1 (fun c o hcn e=>?_) hf'
   simp only[Mv,MG,or_false,not_or]at hcn
   obtain⟨n1,n2,n3,n4,n5⟩:=hcn
   refine b2.extBut c o n1 ?_
   by_cases hcs:c=s.heap.objs.size
   ·subst hcs
    have e':(s.heap.push { cls:=.type "tuple",data:=.seq #[u1,u2] }).get? s.heap.objs.size=some o:=e
    rw[Mw _ rfl]at e'
    cases e'
    exact a5
   ·have e':(s.heap.push { cls:=.type "tuple",data:=.seq #[u1,u2] }).get? c=some o:=e
    have hlt:c<s.heap.objs.size:=by
     have:=MB e'
     rw[Nd]at this
     exact Nat.lt_of_le_of_ne (Nat.le_of_lt_succ this) hcs
    have hold:s.heap.get? c=some o:=by
     have:∃ o',s.heap.get? c=some o':=by
      cases q:s.heap.get? c with
      | some o'=>exact⟨o',rfl⟩
      | none=>exact absurd e' (by rw[Pl _ _ _ hcs];rw[q];exact fun z=>nomatch z)
     obtain⟨o',ho'⟩:=this
     have:=Mr { cls:=.type "tuple",data:=.seq #[u1,u2] } ho'
     rw[e']at this
     cases this;exact ho'
    exact kk c o n1 n3 n4 n5 hold
  refine⟨.ref s.heap.objs.size,_,I2,rfl,⟨_,x,y,I.hok.fresh (MM _),rfl,rfl,fun zs hz=>by rw[I.sqk_inj hz q1];exact hx,fun zs hz=>by rw[I.sqk_inj hz q2];exact hy⟩,?_,fun c hc=>(hf' c hc).1⟩
  have lift:∀ c o,c≠z→h'.get? c=some o→h2.get? c=some o:=fun c o n e=>b2.extBut c o n e
  exact⟨b1,lift _ _ D.TIz (kk _ _ D.TIz D.TITO D.TIi1 D.TIi2 iI),⟨_,_,lift _ _ D.TOz a2⟩,a3.at fun o e=>lift _ o D.i1z e,a4.at fun o e=>lift _ o D.i2z e⟩
 done:=by
  intro X hP hw hK hc i pins s σ H E I hf st hg
  subst hP hw hK
  obtain⟨iz,iI,⟨a,b,iO⟩,g1,g2⟩:=st
  obtain⟨xs,ys,q1,q2,hx⟩:=hg
  obtain⟨is1,r1,m1⟩:=I.sqk q1
  obtain⟨is2,r2,m2⟩:=I.sqk q2
  have e1:=r1.length
  have e2:=r2.length
  refine DF (I.ok.hd hc) D iz iI iO g1 g2 m1 m2 (hx.elim (fun h=>.inl (by simp;omega)) fun h=>.inr (by simp;omega)) fun h' kk=>⟨rfl,?_⟩
  refine I.turnedN (t':=s.toks) (ch:=[z,TI,TO,p1,p2]) (fun c o hcn e=>?_) hf
  simp only[Mv,MG,or_false,not_or]at hcn
  obtain⟨n1,n2,n3,n4,n5⟩:=hcn
  exact kk c o n1 n3 n4 n5 e
 self:=fun _ _ _ _ _ st h=>wpAny_pyIter_zip st.1 h
def Jh(K:Ms)(ta:TA):TI:=fun σ H R=>ta σ H fun vs H1=>∃ k1 k2 l1 l2,vs=[.ref l1,.ref l2]∧(∃ xs,SqK K k1 H1 l1 xs)∧(∃ ys,SqK K k2 H1 l2 ys)∧R (Itz K k1 k2 l1 l2) H1
theorem EA{X:Cx}{elts:List Expr}{kx:Nat}{tp:Pos}{a b:Expr}{ta:TA}{p pos:Pos}(hg:Gl X "zip")(hm:X.mg "zip" = none)(ha:PA X [a,b] ta)
  (hs:starEach [a,b] X.env=[(false,eval a X.env),(false,eval b X.env)]:=by rfl) (hs2:starEach [b] X.env=[(false,eval b X.env)]:=by rfl):PI X (.Tuple elts kx tp) (.Call (.Name "zip" p) [a,b] [] pos) (Jh X.K ta):=by
 intro pins s σ H R I h
 refine Call_ (N0 I hg hm PyProof.Rows.boot_zip (PyProof.Rows.callWith_type1 (thn (ha pos pins s σ H _ I h) fun us s1 ⟨vs,H1,I1,r1,q1⟩=>?_) (by rw[hs,hs2]) (by rw[hs2];rfl)))
 obtain⟨k1,k2,l1,l2,e,⟨xs,q2⟩,⟨ys,q3⟩,q⟩:=q1
 subst e
 cases r1 with
 | cons r rr =>
  cases rr with
  | cons r' rr =>
   cases rr
   cases r
   cases r'
   obtain⟨is1,_,m1⟩:=I1.sqk q2
   obtain⟨is2,_,m2⟩:=I1.sqk q3
   have lt1:l1<s1.heap.objs.size:=by obtain⟨o,e⟩:=m1.obj;exact MB e
   have lt2:l2<s1.heap.objs.size:=by obtain⟨o,e⟩:=m2.obj;exact MB e
   refine BG m1 m2 fun h' a1 a2 a3 a4 a5 a6 kk=>?_
   refine wpAny_pyIter_zip (s:={ s1 with heap:=h' }) a1 ?_
   have D:ZipApart (s1.heap.objs.size+4) (s1.heap.objs.size+2) (s1.heap.objs.size+3) s1.heap.objs.size (s1.heap.objs.size+1) l1 l2:=PyProof.Rows.zipApart_new lt1 lt2
   refine⟨s1.heap.objs.size+4,_,_,_,H1,rfl,I1.kept (t':=s1.toks) kk,vj D,⟨a1,a2,⟨_,_,a3⟩,a4,a5⟩,fun c hc=>?_,q⟩
   have hge:s1.heap.objs.size≤c:=by
    simp only[Mv,MG,or_false]at hc
    rcases hc with rfl|rfl|rfl|rfl|rfl
    ·exact NY _ _
    ·exact NY _ _
    ·exact NY _ _
    ·exact MM _
    ·exact NY _ _
   exact I1.fpOk hge (I1.hok.fresh hge)
section
variable {X:Cx} {pins:List (Addr × Obj)} {σ:St} {H:Hp} {s:Shared} {p:Addr}
theorem Inv.swap{a b:HO}(I:Inv X pins σ H s)(hp:H p=some a)(ha:(∀ x,a ≠ .own x)∧∀ xs,a ≠ .tup xs)(h1:∀ xs,X.H₀ p≠some (.tup xs))(h2:∀ o u,X.H₀ p≠some (.frz o u))(h3:∀ ps,X.H₀ p≠some (.tbl ps))
  (new:B0 X.prog X.w H s.heap p b):Inv X pins σ (upd H p b) s:=by
 have ne:∀{c:Addr},H c=none→c≠p:=fun{c} q z=>by subst z;rw[hp]at q;cases q
 have st:∀{c:Addr} {o:HO},B0 X.prog X.w H s.heap c o→B0 X.prog X.w (upd H p b) s.heap c o:=fun{c o} x =>
  x.stay (fun _ _ _ q=>q) (fun d q=>by
   have:d≠p:=by intro z;subst z;rw[hp]at q;cases q;exact ha.1 _ rfl
   rw[g5 this];exact q) fun d xs q=>by
   have:d≠p:=by intro z;subst z;rw[hp]at q;cases q;exact ha.2 _ rfl
   rw[g5 this];exact q
 refine⟨I.ok,I.os,I.bare,⟨I.base.keep,I.base.slot,fun c o e n x=>?_,I.base.there,fun c xs q=>?_,fun c o u q=>?_,fun c ps q=>?_⟩,I.loc,I.cell,?_,fun x c e=>?_,fun q hq=>?_,fun c o q=>?_,I.len⟩
 ·have:=I.base.free c o e n x
  rw[g5 (ne this)];exact this
 ·have:c≠p:=by intro z;subst z;exact h1 xs q
  rw[g5 this];exact I.base.tups c xs q
 ·have:c≠p:=by intro z;subst z;exact h2 o u q
  rw[g5 this];exact I.base.frzs c o u q
 ·have:c≠p:=by intro z;subst z;exact h3 ps q
  rw[g5 this];exact I.base.tbls c ps q
 ·rw[g5 (ne I.free)];exact I.free
 ·rw[g5 (ne (I.freeC x c e))];exact I.freeC x c e
 ·obtain⟨a1,a2,a3,a4,a5⟩:=I.pin q hq
  exact⟨a1,by rw[g5 (ne a2)];exact a2,a3,a4,a5⟩
 ·by_cases z:c=p
  ·subst z;rw[i7]at q;cases q;exact st new
  ·rw[g5 z]at q;exact st (I.hok c o q)
theorem Inv.freeze{xs:List V}(I:Inv X pins σ H s)(hp:H p=some (.lst xs)):∃ o,Inv X pins σ (upd H p (.frz o (.lst xs))) s:=by
 have k:=I.hok p _ hp
 obtain⟨z,its,n,r,e⟩:=id k
 refine⟨_,I.swap hp ⟨fun _ q=>(nomatch q),fun _ q=>(nomatch q)⟩ (fun ys q=>?_) (fun o u q=>?_) (fun ps q=>?_) ⟨e,k⟩⟩
 ·rw[I.base.tups p ys q]at hp;cases hp
 ·rw[I.base.frzs p o u q]at hp;cases hp
 ·obtain⟨more,q⟩:=I.base.tbls p ps q;rw[q]at hp;cases hp
structure DD(X:Cx)(p:Addr):Prop where
 t:∀ xs,X.H₀ p≠some (.tup xs)
 f:∀ o u,X.H₀ p≠some (.frz o u)
 b:∀ ps,X.H₀ p≠some (.tbl ps)
theorem Inv.loose{xs:List V}(I:Inv X pins σ H s)(hp:H p=some (.lst xs)):DD X p :=
 ⟨fun ys q=>(by rw[I.base.tups p ys q]at hp;cases hp),fun o u q=>(by rw[I.base.frzs p o u q]at hp;cases hp),fun ps q=>(by obtain⟨more,q⟩:=I.base.tbls p ps q;rw[q]at hp;cases hp)⟩
def GK(t:TE):TE:=fun σ H Q=>t σ H fun v H1=>∃ p xs,v = .ref p∧H1 p=some (.lst xs)∧∀ o,Q v (upd H1 p (.frz o (.lst xs)))
theorem bA{x:Expr}{t:TE}(h:PE X x t):PE X x (GK t):=fun pins s σ H Q I q =>
 wpAny_mono (h pins s σ H _ I q) (fun u s1 zz=>by
  obtain⟨v,H1,I1,r,p,xs,e,hp,q1⟩:=zz
  obtain⟨o,I2⟩:=I1.freeze hp
  exact⟨v,_,I2,r,q1 o⟩) fun _ _ z=>z
theorem Er{i:Nat}{y:Str}{pos':Pos}{x:Expr}{t:TE}(h:PU X i y pos' x t):PU X i y pos' x (GK t):=fun pins s σ H Q I q =>
 wpAny_mono (h pins s σ H _ I q) (fun u s1 zz=>by
  obtain⟨v,H1,I1,p,xs,e,hp,q1⟩:=zz
  obtain⟨o,I2⟩:=I1.freeze hp
  exact⟨v,_,I2,q1 o⟩) fun _ _ z=>z
def GJ(t:TE):TE:=fun σ H Q=>t σ H fun v H1=>(∃ p xs,v = .ref p∧H1 p=some (.lst xs)∧∀ o,Q v (upd H1 p (.frz o (.lst xs))))∨Q v H1
theorem AJ{x:Expr}{t:TE}(h:PE X x t):PE X x (GJ t):=fun pins s σ H Q I q =>
 wpAny_mono (h pins s σ H _ I q) (fun u s1 zz=>by
  obtain⟨v,H1,I1,r,z⟩:=zz
  rcases z with⟨p,xs,e,hp,q1⟩|q1
  ·obtain⟨o,I2⟩:=I1.freeze hp
   exact⟨v,_,I2,r,q1 o⟩
  ·exact⟨v,H1,I1,r,q1⟩) fun _ _ z=>z
noncomputable def aZ(p:Addr)(xs:List V):HO:=.ext fun h=>xs.length≤sizeLine∧∃(its:List Value) (n:Nat),j6 xs its∧h.get? p=some { cls:=.type "list",data:=.seq its.toArray n }
theorem Inv.hide{xs:List V}(I:Inv X pins σ H s)(hp:H p=some (.lst xs)):Inv X pins σ (upd H p (aZ p xs)) s:=by
 have k:=I.hok p _ hp
 have l:=I.loose hp
 obtain⟨z,its,n,r,e⟩:=id k
 exact I.swap hp ⟨fun _ q=>(nomatch q),fun _ q=>(nomatch q)⟩ l.t l.f l.b ⟨⟨z,its,n,r,e⟩,⟨_,e⟩,fun h1 h2 ⟨z,its,n,r,e⟩ k=>⟨z,its,n,r,k _ e⟩⟩
theorem Inv.show'{xs:List V}(I:Inv X pins σ H s)(l:DD X p)(hp:H p=some (aZ p xs)):Inv X pins σ (upd H p (.lst xs)) s:=by
 obtain⟨k,_,_⟩:=I.hok p _ hp
 exact I.swap hp ⟨fun _ q=>(nomatch q),fun _ q=>(nomatch q)⟩ l.t l.f l.b k
def vw(p:Addr)(t:TE):TE:=fun σ H Q=>∃ xs,H p=some (.lst xs)∧t σ (upd H p (aZ p xs)) fun v H1=>H1 p=some (aZ p xs)∧Q v (upd H1 p (.lst xs))
theorem rk{x:Expr}{t:TE}(h:PE X x t):PE X x fun σ H Q=>∃ p,vw p t σ H Q:=fun pins s σ H Q I ⟨p,xs,hp,q⟩ =>
 wpAny_mono (h pins s σ _ _ (I.hide hp) q) (fun u s1 ⟨v,H1,I2,r,hp1,q1⟩=>⟨v,_,I2.show' (I.loose hp) hp1,r,q1⟩) fun _ _ z=>z
def vq(p:Addr)(t:TT):TT:=fun σ H Q=>∃ xs,H p=some (.lst xs)∧t σ (upd H p (aZ p xs)) fun v H1=>H1 p=some (aZ p xs)∧Q v (upd H1 p (.lst xs))
theorem ic{ifs:List Expr}{t:TT}(h:bN X ifs t):bN X ifs fun σ H Q=>∃ p,vq p t σ H Q:=fun pins s σ H Q I ⟨p,xs,hp,q⟩ =>
 wpAny_mono (h pins s σ _ _ (I.hide hp) q) (fun u s1 ⟨H1,I2,hp1,q1⟩=>⟨_,I2.show' (I.loose hp) hp1,q1⟩) fun _ _ z=>z
def vt(p:Addr)(g:TG):TG:=fun v σ H Q=>∃ xs,H p=some (.lst xs)∧g v σ (upd H p (aZ p xs)) fun σ1 H1=>H1 p=some (aZ p xs)∧Q σ1 (upd H1 p (.lst xs))
theorem rj{tg:Expr}{g:TG}(h:PG X tg g):PG X tg fun v σ H Q=>∃ p,vt p g v σ H Q:=fun pins s σ H v u Q I r ⟨p,xs,hp,q⟩ =>
 wpAny_mono (h pins s σ _ v u _ (I.hide hp) r q) (fun u s1 ⟨σ1,H1,I2,hp1,q1⟩=>⟨σ1,_,I2.show' (I.loose hp) hp1,q1⟩) fun _ _ z=>z
end
section
variable {X:Cx} {pos:Pos}
end
section
variable {X:Cx} {e:Expr} {te:TE} {st:Expr} {ts:TO} {pos p2:Pos}
end
section
variable {prog:Program} {w:World} {A:Around} {E:Value→Shared→Prop} {s:Shared}
noncomputable abbrev Ju(prog:Program)(w:World)(A:Around)(R:Result→Shared→Prop):Fin→Shared→Prop:=fun z s'=>match z with|.done f=>R (.ok f) s'|.again c'=>c'.quiet=true∧codeAny (model prog w) A c' R s'
end
section
variable {X:Cx}
end
section
variable {X:Cx}
end
section
variable {prog:Program} {w:World} {A:Around} {E:Value→Shared→Prop} {s:Shared}
end
section
variable {prog:Program} {w:World} {A:Around} {E:Value→Shared→Prop} {s:Shared}
end
section
variable {X:Cx}
end
section
variable {prog:Program} {w:World} {A:Around} {E:Value→Shared→Prop} {s:Shared}
end
section
variable {X:Cx}
end
section
variable {prog:Program} {w:World} {A:Around} {E:Value→Shared→Prop} {s:Shared}
theorem rB{h h2:Heap}{a b:Addr}{its:Array Value}(x:h.IsList a its)(hs:Heap.ExtBut b h h2)(ne:a≠b):h2.IsList a its:=x.at fun o e=>hs a o ne e
theorem nG{it l:Addr}{its:Array Value}(hne:l≠it):∀(n i:Nat) (s:Shared) (Q:List Value→Shared→Prop),s.heap.IsListIter it l i→s.heap.IsList l its→i+n≤its.size →
  (∀ h2,h2.IsListIter it l (i+n)→Heap.SameBut it s.heap h2→Q ((its.toList.drop i).take n) { s with heap:=h2 })→wpAny (model prog w) A (draw (.ref it) n) Q E s
 | 0,i,s,Q,hi,_,_,k=>by
  show wpAny _ _ (pure []) Q E s
  refine Mu ?_
  simpa using k s.heap hi (Heap.SameBut.refl ..)
 | n+1,i,s,Q,hi,hl,hle,k=>by
  have lt:i<its.size:=by omega
  show wpAny _ _ (pyNext (.ref it) >>= _) Q E s
  refine Mq (wpAny_pyNext_list_item hi hl (x:=its[i]) (by simp[lt]) fun h1 hi1 hs1=>Mq (wpAny_holding ?_))
  refine nG hne n (i+1) _ _ hi1 (rB hl hs1.extBut hne) (by omega) fun h2 hi2 hs2=>Mu ?_
  have e:its.toList.drop i=its[i] :: its.toList.drop (i+1):=by simp[Pj,lt]
  have z:=k h2 (by rw[show i+(n+1)=i+1+n by omega];exact hi2) (hs1.trans hs2)
  rw[e,OZ]at z
  exact z
theorem om{l:Addr}{its:Array Value}{ts:List (Bool × (Value→Sem Unit))}{Q:Unit→Shared→Prop}(hh:A.handled=none)(hl:s.heap.IsList l its)(hn:ts.length=its.size)(hst:ts.findIdx? (·.1)=none)
  (k:∀ h2,Heap.ExtBut s.heap.objs.size s.heap h2→wpAny (model prog w) A (assignInOrder (ts.map (·.2)) its.toList) Q E { s with heap:=h2 }):wpAny (model prog w) A (unpack (.ref l) ts) Q E s:=by
 have ne:l≠s.heap.objs.size:=by obtain⟨o,ho,_⟩:=hl;exact MN (MB ho)
 unfold unpack
 rw[hn,hst]
 refine Mq (wpAny_holding ?_)
 unfold unpackItems
 refine Mq ?_
 unfold notIterableAtAll
 refine Mq (wpAny_specialOf hl.typeIs F.slot_list_iter.lookup (Mu ?_))
 simp only[Ob,if_false]
 refine Mq (wpAny_holding (wpAny_pyIter_list hl ?_))
 refine Mq (wpAny_holding (nG ne its.size 0 _ _ ⟨_,Mw _ rfl,rfl,rfl⟩ (hl.at fun o e=>Mr _ e) (by omega) fun h1 hi1 hs1=>?_))
 have all:List.take its.size (List.drop 0 its.toList)=its.toList:=by
  rw[QY];exact Oa (by simp)
 rw[all,if_neg (by simp)]
 have hl1:h1.IsList l its:=rB (hl.at fun o e=>Mr _ e) hs1.extBut ne
 refine Mq (wpAny_holding (wpAny_pyNext_list_end hh hi1 hl1 (by simp) fun h2 he=>?_))
 simp only[Option.isSome_none,Ob,if_false]
 exact Mu (k h2 fun b o hb e=>he b o hb (hs1.extBut b o hb (Mr _ e)))
end
section
variable {X:Cx} {pos:Pos}
def Fh(K:Ms)(n:Nat)(t:TGs):TG:=fun v σ H Q=>∃ a xs,v = .ref a∧SqL K H a xs∧xs.length=n∧t xs σ H Q
theorem AG{es:List Expr}{k:Nat}{t:TGs}{n:Nat}(hc:X.calm=true)(h:PGs X es t)(hn:(assignEach es X.env).length=n:=by rfl)
  (hst:(assignEach es X.env).findIdx? (·.1)=none:=by rfl):PG X (.Tuple es k pos) (Fh X.K n t):=by
 intro pins s σ H v u Q I r hw
 obtain⟨a,xs,e1,hq,hl,hw⟩:=hw
 subst e1
 cases r
 obtain⟨its,rv,ht,hz⟩:=I.list hq
 rw[assign_Tuple]
 refine Mq (wpAny_standAt (om (I.ok.hd hc) ht.isList (by simp[hn,← hl,rv.length]) hst fun h2 hx=>?_))
 have I1:Inv X pins σ H { s with heap:=h2 }:=I.kept (t':=s.toks) fun b o e=>hx b o (MN (MB e)) e
 exact h pins _ σ H xs _ Q I1 (by simpa using rv) hw
end
section
variable {X:Cx}
end
section
variable {prog:Program} {w:World} {A:Around} {E:Value→Shared→Prop} {s:Shared}
end
end L2
namespace L2
open PySem
section
variable {prog:Program} {w:World} {A:Around} {E:Value→Shared→Prop} {s:Shared}
theorem xK{k:Bool}{e p l:Addr}{n:Nat}{xs:Array Value}{v old:Value}{Q:Option Value→Shared→Prop}(ie:IsEnum s.heap e p n old)(g:SI k s.heap p l n)(m:SS k s.heap l xs)(hv:xs[n]? = some v)(hne:e≠p)
  (q:∀ h',IsEnumOut h' e p ((n:Int)+1) v s.heap.objs.size→SI k h' p l (n+1)→h'.get? s.heap.objs.size=some { cls:=.type "tuple",data:=.seq #[.int n s.toks,v] }→h'.objs.size=s.heap.objs.size+1 →
   (∀ b o,b≠e→b≠p→s.heap.get? b=some o→h'.get? b=some o)→Q (some (.ref s.heap.objs.size)) { s with heap:=h',toks:=s.toks+1 }):wpAny (model prog w) A (pyNext (.ref e)) Q E s:=by
 have ty:s.TypeIs (.ref e) "enumerate" := ⟨_,ie,rfl⟩
 unfold pyNext
 refine Mq (wpAny_attempt (wpAny_callSpecial?_slot (name:=Str.ofString "__next__") ty F.slot_enumerate_next (wpAny_call_entry F.slot_enumerate_next ty F.entry_enumerate_next ?_ (F.args_enumerate_next_1 _))))
 obtain⟨hp,gs,dr,tk,os⟩:=s
 show wpAny _ _ (field (.ref e) 2 >>= _) _ _ _
 refine Mq (wpAny_field ie rfl (x:=.ref p) rfl (Mq (O9 g m hv fun ha ga sa=>?_)))
 replace sa:Heap.SameBut p hp ha:=sa
 have ea:IsEnum ha e p n old:=(sa.2 e hne).trans ie
 show wpAny _ _ (field (.ref e) 3 >>= _) _ _ ⟨ha,gs,dr,tk,os⟩
 refine Mq (wpAny_field ea rfl (x:=rawInt n) rfl ?_)
 show wpAny _ _ (field (.ref e) 4 >>= _) _ _ ⟨ha,gs,dr,tk,os⟩
 refine Mq (wpAny_field ea rfl (x:=.none) rfl ?_)
 show wpAny _ _ (mkInt n >>= _) _ _ ⟨ha,gs,dr,tk,os⟩
 refine Mq (wpAny_mkInt ?_)
 show wpAny _ _ (setField (.ref e) 3 (rawInt ((n:Int)+1)) >>= _) _ _ ⟨ha,gs,dr,tk+1,os⟩
 refine Mq (wpAny_setField_rec ea (by simp) fun hb eb sb=>?_)
 replace sb:Heap.SameBut e ha hb:=sb
 replace eb:IsEnum hb e p ((n:Int)+1) old:=eb
 show wpAny _ _ (setField (.ref e) 4 .none >>= _) _ _ ⟨hb,gs,dr,tk+1,os⟩
 refine Mq (wpAny_setField_rec eb (by simp) fun hc ec sc=>?_)
 replace sc:Heap.SameBut e hb hc:=sc
 replace ec:IsEnum hc e p ((n:Int)+1) old:=ec
 show wpAny _ _ (newTuple [.int n tk,v] >>= _) _ _ ⟨hc,gs,dr,tk+1,os⟩
 refine Mq (wpAny_newTuple ?_)
 have zc:hc.objs.size=hp.objs.size:=by rw[sc.1,sb.1,sa.1]
 have ltE:e<hp.objs.size:=MB ie
 obtain⟨hd,hhd⟩:∃ hd,hd=hc.push { cls:=.type "tuple",data:=.seq #[.int n tk,v] }:=⟨_,rfl⟩
 have ed:IsEnum hd e p ((n:Int)+1) old:=by rw[hhd];exact Mr _ ec
 have td:hd.get? hp.objs.size=some { cls:=.type "tuple",data:=.seq #[.int n tk,v] }:=by rw[hhd,← zc];exact Mw _ rfl
 have zd:hd.objs.size=hp.objs.size+1:=by rw[hhd,Nd,zc]
 have kd:∀ b o,b≠e→b≠p→hp.get? b=some o→hd.get? b=some o:=fun b o b1 b2 z=>by rw[hhd];exact Mr _ (sc.extBut b o b1 (sb.extBut b o b1 (sa.extBut b o b2 z)))
 have gd:SI k hd p l (n+1):=((ga.but sb.extBut (Ne.symm hne)).but sc.extBut (Ne.symm hne)).at fun o z=>by rw[hhd];exact Mr _ z
 show wpAny _ _ (Builtin.SmallTypes.ownedTupleIsFree (.ref e) >>= _) _ _ ⟨hc.push { cls:=.type "tuple",data:=.seq #[.int n tk,v] },gs,dr,tk+1,os⟩
 rw[← hhd,zc]
 refine Mq ?_;unfold Builtin.SmallTypes.ownedTupleIsFree
 refine Mq (wpAny_field ed rfl (x:=.none) rfl (Mu ?_));simp only[if_true]
 refine Mq (wpAny_rule (Mq (wpAny_field ed rfl (x:=old) rfl (Mq (wpAny_setField_rec ed (by simp) fun hf ef sf=>?_)))))
 replace sf:Heap.SameBut e hd hf:=sf
 replace ef:IsEnum hf e p ((n:Int)+1) v:=ef
 show wpAny _ _ (Builtin.SmallTypes.ownedTupleHandOut (.ref e) (.ref hp.objs.size) >>= _) _ _ ⟨hf,gs,dr,tk+1,os⟩
 refine Mq ?_;unfold Builtin.SmallTypes.ownedTupleHandOut
 refine Mq (wpAny_setField_rec ef (by simp) fun hg eg sg=>?_)
 replace sg:Heap.SameBut e hf hg:=sg
 replace eg:IsEnumOut hg e p ((n:Int)+1) v hp.objs.size:=eg
 refine wpAny_setField_rec eg (by simp) fun hh eh sh=>?_
 replace sh:Heap.SameBut e hg hh:=sh
 replace eh:IsEnumOut hh e p ((n:Int)+1) v hp.objs.size:=eh
 refine Mq (wpAny_letGo (Mu ⟨_,rfl,Mu (q hh eh ?_ ?_ ?_ ?_)⟩))
 ·exact((gd.but sf.extBut (Ne.symm hne)).but sg.extBut (Ne.symm hne)).but sh.extBut (Ne.symm hne)
 ·exact sh.extBut _ _ (Nl ltE) (sg.extBut _ _ (Nl ltE) (sf.extBut _ _ (Nl ltE) td))
 ·show hh.objs.size=hp.objs.size+1
  rw[sh.1,sg.1,sf.1,zd]
 ·exact fun b o b1 b2 z=>sh.extBut b o b1 (sg.extBut b o b1 (sf.extBut b o b1 (kd b o b1 b2 z)))
theorem BC{k:Bool}{e p l:Addr}{n:Nat}{xs:Array Value}{old:Value}{Q:Option Value→Shared→Prop}(hA:A.handled=none)(ie:IsEnum s.heap e p n old)(g:SI k s.heap p l n)(m:SS k s.heap l xs)(hv:xs[n]? = none)
  (q:∀ h',Heap.ExtBut p s.heap h'→Q none { s with heap:=h' }):wpAny (model prog w) A (pyNext (.ref e)) Q E s:=by
 have ty:s.TypeIs (.ref e) "enumerate" := ⟨_,ie,rfl⟩
 unfold pyNext
 refine Mq (wpAny_attempt (wpAny_callSpecial?_slot (name:=Str.ofString "__next__") ty F.slot_enumerate_next (wpAny_call_entry F.slot_enumerate_next ty F.entry_enumerate_next ?_ (F.args_enumerate_next_1 _))))
 show wpAny _ _ (field (.ref e) 2 >>= _) _ _ _
 refine Mq (wpAny_field ie rfl (x:=.ref p) rfl (Mq (ja hA g m hv fun h' x he' zz=>?_)))
 obtain⟨o,ho,hc⟩:=zz
 exact Mq (wpAny_isInstance (T := "StopIteration") (b:=true) ⟨o,ho,hc⟩ isSubtype_stop (Mu (q _ he')))
end
set_option maxHeartbeats 2000000 in
theorem xM(l:Addr)(xs:Array Value)(n:Nat)(dct:Option Addr)(sl:Array (Option Value)) :
  Meets (Builtin.«enumerate.__new__» ⟨[.type "enumerate",.ref l],[]⟩) (fun _ R s=>s.heap.get? l=some { cls:=.type "tuple",dict:=dct,data:=.seq xs n,slots:=sl } ∧
   R (.ok (.ret (.ref (zA false s.heap l).objs.size))) { s with heap:=(zA false s.heap l).push { cls:=.type "enumerate",data:=.fields #[.none,.bool false,.ref s.heap.objs.size,rawInt 0,.none,.none] } }) :=
 .of_wp fun prog w A R s h=>by
  obtain⟨hp,g,d,tk,os⟩:=s
  obtain⟨hl,h⟩:=h
  have hsub:=sub_enumerate
  have hT:Heap.IsTuple (Shared.heap ⟨hp,g,d,tk,os⟩) l xs:=⟨_,hl,rfl,n,rfl⟩
  wp_walk using AutoSeq1.wpAny_loadPart' hl
  refine wpAny_stack_any fun st=>Mu ?_
  split
  ·rename_i c _ _ _ _ _
   cases(c == Value.type "enumerate")
   ·wp_walk using AutoSeq1.wpAny_loadPart' hl,wpAny_pyIter_tuple hT
    exact⟨_,rfl,h⟩
   ·wp_walk using AutoSeq1.wpAny_loadPart' hl,wpAny_pyIter_tuple hT
    exact⟨_,rfl,h⟩
  ·wp_walk using AutoSeq1.wpAny_loadPart' hl,wpAny_pyIter_tuple hT
   exact⟨_,rfl,h⟩
section
variable {prog:Program} {w:World} {A:Around} {E:Value→Shared→Prop} {s:Shared}
theorem yk{k:Bool}{l:Addr}{xs:Array Value}{Q:Value→Shared→Prop}(m:SS k s.heap l xs)
  (q:∀ h',IsEnum h' (s.heap.objs.size+1) s.heap.objs.size 0 .none→SI k h' s.heap.objs.size l 0→h'.objs.size=s.heap.objs.size+2→(∀ b o,s.heap.get? b=some o→h'.get? b=some o)→Q (.ref (s.heap.objs.size+1)) { s with heap:=h' }) :
  wpAny (model prog w) A (call (.type "enumerate") [.ref l]) Q E s:=by
 cases k with
 | true=>exact call_enumerate_list m q
 | false =>
  obtain⟨⟨c,dct,dt,sl⟩,hl,hc,n,hd⟩:=m
  simp only at hc hd
  subst hc;subst hd
  refine callType_new F.called_enumerate (by decide) (F.typeCall_enumerate_1 _) (F.newCall_enumerate_1 _) (fun obj=>F.args_object_init_2 obj _) F.entry_enumerate_new (xM l xs n dct sl) ⟨hl,?_⟩
  have s1:(zA false s.heap l).objs.size=s.heap.objs.size+1:=Nd ..
  have o1:((zA false s.heap l).push { cls:=.type "enumerate",data:=.fields #[.none,.bool false,.ref s.heap.objs.size,rawInt 0,.none,.none] }).get? (zA false s.heap l).objs.size=some _:=Mw _ rfl
  show _∧_
  rw[s1]at o1 ⊢
  exact⟨⟨_,o1,rfl⟩,q _ o1 ⟨_,Mr _ (Mw _ rfl),rfl,rfl⟩ (by rw[Nd,s1]) fun b o e=>Mr _ (Mr _ e)⟩
end
end L2
namespace L2
open PySem PySem.Spec PyProof.Rows
noncomputable def Ite(K:Ms)(k:Bool)(l:Addr):It :=
 ⟨fun i H=>∃ xs x,SqK K k H l xs∧xs[i]? = some x,
  fun i H v H'=>∃ T x,H T=none∧v = .ref T∧H'=upd H T (.tup [.int i,x])∧∀ xs,SqK K k H l xs→xs[i]? = some x,
  fun i H=>∃ xs,SqK K k H l xs∧xs.length≤i⟩
def FQ(k:Bool)(e p l:Addr)(i:Nat)(h:Heap):Prop:=(∃ old,IsEnum h e p i old)∧SI k h p l i
theorem sJ{P:Program}{w:World}{K:Ms}{elts:List Expr}{kx:Nat}{tp:Pos}{k:Bool}{e p l:Addr}(hne:e≠p):nX P w K (.Tuple elts kx tp) (Ite K k l) [e,p] e (FQ k e p l) where
 mem:=by simp
 obj:=fun i h ⟨⟨old,ie⟩,g⟩ c hc=>by
  simp only[Mv,MG,or_false]at hc
  rcases hc with rfl|rfl
  ·exact⟨_,ie,fun v z=>by cases z⟩
  ·exact g.obj
 keep:=fun i h h' ⟨⟨old,ie⟩,g⟩ kk=>⟨⟨old,kk e (by simp) _ ie⟩,g.at fun o z=>kk p (by simp) o z⟩
 item:=by
  intro X hP hw hK hc i pins s σ H E I hf st hg
  subst hP hw hK
  obtain⟨⟨old,ie⟩,g⟩:=st
  obtain⟨xs,x,q1,hx⟩:=hg
  obtain⟨is1,r1,m1⟩:=I.sqk q1
  obtain⟨u1,hu1,ru1⟩:=r1.get hx
  refine xK ie g m1 (v:=u1) (by simpa using hu1) hne fun h' a1 a2 a3 a4 kk=>?_
  refine⟨_,rfl,?_⟩
  refine wpAny_letOwnedTupleGo_enum (s:={ s with heap:=h',toks:=s.toks+1 }) a1 fun h2 b1 b2=>?_
  have lt:∀{c o},s.heap.get? c=some o→c≠s.heap.objs.size:=fun z=>MN (MB z)
  have I1:Inv X pins σ (upd H s.heap.objs.size (.tup [.int i,x])) { s with heap:=s.heap.push { cls:=.type "tuple",data:=.seq #[.int i s.toks,u1] },toks:=s.toks+1 } :=
   I.laid (o:=.tup [.int i,x]) (fun b ob q=>Mr _ q) (MM _) ⟨(show 2≤sizeLine by decide),[.int i s.toks,u1],.cons ⟨_,rfl⟩ (.cons ru1 .nil),IsTup.new _ _⟩
  have nfp:∀ c∈[e,p],c≠s.heap.objs.size:=fun c hc=>by
   simp only[Mv,MG,or_false]at hc
   rcases hc with rfl|rfl
   ·exact lt ie
   ·obtain⟨o,z,_⟩:=g.obj;exact lt z
  have hf':∀ c∈[e,p],X7 X pins (upd H s.heap.objs.size (.tup [.int i,x])) c:=fun c hc=>by
   obtain⟨f0,f1⟩:=hf c hc
   exact⟨by rw[g5 (nfp c hc)];exact f0,f1⟩
  have I2:Inv X pins σ (upd H s.heap.objs.size (.tup [.int i,x])) { s with heap:=h2,toks:=s.toks+1 }:=by
   refine Inv.turnedN (s:={ s with heap:=s.heap.push { cls:=.type "tuple",data:=.seq #[.int i s.toks,u1] },toks:=s.toks+1 }) (t':=s.toks+1) (h':=h2) (ch:=[e,p]) I1 (fun c o hcn z=>?_) hf'
   simp only[Mv,MG,or_false,not_or]at hcn
   obtain⟨n1,n2⟩:=hcn
   refine b2.extBut c o n1 ?_
   have z':(s.heap.push { cls:=.type "tuple",data:=.seq #[.int i s.toks,u1] }).get? c=some o:=z
   by_cases hcs:c=s.heap.objs.size
   ·subst hcs
    rw[Mw _ rfl]at z'
    cases z'
    exact a3
   ·rw[Pl _ _ _ hcs]at z'
    exact kk c o n1 n2 z'
  refine⟨.ref s.heap.objs.size,_,I2,rfl,⟨_,x,I.hok.fresh (MM _),rfl,rfl,fun zs hz=>by rw[I.sqk_inj hz q1];exact hx⟩,?_,fun c hc=>(hf' c hc).1⟩
  have ec:((i+1:Nat):Int)=(i:Int)+1:=by omega
  exact⟨⟨u1,by rw[ec];exact b1⟩,a2.at fun o z=>b2.extBut p o (Ne.symm hne) z⟩
 done:=by
  intro X hP hw hK hc i pins s σ H E I hf st hg
  subst hP hw hK
  obtain⟨⟨old,ie⟩,g⟩:=st
  obtain⟨xs,q1,hx⟩:=hg
  obtain⟨is1,r1,m1⟩:=I.sqk q1
  have e1:=r1.length
  refine BC (I.ok.hd hc) ie g m1 (by simp;omega) fun h' kk=>⟨rfl,?_⟩
  refine I.turnedN (t':=s.toks) (ch:=[e,p]) (fun c o hcn z=>?_) hf
  simp only[Mv,MG,or_false,not_or]at hcn
  exact kk c o hcn.2 z
 self:=fun _ _ _ _ _ st h=>let ⟨⟨_,ie⟩,_⟩:=st;wpAny_pyIter_enum ie h
def HE(K:Ms)(ta:TA):TI:=fun σ H R=>ta σ H fun vs H1=>∃ k l,vs=[.ref l]∧(∃ xs,SqK K k H1 l xs)∧R (Ite K k l) H1
theorem AE{X:Cx}{elts:List Expr}{kx:Nat}{tp:Pos}{a:Expr}{ta:TA}{p pos:Pos}(hg:Gl X "enumerate")(hm:X.mg "enumerate" = none)(ha:PA X [a] ta)(hs:starEach [a] X.env=[(false,eval a X.env)]:=by rfl) :
  PI X (.Tuple elts kx tp) (.Call (.Name "enumerate" p) [a] [] pos) (HE X.K ta):=by
 intro pins s σ H R I h
 refine Call_ (N0 I hg hm PyProof.Rows.boot_enumerate (PyProof.Rows.callWith_type1 (thn (ha pos pins s σ H _ I h) fun us s1 ⟨vs,H1,I1,r1,q1⟩=>?_) hs rfl))
 obtain⟨k,l,e,⟨xs,q2⟩,q⟩:=q1
 subst e
 cases r1 with
 | cons r rr =>
  cases rr
  cases r
  obtain⟨is1,_,m1⟩:=I1.sqk q2
  refine yk m1 fun h' a1 a2 a3 kk=>?_
  refine wpAny_pyIter_enum (s:={ s1 with heap:=h' }) a1 ?_
  refine⟨s1.heap.objs.size+1,_,_,_,H1,rfl,I1.kept (t':=s1.toks) kk,sJ (Nat.succ_ne_self _),⟨⟨_,a1⟩,a2⟩,fun c hc=>?_,q⟩
  have hge:s1.heap.objs.size≤c:=by
   simp only[Mv,MG,or_false]at hc
   rcases hc with rfl|rfl
   ·exact NY _ _
   ·exact MM _
  exact I1.fpOk hge (I1.hok.fresh hge)
end L2
namespace L2
open PySem
theorem PE.imp{X:Cx}{x:Expr}{t t':TE}(h:PE X x t)(i:∀ σ H Q,t' σ H Q→t σ H Q):PE X x t':=fun pins s σ H Q I q=>h pins s σ H Q I (i σ H Q q)
theorem PT.imp{X:Cx}{x:Expr}{t t':TT}(h:PT X x t)(i:∀ σ H Q,t' σ H Q→t σ H Q):PT X x t':=fun pins s σ H Q I q=>h pins s σ H Q I (i σ H Q q)
theorem PW.imp{X:Cx}{x:Expr}{t t':TT}(h:PW X x t)(i:∀ σ H Q,t' σ H Q→t σ H Q):PW X x t':=fun wh pins s σ H Q I q=>h wh pins s σ H Q I (i σ H Q q)
theorem PA.imp{X:Cx}{x:List Expr}{t t':TA}(h:PA X x t)(i:∀ σ H Q,t' σ H Q→t σ H Q):PA X x t':=fun pos pins s σ H Q I q=>h pos pins s σ H Q I (i σ H Q q)
theorem PS.imp{X:Cx}{x:Stmt}{t t':TS}(h:PS X x t)(i:∀ E σ H,t' E σ H→t E σ H):PS X x t':=fun pins s σ H D I q=>h pins s σ H D I (i D σ H q)
theorem PSs.imp{X:Cx}{x:List Stmt}{t t':TS}(h:PSs X x t)(i:∀ E σ H,t' E σ H→t E σ H):PSs X x t':=fun pins s σ H D I q=>h pins s σ H D I (i D σ H q)
theorem OpR.imp{X:Cx}{f:Value→Value→Sem Value}{r r':R2}(h:OpR X f r)(i:∀ x y H Q,r' x y H Q→r x y H Q):OpR X f r':=fun pins s σ H x y v u Q I rx ry q=>h pins s σ H x y v u Q I rx ry (i x y H Q q)
theorem IxR.imp{X:Cx}{r r':R2}(h:IxR X r)(i:∀ x y H Q,r' x y H Q→r x y H Q):IxR X r':=fun va sl pins s σ H x y v u Q I rx ry q=>h va sl pins s σ H x y v u Q I rx ry (i x y H Q q)
theorem PG.imp{X:Cx}{x:Expr}{t t':TG}(h:PG X x t)(i:∀ v σ H Q,t' v σ H Q→t v σ H Q):PG X x t':=fun pins s σ H v u Q I r q=>h pins s σ H v u Q I r (i v σ H Q q)
theorem PGs.imp{X:Cx}{x:List Expr}{t t':TGs}(h:PGs X x t)(i:∀ v σ H Q,t' v σ H Q→t v σ H Q):PGs X x t':=fun pins s σ H v u Q I r q=>h pins s σ H v u Q I r (i v σ H Q q)
end L2
namespace DL
open PySem PySem.Spec L2
open PyProof.Rows hiding St
inductive D where
 | non|bl (b:Bool)|int (i:Int)|str (x:Str)|ref (a:Addr)|tup (ds:List D)|vl (ds:List D)|ty (n:String)|dic|exc (c:Str)
def KL(K:Ms)(a:Addr)(xs:List V):Prop:=∀ H:Hp,SqL K H a xs
mutual
inductive Has (K:Ms) (H:Hp):V→D→Prop
 | non:Has K H .non .non
 | bl (b:Bool):Has K H (.bl b) (.bl b)
 | int (i:Int):Has K H (.int i) (.int i)
 | str (x:Str):Has K H (.str x) (.str x)
 | ref (a:Addr):Has K H (.ref a) (.ref a)
 | ty (n:String):Has K H (.ty n) (.ty n)
 | tup {a:Addr} {xs:List V} {ds:List D}:SqT K H a xs→HasL K H xs ds→Has K H (.ref a) (.tup ds)
 | vl {a:Addr} {xs:List V} {ds:List D}:((∃ o,H a=some (.frz o (.lst xs)))∨KL K a xs)→HasL K H xs ds→Has K H (.ref a) (.vl ds)
 | dic {a:Addr}:(∃ o:Obj,H a=some (.frz o (.own 0))∧o.cls = .type "dict")→Has K H (.ref a) .dic
 | exc {a:Addr} {c:Str}:(∃(o:Obj) (C:Addr),H a=some (.frz o (.own 0))∧o.cls = .ref C∧PySem.W.nsIn K mainGlobals c=some (some (.ref C)))→Has K H (.ref a) (.exc c)
inductive HasL (K:Ms) (H:Hp):List V→List D→Prop
 | nil:HasL K H [] []
 | cons {v:V} {d:D} {vs:List V} {ds:List D}:Has K H v d→HasL K H vs ds→HasL K H (v :: vs) (d :: ds)
end
structure KT0(H H':Hp):Prop where
 tp:∀ a xs,Rd H a (.tup xs)→Rd H' a (.tup xs)
 fz:∀ a o u,H a=some (.frz o u)→H' a=some (.frz o u)
structure KT(H H':Hp):Prop extends KT0 H H' where
 ex:∀ a φ,H a=some (.ext φ)→H' a=some (.ext φ)
theorem KT.refl(H:Hp):KT H H:=⟨⟨fun _ _ h=>h,fun _ _ _ h=>h⟩,fun _ _ h=>h⟩
theorem KT.trans{H H1 H2:Hp}(a:KT H H1)(b:KT H1 H2):KT H H2:=⟨⟨fun p xs h=>b.tp p xs (a.tp p xs h),fun p o xs h=>b.fz p o xs (a.fz p o xs h)⟩,fun p φ h=>b.ex p φ (a.ex p φ h)⟩
theorem KT0.sq{K:Ms}{H H':Hp}(k:KT0 H H'){a:Addr}{xs:List V}(h:SqT K H a xs):SqT K H' a xs:=h.elim (fun z=>.inl (k.tp a xs z)) .inr
theorem KT.sq{K:Ms}{H H':Hp}(k:KT H H'){a:Addr}{xs:List V}(h:SqT K H a xs):SqT K H' a xs:=k.toKT0.sq h
theorem KT0.at{H:Hp}{p:Addr}{o:HO}(h1:∀ xs,¬ Rd H p (.tup xs))(h2:∀ q u,H p≠some (.frz q u)):KT0 H (upd H p o) where
 tp:=fun a xs r=>by
  have hn:a≠p:=by intro e;subst e;exact h1 xs r
  rcases r with r|⟨q,r⟩
  ·exact .inl (by rw[g5 hn];exact r)
  ·exact .inr ⟨q,by rw[g5 hn];exact r⟩
 fz:=fun a q xs r=>by
  have hn:a≠p:=by intro e;subst e;exact h2 q xs r
  rw[g5 hn];exact r
theorem KT.at{H:Hp}{p:Addr}{o:HO}(h1:∀ xs,¬ Rd H p (.tup xs))(h2:∀ q u,H p≠some (.frz q u))(h3:∀ φ,H p≠some (.ext φ)):KT H (upd H p o):=⟨KT0.at h1 h2,fun a φ r=>by
  have hn:a≠p:=by intro e;subst e;exact h3 φ r
  rw[g5 hn];exact r⟩
theorem KT.alloc{H:Hp}{p:Addr}{o:HO}(h:H p=none):KT H (upd H p o):=KT.at (fun xs r=>by rcases r with r|⟨_,r⟩<;>(rw[h]at r;cases r)) (fun q xs r=>by rw[h]at r;cases r) fun φ r=>by rw[h]at r;cases r
theorem KT.any{H:Hp}{p:Addr}{xs:List V}{o:HO}(h:H p=some (.lst xs)):KT H (upd H p o):=KT.at (fun xs r=>by rcases r with r|⟨_,r⟩<;>(rw[h]at r;cases r)) (fun q xs r=>by rw[h]at r;cases r) fun φ r=>by rw[h]at r;cases r
theorem KT.write{H:Hp}{p:Addr}{xs ys:List V}(h:H p=some (.lst xs)):KT H (upd H p (.lst ys)):=KT.any h
theorem KT0.ext{H:Hp}{p:Addr}{φ:Heap→Prop}{o:HO}(h:H p=some (.ext φ)):KT0 H (upd H p o):=KT0.at (fun xs r=>by rcases r with r|⟨_,r⟩<;>(rw[h]at r;cases r)) fun q xs r=>by rw[h]at r;cases r
theorem KT.new{H H':Hp}{p:Addr}{o:HO}(k:KT H H')(h:H p=none):KT H (upd H' p o) where
 tp:=fun a xs r=>by
  have hn:a≠p:=by intro e;subst e;rcases r with r|⟨_,r⟩<;>(rw[h]at r;cases r)
  rcases k.tp a xs r with r|⟨q,r⟩
  ·exact .inl (by rw[g5 hn];exact r)
  ·exact .inr ⟨q,by rw[g5 hn];exact r⟩
 fz:=fun a q xs r=>by
  have hn:a≠p:=by intro e;subst e;rw[h]at r;cases r
  rw[g5 hn];exact k.fz a q xs r
 ex:=fun a φ r=>by
  have hn:a≠p:=by intro e;subst e;rw[h]at r;cases r
  rw[g5 hn];exact k.ex a φ r
mutual
theorem Has.mono0{K:Ms}{H H':Hp}(k:KT0 H H'):∀{v:V} {d:D},Has K H v d→Has K H' v d
 | _,_,.non=>.non
 | _,_,.bl b=>.bl b
 | _,_,.int i=>.int i
 | _,_,.str x=>.str x
 | _,_,.ref a=>.ref a
 | _,_,.ty n=>.ty n
 | _,_,.tup s l=>.tup (k.sq s) (HasL.mono0 k l)
 | _,_,.vl h l=>.vl (h.elim (fun⟨o,e⟩=>.inl ⟨o,k.fz _ _ _ e⟩) .inr) (HasL.mono0 k l)
 | _,_,.dic h=>.dic (let ⟨o,e,c⟩:=h;⟨o,k.fz _ _ _ e,c⟩)
 | _,_,.exc h=>.exc (let ⟨o,C,e,c⟩:=h;⟨o,C,k.fz _ _ _ e,c⟩)
theorem HasL.mono0{K:Ms}{H H':Hp}(k:KT0 H H'):∀{v:List V} {d:List D},HasL K H v d→HasL K H' v d
 | _,_,.nil=>.nil
 | _,_,.cons a b=>.cons (Has.mono0 k a) (HasL.mono0 k b)
end
theorem Has.mono{K:Ms}{H H':Hp}(k:KT H H'){v:V}{d:D}(h:Has K H v d):Has K H' v d:=h.mono0 k.toKT0
theorem HasL.mono{K:Ms}{H H':Hp}(k:KT H H'){v:List V}{d:List D}(h:HasL K H v d):HasL K H' v d:=h.mono0 k.toKT0
section
variable {K:Ms} {H H':Hp}
theorem HasL.length:∀{vs:List V} {ds:List D},HasL K H vs ds→vs.length=ds.length
 | _,_,.nil=>rfl
 | _,_,.cons _ b=>congrArg Nat.succ (HasL.length b)
theorem HasL.get:∀{vs:List V} {ds:List D} {i:Nat} {d:D},HasL K H vs ds→ds[i]? = some d→∃ v,vs[i]? = some v∧Has K H v d
 | _,_,_,_,.nil,e=>by simp at e
 | _,_,0,_,.cons a _,e=>by simp at e;subst e;exact⟨_,rfl,a⟩
 | _,_,i+1,d,.cons _ b,e=>by
  obtain⟨v,h1,h2⟩:=HasL.get (i:=i) (d:=d) b (by simpa using e)
  exact⟨v,by simpa using h1,h2⟩
theorem HasL.getV:∀{vs:List V} {ds:List D} {i:Nat} {v:V},HasL K H vs ds→vs[i]? = some v→∃ d,ds[i]? = some d∧Has K H v d
 | _,_,_,_,.nil,e=>by simp at e
 | _,_,0,_,.cons a _,e=>by simp at e;subst e;exact⟨_,rfl,a⟩
 | _,_,i+1,d,.cons _ b,e=>by
  obtain⟨v,h1,h2⟩:=HasL.getV (i:=i) (v:=d) b (by simpa using e)
  exact⟨v,by simpa using h1,h2⟩
theorem HasL.set{v:V}{d:D}(r:Has K H v d):∀{vs:List V} {ds:List D} (i:Nat),HasL K H vs ds→HasL K H (vs.set i v) (ds.set i d)
 | _,_,_,.nil=>.nil
 | _,_,0,.cons _ t=>.cons r t
 | _,_,i+1,.cons q t=>.cons q (HasL.set r i t)
theorem HasL.append:∀{xs ys:List V} {us ws:List D},HasL K H xs us→HasL K H ys ws→HasL K H (xs++ys) (us++ws)
 | _,_,_,_,.nil,s=>s
 | _,_,_,_,.cons r t,s=>.cons r (HasL.append t s)
theorem HasL.take:∀{xs:List V} {us:List D} (n:Nat),HasL K H xs us→HasL K H (xs.take n) (us.take n)
 | _,_,0,_=>.nil
 | _,_,_+1,.nil=>.nil
 | _,_,n+1,.cons r t=>.cons r (HasL.take n t)
theorem HasL.drop:∀{xs:List V} {us:List D} (n:Nat),HasL K H xs us→HasL K H (xs.drop n) (us.drop n)
 | _,_,0,r=>r
 | _,_,_+1,.nil=>.nil
 | _,_,n+1,.cons _ t=>HasL.drop n t
theorem HasL.ints:∀(ns:List Int),HasL K H (ns.map V.int) (ns.map D.int)
 | []=>.nil
 | n :: r=>.cons (.int n) (HasL.ints r)
end
inductive MO where
 | lst (ds:List D)
 | ins (c:Str) (fs:List (Str × D))
noncomputable abbrev Mem:=Addr→Option MO
noncomputable def B5(M:Mem)(a:Addr)(o:MO):Mem:=fun b=>if b=a then some o else M b
theorem g8{M:Mem}{a:Addr}{o:MO}:B5 M a o a=some o:=by unfold B5;rw[if_pos rfl]
theorem F9{M:Mem}{a b:Addr}{o:MO}(h:b≠a):B5 M a o b=M b:=by unfold B5;rw[if_neg h]
theorem ai{M:Mem}{a:Addr}{o u:MO}:B5 (B5 M a o) a u=B5 M a u:=by
 funext b;unfold B5;by_cases h:b=a<;>simp[h]
structure pZ(K:Ms)(H:Hp)(ys:List (Str × V))(fs:List (Str × D)):Prop where
 names:ys.map (·.1)=fs.map (·.1)
 has:HasL K H (ys.map (·.2)) (fs.map (·.2))
theorem pZ.mono{K:Ms}{H H':Hp}(k:KT H H'){ys:List (Str × V)}{fs:List (Str × D)}(h:pZ K H ys fs):pZ K H' ys fs:=⟨h.names,h.has.mono k⟩
theorem pZ.mono0{K:Ms}{H H':Hp}(k:KT0 H H'){ys:List (Str × V)}{fs:List (Str × D)}(h:pZ K H ys fs):pZ K H' ys fs:=⟨h.names,h.has.mono0 k⟩
noncomputable def MOk(K:Ms)(H:Hp)(a:Addr):MO→Prop
 | .lst ds=>∃ xs,H a=some (.lst xs)∧HasL K H xs ds
 | .ins c fs=>∃ C dx ys,H a=some (.ins C dx ys)∧pZ K H ys fs∧PySem.W.nsIn K mainGlobals c=some (some (.ref C))
def m8(K:Ms)(H:Hp)(M:Mem):Prop:=∀ a o,M a=some o→MOk K H a o
section
variable {K:Ms} {H H':Hp} {M:Mem}
theorem m8.fresh(h:m8 K H M){p:Addr}(e:H p=none):M p=none:=by
 cases q:M p with
 | none=>rfl
 | some o =>
  cases o with
  | lst ds=>obtain⟨xs,z,_⟩:=h p _ q;rw[e]at z;cases z
  | ins C fs=>obtain⟨_,dx,ys,z,_⟩:=h p _ q;rw[e]at z;cases z
theorem m8.alloc(h:m8 K H M){p:Addr}{u:HO}(e:H p=none):m8 K (upd H p u) M:=fun a o m=>by
 have k:KT H (upd H p u):=KT.alloc e
 cases o with
 | lst ds =>
  obtain⟨xs,z,l⟩:=h a _ m
  have hn:a≠p:=D7 z e
  exact⟨xs,by rw[g5 hn];exact z,l.mono k⟩
 | ins C fs =>
  obtain⟨C0,dx,ys,z,l,hc⟩:=h a _ m
  have hn:a≠p:=D7 z e
  exact⟨C0,dx,ys,by rw[g5 hn];exact z,l.mono k,hc⟩
theorem m8.new(h:m8 K H M){p:Addr}{xs:List V}{ds:List D}(e:H p=none)(l:HasL K H xs ds):m8 K (upd H p (.lst xs)) (B5 M p (.lst ds)):=fun a o m=>by
 by_cases q:a=p
 ·subst q
  rw[g8]at m;cases m
  exact⟨xs,i7,l.mono (KT.alloc e)⟩
 ·rw[F9 q]at m
  exact h.alloc e a o m
theorem m8.write(h:m8 K H M){p:Addr}{xs ys:List V}{ds:List D}(e:H p=some (.lst xs))(l:HasL K H ys ds):m8 K (upd H p (.lst ys)) (B5 M p (.lst ds)):=fun a o m=>by
 have k:KT H (upd H p (.lst ys)):=KT.write e
 by_cases q:a=p
 ·subst q
  rw[g8]at m;cases m
  exact⟨ys,i7,l.mono k⟩
 ·rw[F9 q]at m
  cases o with
  | lst es =>
   obtain⟨zs,z,l⟩:=h a _ m
   exact⟨zs,by rw[g5 q];exact z,l.mono k⟩
  | ins C fs =>
   obtain⟨C0,dx,zs,z,l,hc⟩:=h a _ m
   exact⟨C0,dx,zs,by rw[g5 q];exact z,l.mono k,hc⟩
theorem m8.lst(h:m8 K H M){a:Addr}{ds:List D}(m:M a=some (.lst ds)):∃ xs,H a=some (.lst xs)∧HasL K H xs ds:=h a _ m
end
noncomputable abbrev Ev:=List (Option D)
structure A0(K:Ms)(H:Hp)(σ:St)(e:Ev):Prop where
 len:σ.length=e.length
 has:∀(i:Nat) (d:D),e[i]? = some (some d)→∃ v,σ[i]? = some (some v)∧Has K H v d
section
variable {K:Ms} {H H':Hp} {σ:St} {e:Ev}
theorem A0.mono(k:KT H H')(h:A0 K H σ e):A0 K H' σ e:=⟨h.len,fun i d z=>let ⟨v,a,b⟩:=h.has i d z;⟨v,a,b.mono k⟩⟩
theorem A0.set(h:A0 K H σ e){v:V}{d:D}(r:Has K H v d)(i:Nat):A0 K H (σ.set i (some v)) (e.set i (some d)):=by
 refine⟨by simp[h.len],fun j x z=>?_⟩
 rw[List.getElem?_set]at z ⊢
 by_cases q:i=j
 ·subst q
  rw[if_pos rfl]at z ⊢
  by_cases l:i<e.length
  ·rw[if_pos l]at z
   rw[if_pos (by rw[h.len];exact l)]
   cases z
   exact⟨v,rfl,r⟩
  ·rw[if_neg l]at z;cases z
 ·rw[if_neg q]at z ⊢
  exact h.has j x z
end
noncomputable def U5(N:List Str)(ds:List D):Ev:=ds.map some++NZ (N.length - ds.length) none
theorem A0.start0{K:Ms}{H:Hp}{N:List Str}{vs:List V}{ds:List D}(h:HasL K H vs ds):A0 K H (L2.start N vs) (U5 N ds):=by
 have hl:=h.length
 refine⟨by simp[L2.start,U5,hl],fun i d z=>?_⟩
 unfold U5 at z
 unfold L2.start
 rw[OQ]at z ⊢
 simp only[MA]at z ⊢
 rw[hl]
 by_cases q:i<ds.length
 ·rw[if_pos q]at z ⊢
  rw[MV]at z ⊢
  cases e:ds[i]? with
  | none=>rw[e]at z;cases z
  | some x =>
   rw[e]at z
   have z':x=d:=by simpa using z
   subst z'
   obtain⟨v,a,b⟩:=h.get e
   exact⟨v,by rw[a];rfl,b⟩
 ·rw[if_neg q]at z
  rw[NK]at z
  split at z<;>cases z
noncomputable abbrev DK:=D→Mem→Prop
noncomputable abbrev DTE:=Ev→Mem→DK→Prop
noncomputable abbrev DTT:=Ev→Mem→(Bool→Mem→Prop)→Prop
noncomputable abbrev DTA:=Ev→Mem→(List D→Mem→Prop)→Prop
structure Y2 where
 nx:Ev→Mem→Prop
 rt:DK
 bk:Ev→Mem→Prop:=fun _ _=>False
 ct:Ev→Mem→Prop:=fun _ _=>False
noncomputable abbrev DTS:=Y2→Ev→Mem→Prop
def fb(K:Ms)(H:Hp)(R:DK)(Q:VK):Prop:=∀ d M',R d M'→∀ v H',KT H H'→m8 K H' M'→Has K H' v d→Q v H'
def yw(K:Ms)(H:Hp)(R:Bool→Mem→Prop)(Q:Bool→Hp→Prop):Prop:=∀ b M',R b M'→∀ H',KT H H'→m8 K H' M'→Q b H'
def BV(K:Ms)(H:Hp)(R:List D→Mem→Prop)(Q:List V→Hp→Prop):Prop:=∀ ds M',R ds M'→∀ vs H',KT H H'→m8 K H' M'→HasL K H' vs ds→Q vs H'
def nZ(K:Ms)(H:Hp)(R:Ev→Mem→Prop)(Q:St→Hp→Prop):Prop:=∀ e M',R e M'→∀ σ H',KT H H'→m8 K H' M'→A0 K H' σ e→Q σ H'
structure Fit(K:Ms)(H:Hp)(F:Y2)(E:og):Prop where
 nx:nZ K H F.nx E.nx
 rt:fb K H F.rt E.rt
 bk:nZ K H F.bk E.bk
 ct:nZ K H F.ct E.ct
section
variable {K:Ms} {H H':Hp}
theorem fb.mono{R:DK}{Q:VK}(h:fb K H R Q)(k:KT H H'):fb K H' R Q:=fun d M r v H2 k2 a b=>h d M r v H2 (k.trans k2) a b
theorem yw.mono{R:Bool→Mem→Prop}{Q:Bool→Hp→Prop}(h:yw K H R Q)(k:KT H H'):yw K H' R Q:=fun d M r H2 k2 a=>h d M r H2 (k.trans k2) a
theorem BV.mono{R:List D→Mem→Prop}{Q:List V→Hp→Prop}(h:BV K H R Q)(k:KT H H'):BV K H' R Q:=fun d M r v H2 k2 a b=>h d M r v H2 (k.trans k2) a b
theorem nZ.mono{R:Ev→Mem→Prop}{Q:St→Hp→Prop}(h:nZ K H R Q)(k:KT H H'):nZ K H' R Q:=fun d M r v H2 k2 a b=>h d M r v H2 (k.trans k2) a b
theorem Fit.mono{F:Y2}{E:og}(h:Fit K H F E)(k:KT H H'):Fit K H' F E:=⟨h.nx.mono k,h.rt.mono k,h.bk.mono k,h.ct.mono k⟩
end
def up(K:Ms)(t:DTE):TE:=fun σ H Q=>∃ e M R,A0 K H σ e∧m8 K H M∧t e M R∧fb K H R Q
def upT(K:Ms)(t:DTT):TT:=fun σ H Q=>∃ e M R,A0 K H σ e∧m8 K H M∧t e M R∧yw K H R Q
def upA(K:Ms)(t:DTA):TA:=fun σ H Q=>∃ e M R,A0 K H σ e∧m8 K H M∧t e M R∧BV K H R Q
def upS(K:Ms)(t:DTS):TS:=fun E σ H=>∃ e M F,A0 K H σ e∧m8 K H M∧t F e M∧Fit K H F E
abbrev DPE(X:Cx)(x:Expr)(t:DTE):Prop:=PE X x (up X.K t)
abbrev DPT(X:Cx)(x:Expr)(t:DTT):Prop:=PT X x (upT X.K t)
abbrev DPW(X:Cx)(x:Expr)(t:DTT):Prop:=PW X x (upT X.K t)
abbrev DPA(X:Cx)(x:List Expr)(t:DTA):Prop:=PA X x (upA X.K t)
abbrev DPS(X:Cx)(x:Stmt)(t:DTS):Prop:=PS X x (upS X.K t)
abbrev Jw(X:Cx)(x:List Stmt)(t:DTS):Prop:=PSs X x (upS X.K t)
structure JE(X:Cx)(x:Expr)(t:DTE):Prop where
 out:DPE X x t
structure JT(X:Cx)(x:Expr)(t:DTT):Prop where
 out:DPT X x t
structure JW(X:Cx)(x:Expr)(t:DTT):Prop where
 out:DPW X x t
structure JA(X:Cx)(x:List Expr)(t:DTA):Prop where
 out:DPA X x t
structure JS(X:Cx)(x:Stmt)(t:DTS):Prop where
 out:DPS X x t
structure JSs(X:Cx)(x:List Stmt)(t:DTS):Prop where
 out:Jw X x t
section
variable {X:Cx} {a b c:Expr} {ta tb tc:DTE} {pos:Pos}
def X5(i:Nat):DTE:=fun e M R=>∃ d,e[i]? = some (some d)∧R d M
def dC(d:D):DTE:=fun _ M R=>R d M
theorem d4(i:Nat){x:Str}{pos:Pos}(hN:X.N[i]? = some x:=by rfl)(hv:Vis X.env.scope x:=by first|exact Or.inl rfl|exact Or.inr (Or.inl rfl)|exact Or.inr (Or.inr rfl))(hd:(x == ("__debug__" : Str))=false:=by decide)
  (hcd:(x == ("__classdict__" : Str))=false:=by decide):JE X (.Name x pos) (X5 i):=⟨(wA hN hv hd hcd).imp (by
  rintro σ H Q ⟨e,M,R,ok,am,⟨d,z,r⟩,f⟩
  obtain⟨v,h1,h2⟩:=ok.has i d z
  exact⟨v,h1,f d M r v H (KT.refl H) am h2⟩)⟩
theorem W8{v:V}{d:D}(h:PE X a (tC v))(r:∀ H,Has X.K H v d):DPE X a (dC d) :=
 h.imp (by rintro σ H Q ⟨e,M,R,ok,am,z,f⟩;exact f d M z v H (KT.refl H) am (r H))
theorem d6{i j pos}:JE X (.Constant (.int i) j pos) (dC (.int i)):=⟨W8 EJ fun _=>.int i⟩
theorem z9{b j pos}:JE X (.Constant (.bool b) j pos) (dC (.bl b)):=⟨W8 Hf fun _=>.bl b⟩
theorem Q8{j pos}:JE X (.Constant .none j pos) (dC .non):=⟨W8 EI fun _=>.non⟩
theorem C9{x j pos}:JE X (.Constant (.str x) j pos) (dC (.str x)):=⟨W8 EF fun _=>.str x⟩
def Iy(K:Ms)(v:V)(d:D):Prop:=∀ H,Has K H v d
theorem Fs{x:Str}{v:V}{d:D}{u:Value}{pos:Pos}(hg:Gl X x)(hm:X.mg x=some u)(r:p7 v u)(hk:Iy X.K v d)(hd:(x == ("__debug__" : Str))=false:=by decide):DPE X (.Name x pos) (dC d) :=
 W8 (AI hg hm r hd) hk
noncomputable abbrev DR2:=D→D→Mem→DK→Prop
def upR(K:Ms)(g:DR2):R2:=fun x y H Q=>∃ dx dy M R,Has K H x dx∧Has K H y dy∧m8 K H M∧g dx dy M R∧fb K H R Q
def DOp(X:Cx)(f:Value→Value→Sem Value)(g:DR2):Prop:=OpR X f (upR X.K g)
def dOp(g:DR2)(ta tb:DTE):DTE:=fun e M R=>ta e M fun x M1=>tb e M1 fun y M2=>g x y M2 R
theorem iR{ta tb:DTE}{g:DR2}{σ:St}{H:Hp}{Q:VK}(h:up X.K (dOp g ta tb) σ H Q):tOp (upR X.K g) (up X.K ta) (up X.K tb) σ H Q:=by
 obtain⟨e,M,R,ok,am,t,f⟩:=h
 refine⟨e,M,_,ok,am,t,fun x M1 h1 v H1 k1 a1 r1=>?_⟩
 refine⟨e,M1,_,ok.mono k1,a1,h1,fun y M2 h2 u H2 k2 a2 r2=>?_⟩
 exact⟨x,y,M2,R,r1.mono k2,r2,a2,h2,f.mono (k1.trans k2)⟩
theorem e8{op:Operator}{g:DR2}(ho:DOp X (binaryOp op) g)(ha:JE X a ta)(hb:JE X b tb):JE X (.BinOp a op b pos) (dOp g ta tb):=⟨have ha:=ha.out;have hb:=hb.out;(CV ho ha hb).imp fun _ _ _ h=>iR h⟩
theorem Fe{op:CmpOp}{g:DR2}(ho:DOp X (compareOp op) g)(ha:JE X a ta)(hb:JE X b tb)(hm:behindInMarks op b=false):JE X (.Compare a [op] [b] pos) (dOp g ta tb):=⟨have ha:=ha.out;have hb:=hb.out;(AK ho ha hb hm).imp fun _ _ _ h=>iR h⟩
def rV(t:DTE):DTT:=fun e M R=>t e M fun x M'=>∃ k,x = .bl k∧R k M'
theorem mi{K:Ms}{H:Hp}{R:Bool→Mem→Prop}{Q:Bool→Hp→Prop}(f:yw K H R Q):fb K H (fun x M'=>∃ k,x = .bl k∧R k M') (fun x H'=>∃ k,x = .bl k∧Q k H'):=by
 rintro d M' ⟨k,rfl,r⟩ v H' kt am h
 cases h
 exact⟨k,rfl,f k M' r H' kt am⟩
theorem Br{op:CmpOp}{g:DR2}(ho:DOp X (compareOp op) g)(ha:JE X a ta)(hb:JE X b tb)(hm:behindInMarks op b=false):JT X (.Compare a [op] [b] pos) (rV (dOp g ta tb)):=⟨have ha:=ha.out;have hb:=hb.out;(Au ho ha hb hm).imp (by rintro σ H Q ⟨e,M,R,ok,am,t,f⟩;exact iR (Q:=fun x H'=>∃ k,x = .bl k∧Q k H') ⟨e,M,_,ok,am,t,mi f⟩)⟩
theorem j8{x:Expr}{t:DTE}(h:JE X x t)(he:∀ whole,isTrue x X.env whole=(do let v ← whole;standAt x.pos;holding [v] (truthy v)):=by intro _;rfl):JT X x (rV t):=⟨have h:=h.out;(Es h he).imp (by rintro σ H Q ⟨e,M,R,ok,am,t,f⟩;exact⟨e,M,_,ok,am,t,mi f⟩)⟩
noncomputable def fI(f:Int→Int→D):D→D→Option D
 | .int i,.int j=>some (f i j)
 | _,_=>none
def gF(f:D→D→Option D):DR2:=fun x y M R=>∃ z,f x y=some z∧R z M
def gI(C:Int→Int→Prop)(f:Int→Int→D):DR2:=fun x y M R=>∃ i j,x = .int i∧y = .int j∧C i j∧R (f i j) M
theorem kC{f:Int→Int→D}{x y z:D}(h:fI f x y=some z):∃ i j,x = .int i∧y = .int j∧z=f i j:=by
 cases x with
 | int i =>
  cases y with
  | int j=>exact⟨i,j,rfl,rfl,(Option.some.inj h).symm⟩
  | _=>cases h
 | _=>cases h
theorem rQ{f:Value→Value→Sem Value}{C:Int→Int→Prop}{g:Int→Int→V}{g':Int→Int→D}(h:OpR X f (rI C g))(hg:∀ i j H,Has X.K H (g i j) (g' i j)):DOp X f (gI C g') :=
 OpR.imp h (by
  rintro x y H Q ⟨dx,dy,M,R,hx,hy,am,⟨i,j,e1,e2,hc,r⟩,f⟩
  subst e1;subst e2
  cases hx;cases hy
  exact⟨i,j,rfl,rfl,hc,f _ M r _ H (KT.refl H) am (hg i j H)⟩)
theorem bJ{f:Value→Value→Sem Value}{g:Int→Int→V}{g':Int→Int→D}(h:OpR X f (rI0 g))(hg:∀ i j H,Has X.K H (g i j) (g' i j)):DOp X f (gF (fI g')) :=
 OpR.imp h (by
  rintro x y H Q ⟨dx,dy,M,R,hx,hy,am,⟨z,e,r⟩,f⟩
  obtain⟨i,j,e1,e2,e3⟩:=kC e
  subst e1;subst e2;subst e3
  cases hx;cases hy
  exact⟨i,j,rfl,rfl,f _ M r _ H (KT.refl H) am (hg i j H)⟩)
theorem C3:DOp X (binaryOp .Add) (gF (fI fun i j=>.int (i+j))):=bJ ES fun _ _ _=>.int _
theorem E5:DOp X (binaryOp .Sub) (gF (fI fun i j=>.int (i - j))):=bJ EN fun _ _ _=>.int _
theorem eJ:DOp X (compareOp .Lt) (gF (fI fun i j=>.bl (decide (i<j)))):=bJ Hi fun _ _ _=>.bl _
theorem tm:DOp X (compareOp .LtE) (gF (fI fun i j=>.bl (decide (i≤j)))):=bJ Hj fun _ _ _=>.bl _
theorem aU:DOp X (compareOp .Gt) (gF (fI fun i j=>.bl (decide (j<i)))):=bJ Hk fun _ _ _=>.bl _
theorem Ho:DOp X (compareOp .GtE) (gF (fI fun i j=>.bl (decide (j≤i)))):=bJ Hl fun _ _ _=>.bl _
theorem R9:DOp X (binaryOp .Mod) (gI (fun _ j=>0<j) fun i j=>.int (i % j)):=rQ ER fun _ _ _=>.int _
theorem rp:DOp X (binaryOp .Pow) (gI yI fun i j=>.int (i ^ j.toNat)):=rQ EO fun _ _ _=>.int _
noncomputable def gU(f:Int→D):D→Mem→DK→Prop:=fun x M R=>∃ i,x = .int i∧R (f i) M
def dUn(g:D→Mem→DK→Prop)(ta:DTE):DTE:=fun e M R=>ta e M fun x M1=>g x M1 R
theorem U3(ha:JE X a ta):JE X (.UnaryOp .USub a pos) (dUn (gU fun i=>.int (-i)) ta):=⟨have ha:=ha.out;(Hb DR ha).imp (by rintro σ H Q ⟨e,M,R,ok,am,t,f⟩;exact⟨e,M,_,ok,am,t,fun x M1 ⟨i,z,r⟩ v H1 k1 a1 r1=>by
  subst z;cases r1;exact⟨i,rfl,f _ M1 r _ H1 k1 a1 (.int _)⟩⟩)⟩
variable {tA tB':DTT} {G0:List Expr}
def Ib(t u:DTT):DTT:=fun e M R=>t e M fun c M1=>if c=true then u e M1 R else R false M1
def dOr(t u:DTT):DTT:=fun e M R=>t e M fun c M1=>if c=true then R true M1 else u e M1 R
def HV(t:DTT):DTT:=fun e M R=>t e M fun c M1=>R (!c) M1
theorem J1(ha:JT X a tA):JW X (.BoolOp .And [a] pos) tA:=⟨have ha:=ha.out;As ha⟩
theorem B6(ha:JT X a tA):JW X (.BoolOp .Or [a] pos) tA:=⟨have ha:=ha.out;Eo ha⟩
theorem Q9(ha:JT X a tA)(hb:JW X (.BoolOp .And (b :: G0) pos) tB'):JW X (.BoolOp .And (a :: b :: G0) pos) (Ib tA tB'):=⟨have ha:=ha.out;have hb:=hb.out;(Ep ha hb).imp (by rintro σ H Q ⟨e,M,R,ok,am,t,f⟩;exact⟨e,M,_,ok,am,t,fun k M1 h1 H1 k1 a1=>by
  cases k with
  | true=>exact⟨e,M1,R,ok.mono k1,a1,h1,f.mono k1⟩
  | false=>exact f false M1 h1 H1 k1 a1⟩)⟩
theorem A5(ha:JT X a tA)(hb:JW X (.BoolOp .Or (b :: G0) pos) tB'):JW X (.BoolOp .Or (a :: b :: G0) pos) (dOr tA tB'):=⟨have ha:=ha.out;have hb:=hb.out;(GZ ha hb).imp (by rintro σ H Q ⟨e,M,R,ok,am,t,f⟩;exact⟨e,M,_,ok,am,t,fun k M1 h1 H1 k1 a1=>by
  cases k with
  | true=>exact f true M1 h1 H1 k1 a1
  | false=>exact⟨e,M1,R,ok.mono k1,a1,h1,f.mono k1⟩⟩)⟩
theorem u7(ha:JT X a tA):JT X (.UnaryOp .Not a pos) (HV tA):=⟨have ha:=ha.out;(Et ha).imp (by rintro σ H Q ⟨e,M,R,ok,am,t,f⟩;exact⟨e,M,_,ok,am,t,fun k M1 h1 H1 k1 a1=>f (!k) M1 h1 H1 k1 a1⟩)⟩
theorem A4{x:Expr}{t:DTT}(h:JW X x t):JT X x t:=⟨have h:=h.out;PW.pt h⟩
def Dv(ta tb:DTE):DTE:=fun e M R=>ta e M fun x M1=>∃ c,x = .bl c∧if c=true then tb e M1 R else R (.bl false) M1
def Dq(ta:DTE):DTE:=fun e M R=>ta e M fun x M1=>∃ c,x = .bl c∧R (.bl (!c)) M1
theorem E1{op}{t:DTE}(h:JE X a t):JE X (.BoolOp op [a] pos) t:=⟨have h:=h.out;EG h⟩
theorem B9(ha:JE X a ta)(hb:JE X (.BoolOp .And (b :: G0) pos) tb):JE X (.BoolOp .And (a :: b :: G0) pos) (Dv ta tb):=⟨have ha:=ha.out;have hb:=hb.out;(EL ha hb).imp (by rintro σ H Q ⟨e,M,R,ok,am,t,f⟩;exact⟨e,M,_,ok,am,t,fun x M1 ⟨k,z,h1⟩ v H1 k1 a1 r1=>by
  subst z;cases r1
  refine⟨k,rfl,?_⟩
  cases k with
  | true=>exact⟨e,M1,R,ok.mono k1,a1,h1,f.mono k1⟩
  | false=>exact f _ M1 h1 _ H1 k1 a1 (.bl _)⟩)⟩
theorem rF(ha:JE X a ta):JE X (.UnaryOp .Not a pos) (Dq ta):=⟨have ha:=ha.out;(EH ha).imp (by rintro σ H Q ⟨e,M,R,ok,am,t,f⟩;exact⟨e,M,_,ok,am,t,fun x M1 ⟨k,z,h1⟩ v H1 k1 a1 r1=>by
  subst z;cases r1
  exact⟨k,rfl,f _ M1 h1 _ H1 k1 a1 (.bl _)⟩⟩)⟩
def dIf(t:DTT)(ta tb:DTE):DTE:=fun e M R=>t e M fun c M1=>if c=true then ta e M1 R else tb e M1 R
theorem nA(hc:JT X c tA)(ha:JE X a ta)(hb:JE X b tb):JE X (.IfExp c a b pos) (dIf tA ta tb):=⟨have hc:=hc.out;have ha:=ha.out;have hb:=hb.out;(wC hc ha hb).imp (by rintro σ H Q ⟨e,M,R,ok,am,t,f⟩;exact⟨e,M,_,ok,am,t,fun k M1 h1 H1 k1 a1=>by
  cases k with
  | true=>exact⟨e,M1,R,ok.mono k1,a1,h1,f.mono k1⟩
  | false=>exact⟨e,M1,R,ok.mono k1,a1,h1,f.mono k1⟩⟩)⟩
def Fv:DTA:=fun _ M R=>R [] M
def rX(ta:DTE)(tr:DTA):DTA:=fun e M R=>ta e M fun x M1=>tr e M1 fun xs M2=>R (x :: xs) M2
variable {es:List Expr} {tr:DTA}
theorem d5:JA X [] Fv:=⟨EM.imp (by rintro σ H Q ⟨e,M,R,ok,am,t,f⟩;exact f [] M t [] H (KT.refl H) am .nil)⟩
theorem a9(ha:JE X a ta)(hr:JA X es tr)(hs:starEach (a :: es) X.env=(false,eval a X.env) :: starEach es X.env:=by rfl):JA X (a :: es) (rX ta tr):=⟨have ha:=ha.out;have hr:=hr.out;(AN ha hr hs).imp (by rintro σ H Q ⟨e,M,R,ok,am,t,f⟩;exact⟨e,M,_,ok,am,t,fun x M1 h1 v H1 k1 a1 r1 =>
  ⟨e,M1,_,ok.mono k1,a1,h1,fun xs M2 h2 vs H2 k2 a2 r2=>f _ M2 h2 _ H2 (k1.trans k2) a2 (.cons (r1.mono k2) r2)⟩⟩)⟩
def HP(t:DTA):DTE:=fun e M R=>t e M fun ds M1=>ds.length≤sizeLine∧R (.tup ds) M1
def HW(t:DTA):DTE:=fun e M R=>t e M fun ds M1=>ds.length≤sizeLine∧∀ p,M1 p=none→R (.ref p) (B5 M1 p (.lst ds))
theorem g7{x1}(h:JA X es tr):JE X (.Tuple es x1 pos) (HP tr):=⟨have h:=h.out;(EE h).imp (by rintro σ H Q ⟨e,M,R,ok,am,t,f⟩;exact⟨e,M,_,ok,am,t,fun ds M1 ⟨hz,h1⟩ vs H1 k1 a1 r1=>by
  refine⟨by rw[r1.length];exact hz,fun p hp=>?_⟩
  have k2:KT H1 (upd H1 p (.tup vs)):=KT.alloc hp
  exact f _ M1 h1 _ _ (k1.trans k2) (a1.alloc hp) (.tup (SqT.of i7) (r1.mono k2))⟩)⟩
theorem bI(h:JA X es tr):JE X (.List es pos) (HW tr):=⟨have h:=h.out;(wB h).imp (by rintro σ H Q ⟨e,M,R,ok,am,t,f⟩;exact⟨e,M,_,ok,am,t,fun ds M1 ⟨hz,h1⟩ vs H1 k1 a1 r1=>by
  refine⟨by rw[r1.length];exact hz,fun p hp=>?_⟩
  have k2:KT H1 (upd H1 p (.lst vs)):=KT.alloc hp
  exact f _ _ (h1 p (a1.fresh hp)) _ _ (k1.trans k2) (a1.new hp r1) (.ref p)⟩)⟩
theorem HasL.at{K:Ms}{H:Hp}{vs:List V}{ds:List D}(h:HasL K H vs ds){i:Int}{z:D}(e:atI ds i=some z):∃ v,atI vs i=some v∧Has K H v z:=by
 unfold atI at e ⊢
 rw[h.length]
 cases q:ixN ds.length i with
 | none=>rw[q]at e;cases e
 | some j =>
  rw[q]at e
  exact h.get e
def DIx(X:Cx)(g:DR2):Prop:=IxR X (upR X.K g)
theorem Hv{g:DR2}(hr:DIx X g)(ha:JE X a ta)(hb:JE X b tb)(hs:kW b):JE X (.Subscript a b pos) (dOp g ta tb):=⟨have ha:=ha.out;have hb:=hb.out;(Hd hr ha hb hs).imp fun _ _ _ h=>iR h⟩
noncomputable abbrev DXK:=Value→Mem→Prop
noncomputable abbrev DSp:=List D→Mem→DK→DXK→Prop
def FO(K:Ms)(H:Hp)(Y:DXK)(E:XK):Prop:=∀ c M',Y c M'→∀ o H',KT H H'→m8 K H' M'→E c o H'
noncomputable def mh(K:Ms)(sp:DSp):Sp:=fun vs H Q E=>∃ ds M R Y,HasL K H vs ds∧m8 K H M∧sp ds M R Y∧fb K H R Q∧FO K H Y E
def nJ(sp:DSp)(dds:List D)(Y:DXK)(t:DTA):DTE:=fun e M R=>t e M fun ds M1=>sp (ds++dds) M1 R Y
end
section
variable {X:Cx} {CX:CXT} {k:Nat} {f C:Addr} {fd:FuncData} {ps:List Str} {sp:DSp} {dvs:List V} {dds:List D} {ds:List Value} {E:XK} {Y:DXK} {x m:Str} {p pos apos:Pos} {e o:Expr} {es:List Expr} {t:DTA}
theorem Ft(F:S1 X.prog X.w X.K X.mg X.base CX k f fd ps (mh X.K sp))(hr:G6 k X.A)(hg:Gl X x)(hm:X.mg x=some (.ref f))(hk:PySem.W.keepIn X.K (.ref f)=true)(hb:fc X.K fd ps ds)(hd:j6 dvs ds)(hdd:∀ H,HasL X.K H dvs dds)(hx:kX CX X E)(hY:∀ H,FO X.K H Y E)
  (ha:DPA X (e :: es) t) (hdb:(x == ("__debug__" : Str))=false:=by decide) (he:starEach (e :: es) X.env=(false,eval e X.env) :: starEach es X.env:=by rfl) (hpl:(backTo pos (starEach es X.env)).any (·.1)=false:=by rfl) :
  DPE X (.Call (.Name x p) (e :: es) [] pos) (nJ sp dds Y t) :=
 (AL F hr hg hm hk hb hd hx ha hdb he hpl).imp (by rintro σ H Q ⟨e,M,R,ok,am,t,f⟩;exact⟨e,M,_,ok,am,t,fun xs M1 h1 vs H1 k1 a1 r1 =>
  ⟨xs++dds,M1,R,Y,r1.append (hdd H1),a1,h1,f.mono k1,hY H1⟩⟩)
end
section
variable {X:Cx} {st:Stmt} {G0:List Stmt} {t u:DTS} {e:Expr} {te:DTE} {pos:Pos}
def Dr:DTS:=fun F e M=>F.nx e M
def HS(t u:DTS):DTS:=fun F e M=>t { F with nx:=u F } e M
theorem f7:JSs X [] Dr:=⟨Aw.imp (by rintro E σ H ⟨e,M,F,ok,am,t,f⟩;exact f.nx e M t σ H (KT.refl H) am ok)⟩
theorem d7(h1:JS X st t)(h2:JSs X G0 u):JSs X (st :: G0) (HS t u):=⟨have h1:=h1.out;have h2:=h2.out;(mO h1 h2).imp (by rintro E σ H ⟨e,M,F,ok,am,t,f⟩;exact⟨e,M,{ F with nx:=u F },ok,am,t,⟨fun e' M' h σ' H' k a o=>⟨e',M',F,o,a,h,f.mono k⟩,f.rt,f.bk,f.ct⟩⟩)⟩
theorem d8(h1:JS X st t):JSs X [st] t:=⟨have h1:=h1.out;Av h1⟩
def Dt(te:DTE):DTS:=fun F e M=>te e M fun _ M1=>F.nx e M1
theorem U1(he:JE X e te)(hs:swapsWith e none pos.line X.env=pure false:=by rfl):JS X (.Expr e pos) (Dt te):=⟨have he:=he.out;(Ay he hs).imp (by rintro E σ H ⟨e,M,F,ok,am,t,f⟩;exact⟨e,M,_,ok,am,t,fun d M1 h1 v H1 k1 a1 r1=>f.nx e M1 h1 σ H1 k1 a1 (ok.mono k1)⟩)⟩
def Fu(te:DTE):DTS:=fun F e M=>te e M F.rt
theorem d9(he:JE X e te):JS X (.Return (some e) pos) (Fu te):=⟨have he:=he.out;(Ew he).imp (by rintro E σ H ⟨e,M,F,ok,am,t,f⟩;exact⟨e,M,_,ok,am,t,f.rt⟩)⟩
def HX(c:DTT)(t u:DTS):DTS:=fun F e M=>c e M fun b M1=>if b=true then t F e M1 else u F e M1
theorem f9{c:Expr}{a b:List Stmt}{tc:DTT}(hc:JT X c tc)(ha:JSs X a t)(hb:JSs X b u):JS X (.If c a b pos) (HX tc t u):=⟨have hc:=hc.out;have ha:=ha.out;have hb:=hb.out;(Ha hc ha hb).imp (by rintro E σ H ⟨e,M,F,ok,am,t,f⟩;exact⟨e,M,_,ok,am,t,fun k M1 h1 H1 k1 a1=>by
  cases k with
  | true=>exact⟨e,M1,F,ok.mono k1,a1,h1,f.mono k1⟩
  | false=>exact⟨e,M1,F,ok.mono k1,a1,h1,f.mono k1⟩⟩)⟩
def xZ:DTS:=fun _ _ _=>False
theorem tE:JS X st xZ:=⟨wj.imp (by rintro E σ H ⟨_,_,_,_,_,t,_⟩;exact t)⟩
noncomputable abbrev DTG:=D→Ev→Mem→(Ev→Mem→Prop)→Prop
noncomputable abbrev V1:=List D→Ev→Mem→(Ev→Mem→Prop)→Prop
def upG(K:Ms)(g:DTG):TG:=fun v σ H Q=>∃ d e M R,Has K H v d∧A0 K H σ e∧m8 K H M∧g d e M R∧nZ K H R Q
def IC(K:Ms)(g:V1):TGs:=fun vs σ H Q=>∃ ds e M R,HasL K H vs ds∧A0 K H σ e∧m8 K H M∧g ds e M R∧nZ K H R Q
abbrev DPG(X:Cx)(x:Expr)(g:DTG):Prop:=PG X x (upG X.K g)
abbrev Jx(X:Cx)(x:List Expr)(g:V1):Prop:=PGs X x (IC X.K g)
structure JG(X:Cx)(x:Expr)(g:DTG):Prop where
 out:DPG X x g
structure JGs(X:Cx)(x:List Expr)(g:V1):Prop where
 out:Jx X x g
def bK(i:Nat):DTG:=fun d e M R=>R (e.set i (some d)) M
theorem xm{i:Nat}{x:Str}(hN:X.N.Nodup)(hi:X.N[i]? = some x)(hx:Loc X.env.scope x)(hf:X.fn x=true∨X.env.scope.names.lookup x=some .local:=by first|exact .inl rfl|exact .inr rfl|assumption):JG X (.Name x pos) (bK i):=⟨PG.imp (AH hN hi hx hf) (by rintro v σ H Q ⟨d,e,M,R,r,ok,am,g,f⟩;exact f _ M g _ H (KT.refl H) am (ok.set r i))⟩
def Dm:V1:=fun ds e M R=>ds=[]∧R e M
def xV(t:DTG)(u:V1):V1:=fun ds e M R=>∃ d r,ds=d :: r∧t d e M fun e' M'=>u r e' M' R
theorem j5:JGs X [] Dm:=⟨PGs.imp AF (by
 rintro v σ H Q ⟨ds,e,M,R,r,ok,am,⟨z,g⟩,f⟩
 subst z;cases r;exact⟨rfl,f e M g σ H (KT.refl H) am ok⟩)⟩
end
section
variable {X:Cx} {st:Stmt} {G0:List Stmt} {t u:DTS} {e:Expr} {te:DTE} {pos:Pos}
theorem e5{x:Expr}{xs:List Expr}{t:DTG}{u:V1}(h1:JG X x t)(h2:JGs X xs u)
  (hs:(assignEach (x :: xs) X.env).map (·.2)=assign x X.env :: (assignEach xs X.env).map (·.2):=by rfl):JGs X (x :: xs) (xV t u):=⟨have h1:=h1.out;have h2:=h2.out;PGs.imp (wy h1 h2 hs) (by
  rintro vs σ H Q ⟨ds,e,M,R,r,ok,am,⟨d,dr,z,g⟩,f⟩
  subst z
  cases r with
  | cons r rr=>exact⟨_,_,rfl,d,e,M,_,r,ok,am,g,fun e1 M1 h1 σ1 H1 k1 a1 ok1=>⟨dr,e1,M1,R,rr.mono k1,ok1,a1,h1,f.mono k1⟩⟩)⟩
def nI(n:Nat)(t:V1):DTG:=fun d e M R=>∃ ds,d = .tup ds∧ds.length=n∧t ds e M R
theorem o7{xs:List Expr}{k:Nat}{t:V1}{n:Nat}(hc:X.calm=true)(h:JGs X xs t)
  (hn:(assignEach xs X.env).length=n:=by rfl) (hst:(assignEach xs X.env).findIdx? (·.1)=none:=by rfl):JG X (.Tuple xs k pos) (nI n t):=⟨have h:=h.out;PG.imp (EC hc h hn hst) (by
  rintro v σ H Q ⟨d,e,M,R,r,ok,am,⟨ds,z,hl,g⟩,f⟩
  subst z
  cases r with
  | tup s l=>exact⟨_,_,rfl,s,by rw[l.length];exact hl,ds,e,M,R,l,ok,am,g,f⟩)⟩
noncomputable abbrev yz:=D→D→D→Mem→(Mem→Prop)→Prop
noncomputable def De:yz:=fun o i v M R=>∃ p ds k j,o = .ref p∧i = .int k∧M p=some (.lst ds)∧ixN ds.length k=some j∧R (B5 M p (.lst (ds.set j v)))
def Dk(to ti:DTE)(t:yz):DTG:=fun d e M R=>to e M fun o M1=>ti e M1 fun i M2=>t o i d M2 fun M3=>R e M3
theorem ku{o i:Expr}{to ti:DTE}(ho:JE X o to)(hi:JE X i ti)
  (ha:∀ v,assign (.Subscript o i pos) X.env v=(do
   let ov ← holding [v] (eval o X.env)
   let iv ← holding [v,ov] (eval i X.env)
   standAt pos
   holding [v,ov,iv] (setItem ov iv v)
   release [v,ov,iv] []):=by intro _;rfl):JG X (.Subscript o i pos) (Dk to ti De):=⟨have ho:=ho.out;have hi:=hi.out;PG.imp (ED ho hi vG ha) fun v σ H Q ⟨d,e,M,R,r,ok,am,g,f⟩ =>
  ⟨e,M,_,ok,am,g,fun x M1 h1 vo H1 k1 a1 r1=>⟨e,M1,_,ok.mono k1,a1,h1,fun y M2 ⟨p,ds,k,j,e1,e2,e3,e4,h2⟩ vi H2 k2 a2 r2=>by
   subst e1;subst e2
   cases r1;cases r2
   obtain⟨xs,hx,l⟩:=a2.lst e3
   have kt:KT H H2:=k1.trans k2
   have kw:KT H2 (upd H2 p (.lst (xs.set j v))):=KT.write hx
   exact⟨p,xs,k,j,rfl,rfl,hx,by rw[l.length];exact e4,f e _ h2 σ _ (kt.trans kw) (a2.write hx (l.set (r.mono kt) j)) ((ok.mono kt).mono kw)⟩⟩⟩⟩
def yb(te:DTE)(g:DTG):DTS:=fun F e M=>te e M fun x M1=>g x e M1 F.nx
theorem u6{tg x:Expr}{tx:DTE}{g:DTG}(he:JE X x tx)(hg:JG X tg g)(hs:swapsWithSole [tg] x pos.line X.env=pure false:=by rfl)(hw:swappedStores [tg] x X.env=pure none:=by rfl)
  (h1:(assignEach [tg] X.env).map (·.2)=[assign tg X.env]:=by rfl):JS X (.Assign [tg] x pos) (yb tx g):=⟨have he:=he.out;have hg:=hg.out;(Ez he hg hs hw h1).imp (by rintro E σ H ⟨e,M,F,ok,am,t,f⟩;exact⟨e,M,_,ok,am,t,fun d M1 h1 v H1 k1 a1 r1=>⟨d,e,M1,F.nx,r1,ok.mono k1,a1,h1,f.nx.mono k1⟩⟩)⟩
theorem Bq{i:Nat}{x:Str}{tx:DTE}{pos':Pos}(hN:X.N.Nodup)(hi:X.N[i]? = some x)(hx:Loc X.env.scope x)(he:JE X e tx)(hs:swapsWith e (some (.Name x pos')) pos.line X.env=pure false:=by rfl)(hf:X.fn x=true∨X.env.scope.names.lookup x=some .local:=by first|exact .inl rfl|exact .inr rfl|assumption):JS X (.Assign [.Name x pos'] e pos) (yb tx (bK i)):=⟨have he:=he.out;(Eu hN hi hx he hs hf).imp (by rintro E σ H ⟨e,M,F,ok,am,t,f⟩;exact⟨e,M,_,ok,am,t,fun d M1 h1 v H1 k1 a1 r1=>f.nx _ M1 h1 _ H1 k1 a1 ((ok.mono k1).set r1 i)⟩)⟩
def HU(i j:Nat)(ta:DTA):DTS:=fun F e M=>ta e M fun ds M1=>∃ x y,ds=[x,y]∧F.nx ((e.set i (some x)).set j (some y)) M1
theorem aY{i j:Nat}{x y:Str}{a b:Expr}{ta:DTA}{px py pt:Pos}{kt k2 pt2}(hc:X.calm=true)(hN:X.N.Nodup)(hi:X.N[i]? = some x)(hj:X.N[j]? = some y)(hij:i≠j)
  (hx:X.env.scope.names.lookup x=some .local) (hy:X.env.scope.names.lookup y=some .local) (ha:JA X [a,b] ta)
  (hw:swappedStores [.Tuple [.Name x px,.Name y py] kt pt] (.Tuple [a,b] k2 pt2) X.env=pure (some [x,y]):=by rfl)
  (hs:swapsWithSole [.Tuple [.Name x px,.Name y py] kt pt] (.Tuple [a,b] k2 pt2) pos.line X.env=pure false:=by rfl):JS X (.Assign [.Tuple [.Name x px,.Name y py] kt pt] (.Tuple [a,b] k2 pt2) pos) (HU i j ta):=⟨have ha:=ha.out;(Ex hc hN hi hj hij hx hy ha hw hs).imp (by rintro E σ H ⟨e,M,F,ok,am,t,f⟩;exact⟨e,M,_,ok,am,t,fun ds M1 ⟨x,y,z,h1⟩ vs H1 k1 a1 r1=>by
  subst z
  cases r1 with
  | cons r1 rr =>
   cases rr with
   | cons r2 rr =>
    cases rr
    exact⟨_,_,rfl,f.nx _ M1 h1 _ H1 k1 a1 (((ok.mono k1).set r1 i).set r2 j)⟩⟩)⟩
def xX(c:DTT)(tb:DTS):DTS:=fun F e M=>∃ W:Nat→Ev→Mem→Prop,(∃ m,W m e M)∧∀ m e M,W m e M →
 c e M fun b M1=>if b=true then tb { F with nx:=fun e' M'=>∃ m',m'<m∧W m' e' M',ct:=fun e' M'=>∃ m',m'<m∧W m' e' M',bk:=F.nx } e M1 else F.nx e M1
theorem bG{c:Expr}{body:List Stmt}{tc:DTT}{tb:DTS}(hp:PassesOwn (model X.prog X.w) X.A X.env X.xe)(hc:JT X c tc)(hb:JSs X body tb):JS X (.While c body [] pos) (xX tc tb):=⟨have hc:=hc.out;have hb:=hb.out;(wg hp hc hb).imp (by
  rintro E σ H ⟨e,M,F,ok,am,⟨W,⟨m0,w0⟩,turn⟩,f⟩
  refine⟨fun m σ' H'=>∃ e' M',KT H H'∧A0 X.K H' σ' e'∧m8 X.K H' M'∧W m e' M',⟨m0,e,M,KT.refl H,ok,am,w0⟩,?_⟩
  rintro m σ1 H1 ⟨e1,M1,k1,ok1,a1,w1⟩
  refine⟨e1,M1,_,ok1,a1,turn m e1 M1 w1,fun b M2 h2 H2 k2 a2=>?_⟩
  cases b with
  | false=>exact f.nx e1 M2 h2 σ1 H2 (k1.trans k2) a2 (ok1.mono k2)
  | true =>
   refine⟨fun σ' H'=>∃ m',m'<m∧∃ e' M',KT H H'∧A0 X.K H' σ' e'∧m8 X.K H' M'∧W m' e' M',fun σ' H' h=>h,e1,M2,_,ok1.mono k2,a2,h2,?_⟩
   have kk:=k1.trans k2
   exact⟨fun e' M' ⟨m',l,w⟩ σ' H' k' a' o'=>⟨m',l,e',M',kk.trans k',o',a',w⟩,f.rt.mono kk,f.nx.mono kk,fun e' M' ⟨m',l,w⟩ σ' H' k' a' o'=>⟨m',l,e',M',kk.trans k',o',a',w⟩⟩)⟩
noncomputable abbrev DTI:=Ev→Mem→(List D→(Mem→Prop)→Mem→Prop)→Prop
def HZ(ti:DTI)(g:DTG)(tb:DTS):DTS:=fun F e M=>ti e M fun ds stay M1=>∃ W:Nat→Ev→Mem→Prop,W 0 e M1∧(∀ i e M,i≤ds.length→W i e M→stay M) ∧
 (∀(i:Nat) (d:D) e M,ds[i]? = some d→W i e M→g d e M fun e2 M2=>tb { F with nx:=W (i+1),ct:=W (i+1),bk:=F.nx } e2 M2)∧∀ e M,W ds.length e M→F.nx e M
noncomputable def F0(lo:Int)(n:Nat):List D:=(NO n).map fun(i:Nat)=>D.int (lo+(i:Int))
theorem D1(lo:Int)(n:Nat):(F0 lo n).length=n:=by simp[F0]
theorem eB{lo:Int}{n i:Nat}(h:i<n):(F0 lo n)[i]? = some (D.int (lo+(i:Int))):=by simp[F0,h]
theorem hV{lo:Int}{n i:Nat}{d:D}(h:(F0 lo n)[i]? = some d):i<n∧d=D.int (lo+(i:Int)):=by
 have hl:i<n:=by
  have:=(MH.mp h).1
  rw[D1]at this;exact this
 rw[eB hl]at h
 exact⟨hl,(Option.some.inj h).symm⟩
def Dj(ta:DTA):DTI:=fun e M R=>ta e M fun ds M1=>∃ j:Int,ds=[.int j]∧-(2 ^ 62)≤j∧j<2 ^ 62∧R (F0 0 j.toNat) (fun _=>True) M1
def xS(ta:DTA):DTI:=fun e M R=>ta e M fun ds M1=>∃ i j:Int,ds=[.int i,.int j]∧(-(2 ^ 62)≤i∧i<2 ^ 62∧-(2 ^ 62)≤j∧j<2 ^ 62)∧R (F0 i (j - i).toNat) (fun _=>True) M1
theorem xH{K:Ms}{H H1 H2:Hp}{F:Y2}{E:og}{W:Nat→Ev→Mem→Prop}{g:DTG}{tb:DTS}{i:Nat}{x:V}{d:D}{σ2:St}{e2:Ev}{M2:Mem}(f:Fit K H F E)(k1:KT H H1)(k2:KT H1 H2)(ok2:A0 K H2 σ2 e2)(a2:m8 K H2 M2)(r:Has K H2 x d)
  (h:g d e2 M2 fun e3 M3=>tb { F with nx:=W (i+1),ct:=W (i+1),bk:=F.nx } e3 M3) :
  upG K g x σ2 H2 fun σ3 H3=>upS K tb { E with nx:=fun σ' H'=>∃ e' M',KT H1 H'∧A0 K H' σ' e'∧m8 K H' M'∧W (i+1) e' M',ct:=fun σ' H'=>∃ e' M',KT H1 H'∧A0 K H' σ' e'∧m8 K H' M'∧W (i+1) e' M',bk:=E.nx } σ3 H3:=by
 refine⟨d,e2,M2,_,r,ok2,a2,h,fun e3 M3 h3 σ3 H3 k3 a3 ok3=>⟨e3,M3,_,ok3,a3,h3,?_⟩⟩
 have kk:KT H H3:=k1.trans (k2.trans k3)
 exact⟨fun e' M' w σ' H' k' a' o'=>⟨e',M',k2.trans (k3.trans k'),o',a',w⟩,f.rt.mono kk,f.nx.mono kk,fun e' M' w σ' H' k' a' o'=>⟨e',M',k2.trans (k3.trans k'),o',a',w⟩⟩
variable {tg iter:Expr} {body:List Stmt} {ti:DTE} {ta:DTA} {g:DTG} {tb:DTS}
theorem Has.il{K:Ms}{H:Hp}{v:V}{ds:List D}(h:Has K H v (.vl ds)):∃ a xs,v = .ref a∧SqL K H a xs∧HasL K H xs ds:=by
 cases h with
 | vl h l=>exact⟨_,_,rfl,h.elim (fun⟨o,e⟩=>.inl (.inr ⟨o,e⟩)) (fun k=>k H),l⟩
end
section
variable {P:Program} {w:World} {K:Ms} {mg:Str→Option Value} {base:Heap}
end
section
variable {X:Cx} {x:Str} {p pos:Pos} {e:Expr} {es:List Expr} {t:DTA} {id T:String}
noncomputable abbrev DRC:=List D→Mem→DK→Prop
noncomputable def upC(K:Ms)(g:DRC):List V→Hp→VK→Prop:=fun xs H Q=>∃ ds M R,HasL K H xs ds∧m8 K H M∧g ds M R∧fb K H R Q
def V2(X:Cx)(f:Value)(g:DRC):Prop:=v9 X f (upC X.K g)
def dCB(g:DRC)(t:DTA):DTE:=fun e M R=>t e M fun ds M1=>g ds M1 R
theorem Dx{g:DRC}{σ:St}{H:Hp}{Q:VK}(h:up X.K (dCB g t) σ H Q):tCB (upC X.K g) (upA X.K t) σ H Q:=by
 obtain⟨e,M,R,ok,am,t,f⟩:=h
 exact⟨e,M,_,ok,am,t,fun ds M1 h1 vs H1 k1 a1 r1=>⟨ds,M1,R,r1,a1,h1,f.mono k1⟩⟩
theorem v9.imp{f:Value}{r r':List V→Hp→VK→Prop}(h:v9 X f r)(i:∀ xs H Q,r' xs H Q→r xs H Q):v9 X f r':=fun pins s σ H xs us Q I rv q=>h pins s σ H xs us Q I rv (i xs H Q q)
theorem HasL.one{K:Ms}{H:Hp}{vs:List V}{d:D}(h:HasL K H vs [d]):∃ v,vs=[v]∧Has K H v d:=by
 cases h with
 | cons r rr=>cases rr;exact⟨_,rfl,r⟩
theorem HasL.two{K:Ms}{H:Hp}{vs:List V}{d d':D}(h:HasL K H vs [d,d']):∃ v v',vs=[v,v']∧Has K H v d∧Has K H v' d':=by
 cases h with
 | cons r rr=>cases rr with|cons r2 rr=>cases rr;exact⟨_,_,rfl,r,r2⟩
def HK:DRC:=fun ds M R=>∃ i:Int,ds=[.int i]∧R (.int (i.natAbs:Int)) M
theorem eU:V2 X (.builtin "abs") HK:=v9.imp yj (by
 rintro xs H Q ⟨ds,M,R,hl,am,⟨i,z,r⟩,f⟩
 subst z
 obtain⟨v,rfl,h⟩:=hl.one
 cases h
 have e:(if i<0 then -i else i)=(i.natAbs:Int):=by split<;>omega
 exact⟨i,rfl,by rw[e];exact f _ M r _ H (KT.refl H) am (.int _)⟩)
def HH:DRC:=fun ds M R=>∃ i j:Int,ds=[.int i,.int j]∧R (.int (max i j)) M
theorem Dy(hc:X.calm=true):V2 X (.builtin "max") HH:=v9.imp (tO hc) (by
 rintro xs H Q ⟨ds,M,R,hl,am,⟨i,j,z,r⟩,f⟩
 subst z
 obtain⟨v,v',rfl,h,h'⟩:=hl.two
 cases h;cases h'
 have e:(if j > i then j else i)=max i j:=by
  rw[Int.max_def];split<;>split<;>omega
 exact⟨i,j,rfl,by rw[e];exact f _ M r _ H (KT.refl H) am (.int _)⟩)
def HG:DRC:=fun ds M R=>∃ i j:Int,ds=[.int i,.int j]∧R (.int (min i j)) M
theorem Io(hc:X.calm=true):V2 X (.builtin "min") HG:=v9.imp (tN hc) (by
 rintro xs H Q ⟨ds,M,R,hl,am,⟨i,j,z,r⟩,f⟩
 subst z
 obtain⟨v,v',rfl,h,h'⟩:=hl.two
 cases h;cases h'
 have e:(if j<i then j else i)=min i j:=by
  rw[Int.min_def];split<;>split<;>omega
 exact⟨i,j,rfl,by rw[e];exact f _ M r _ H (KT.refl H) am (.int _)⟩)
noncomputable def xc(M:Mem):D→Option Nat
 | .tup ds=>some ds.length
 | .ref p=>match M p with
  | some (.lst ds)=>some ds.length
  | _=>none
 | .vl ds=>some ds.length
 | _=>none
def pK:DRC:=fun ds M R=>∃ d n,ds=[d]∧xc M d=some n∧R (.int (n:Int)) M
theorem E7:V2 X (.builtin "len") pK:=v9.imp kN (by
 rintro xs H Q ⟨ds,M,R,hl,am,⟨d,n,z,hn,r⟩,f⟩
 subst z
 obtain⟨v,rfl,h⟩:=hl.one
 cases d with
 | tup es =>
  cases h with
  | tup s l =>
   cases hn
   exact⟨_,_,rfl,.inr s,by rw[l.length];exact f _ M r _ H (KT.refl H) am (.int _)⟩
 | ref p =>
  cases h
  unfold xc at hn
  cases q:M p with
  | none=>simp[q]at hn
  | some o =>
   cases o with
   | lst es =>
    simp only[q]at hn
    cases hn
    obtain⟨ys,hy,l⟩:=am.lst q
    exact⟨p,ys,rfl,.inl (SqL.of hy),by rw[l.length];exact f _ M r _ H (KT.refl H) am (.int _)⟩
   | ins C fs=>simp[q]at hn
 | vl es =>
  cases hn
  obtain⟨a,xs,rfl,sq,l⟩:=h.il
  exact⟨a,_,rfl,.inl sq,by rw[l.length];exact f _ M r _ H (KT.refl H) am (.int _)⟩
 | _=>cases hn)
end
theorem ag:bootBuiltins "abs" = some (.builtin "abs"):=by decide +kernel
theorem yn:bootBuiltins "max" = some (.builtin "max"):=by decide +kernel
theorem Fz:bootBuiltins "min" = some (.builtin "min"):=by decide +kernel
theorem B7:bootBuiltins "len" = some (.builtin "len"):=by decide +kernel
theorem m5:bootBuiltins "isinstance" = some (.builtin "isinstance"):=by decide +kernel
theorem pU:bootBuiltins "int" = some (.type "int"):=by decide +kernel
theorem kP:bootBuiltins "bool" = some (.type "bool"):=by decide +kernel
theorem U8:bootBuiltins "tuple" = some (.type "tuple"):=by decide +kernel
theorem kO:bootBuiltins "list" = some (.type "list"):=by decide +kernel
section
variable {X:Cx} {a b c:Expr} {ta tb tc:DTE} {pos:Pos}
theorem AQ:OpR X (binaryOp .Mult) (rI IntMulOk fun i j=>.int (i*j)):=opI fun _ _ _ _ _ _ _ hc q=>mul_int q hc
def CFd(i j:Int):Prop:=j≠0∧j.natAbs.log2<9000
theorem wI:OpR X (binaryOp .FloorDiv) (rI CFd fun i j=>.int (i.fdiv j)):=opI fun _ _ _ _ _ _ _ hc q=>floordiv_int hc.1 q (.inl (PyProof.noPylong_of_log2 hc.2))
theorem g9:DOp X (binaryOp .Mult) (gI IntMulOk fun i j=>.int (i*j)):=rQ AQ fun _ _ _=>.int _
theorem K4:DOp X (binaryOp .FloorDiv) (gI CFd fun i j=>.int (i.fdiv j)):=rQ wI fun _ _ _=>.int _
noncomputable def ixD(M:Mem):D→D→Option D
 | .tup ds,.int i=>atI ds i
 | .ref p,.int i=>match M p with
  | some (.lst ds)=>atI ds i
  | _=>none
 | .vl ds,.int i=>atI ds i
 | _,_=>none
def gIx:DR2:=fun x y M R=>∃ z,ixD M x y=some z∧R z M
theorem IxR.or'{r r':R2}(h:IxR X r)(h':IxR X r'){g:R2}(i:∀ x y H Q,g x y H Q→r x y H Q∨r' x y H Q):IxR X g:=IxR.imp (IxR.or h h') i
theorem HA:DIx X gIx:=IxR.or' Ff Bu (by
 rintro x y H Q ⟨dx,dy,M,R,hx,hy,am,⟨z,e,r⟩,f⟩
 cases dy with
 | int i =>
  cases hy
  cases dx with
  | tup ds =>
   cases hx with
   | tup s l =>
    obtain⟨v,h1,h2⟩:=l.at (show atI ds i=some z from e)
    exact .inl ⟨_,_,i,v,rfl,rfl,s,h1,f z M r v H (KT.refl H) am h2⟩
  | ref p =>
   cases hx
   unfold ixD at e
   cases q:M p with
   | none=>simp[q]at e
   | some o =>
    cases o with
    | lst ds =>
     simp only[q]at e
     obtain⟨xs,h1,h2⟩:=am.lst q
     obtain⟨v,h3,h4⟩:=h2.at e
     exact .inr ⟨_,_,i,v,rfl,rfl,SqL.of h1,h3,f z M r v H (KT.refl H) am h4⟩
    | ins C fs=>simp[q]at e
  | vl ds =>
   obtain⟨a,xs,rfl,sq,l⟩:=hx.il
   obtain⟨v,h1,h2⟩:=l.at (show atI ds i=some z from e)
   exact .inr ⟨_,_,i,v,rfl,rfl,sq,h1,f z M r v H (KT.refl H) am h2⟩
  | _=>simp[ixD]at e
 | _=>cases dx<;>simp[ixD]at e)
theorem E2{M:Mem}{p:Addr}{ds:List D}{i:Int}{z:D}(m:M p=some (.lst ds))(h:atI ds i=some z):ixD M (.ref p) (.int i)=some z:=by
 unfold ixD;simp only[m];exact h
noncomputable def isD:D→D→Option Bool
 | .bl a,.bl b=>some (a == b)
 | .non,.non=>some true
 | .bl _,.non=>some false
 | .int _,.non=>some false
 | .str _,.non=>some false
 | .ref _,.non=>some false
 | .tup _,.non=>some false
 | .vl _,.non=>some false
 | .exc _,.non=>some false
 | _,_=>none
theorem iu{x y:D}{b:Bool}(h:isD x y=some b):(∃ p q,x = .bl p∧y = .bl q∧b=(p == q))∨(y = .non∧((x = .non∧b=true)∨(x ≠ .non∧b=false))):=by
 cases x<;>cases y<;>simp[isD]at h<;>simp[h]
theorem rH{K:Ms}{H:Hp}{v:V}{x:D}(h:Has K H v x)(n:x ≠ .non):v ≠ .non:=by
 intro e;subst e;cases h;exact n rfl
def gIs(neg:Bool):DR2:=fun x y M R=>∃ b,isD x y=some b∧R (.bl (neg.xor b)) M
theorem Ja:DOp X (compareOp .Is) (gIs false):=by
 intro pins s σ H x y v u Q I rx ry h
 obtain⟨dx,dy,M,R,hx,hy,am,⟨b,e,r⟩,f⟩:=h
 have fin:EP X pins σ Q (.bool b) s:=⟨.bl b,H,I,rfl,by have:=f _ M r (.bl b) H (KT.refl H) am (by simpa using Has.bl (K:=X.K) (H:=H) b);exact this⟩
 rcases iu e with⟨p,q,rfl,rfl,rfl⟩|⟨rfl,hx'⟩
 ·cases hx;cases hy;cases rx;cases ry
  exact is_bool fin
 ·cases hy;cases ry
  refine is_none_gen ?_
  rw[p7.none_iff rx]
  rcases hx' with⟨rfl,rfl⟩|⟨n,rfl⟩
  ·cases hx;exact fin
  ·rw[decide_eq_false (rH hx n)];exact fin
theorem cY:DOp X (compareOp .IsNot) (gIs true):=by
 intro pins s σ H x y v u Q I rx ry h
 obtain⟨dx,dy,M,R,hx,hy,am,⟨b,e,r⟩,f⟩:=h
 have fin:EP X pins σ Q (.bool (!b)) s:=⟨.bl (!b),H,I,rfl,by have:=f _ M r (.bl (!b)) H (KT.refl H) am (by simpa using Has.bl (K:=X.K) (H:=H) (!b));exact this⟩
 rcases iu e with⟨p,q,rfl,rfl,rfl⟩|⟨rfl,hx'⟩
 ·cases hx;cases hy;cases rx;cases ry
  exact isnot_bool fin
 ·cases hy;cases ry
  refine isnot_none_gen ?_
  rw[p7.none_iff rx]
  rcases hx' with⟨rfl,rfl⟩|⟨n,rfl⟩
  ·cases hx;exact fin
  ·rw[decide_eq_false (rH hx n)];exact fin
mutual
inductive PyR (M:Mem):D→PyData→Prop
 | non:PyR M .non .none
 | bl (b:Bool):PyR M (.bl b) (.bool b)
 | int (i:Int):PyR M (.int i) (.int i)
 | str (x:Str):PyR M (.str x) (.str x)
 | tup {ds:List D} {ps:List PyData}:PyRL M ds ps→PyR M (.tup ds) (.tuple ps)
 | lst {p:Addr} {ds:List D} {ps:List PyData}:M p=some (.lst ds)→PyRL M ds ps→PyR M (.ref p) (.list ps)
 | vl {ds:List D} {ps:List PyData}:PyRL M ds ps→PyR M (.vl ds) (.list ps)
inductive PyRL (M:Mem):List D→List PyData→Prop
 | nil:PyRL M [] []
 | cons {d:D} {p:PyData} {ds:List D} {ps:List PyData}:PyR M d p→PyRL M ds ps→PyRL M (d :: ds) (p :: ps)
end
mutual
theorem T8{pins:List (Addr × Obj)}{s:Shared}{σ:St}{H:Hp}{M:Mem}(I:Inv X pins σ H s)(am:m8 X.K H M):∀{d:D} {p:PyData},PyR M d p→∀{v:V} {u:Value},Has X.K H v d→p7 v u→∃ as,Reads s.heap u p as
 | _,_,.non,_,_,h,r=>by cases h;cases r;exact⟨_,.none⟩
 | _,_,.bl b,_,_,h,r=>by cases h;cases r;exact⟨_,.bool b⟩
 | _,_,.int i,_,_,h,r=>by cases h;obtain⟨t,rfl⟩:=r;exact⟨_,.int i t⟩
 | _,_,.str x,_,_,h,r=>by cases h;obtain⟨t,rfl⟩:=r;exact⟨_,.str x t⟩
 | _,_,.tup l,_,_,h,r=>by
  cases h with
  | tup s' hl =>
   cases r
   obtain⟨its,rv,⟨o,e,hc,n,hd⟩,_⟩:=I.tuple s'
   obtain⟨as,ra⟩:=readsL_of I am l hl rv
   exact⟨as,.tuple e hc hd (by simpa using ra)⟩
 | _,_,.lst m l,_,_,h,r=>by
  cases h
  cases r
  obtain⟨xs,hx,hl⟩:=am.lst m
  obtain⟨its,rv,⟨o,n,e,hc,_,hd⟩,_⟩:=I.list (SqL.of hx)
  obtain⟨as,ra⟩:=readsL_of I am l hl rv
  exact⟨_,.list e hc hd (by simpa using ra)⟩
 | _,_,.vl l,_,_,h,r=>by
  obtain⟨a,xs,rfl,sq,hl⟩:=h.il
  cases r
  obtain⟨its,rv,⟨o,n,e,hc,_,hd⟩,_⟩:=I.list sq
  obtain⟨as,ra⟩:=readsL_of I am l hl rv
  exact⟨_,.list e hc hd (by simpa using ra)⟩
theorem readsL_of{pins:List (Addr × Obj)}{s:Shared}{σ:St}{H:Hp}{M:Mem}(I:Inv X pins σ H s)(am:m8 X.K H M):∀{ds:List D} {ps:List PyData},PyRL M ds ps→∀{vs:List V} {us:List Value},HasL X.K H vs ds→j6 vs us→∃ as,ReadsAll s.heap us ps as
 | _,_,.nil,_,_,h,r=>by cases h;cases r;exact⟨_,.nil⟩
 | _,_,.cons a l,_,_,h,r=>by
  cases h with
  | cons h hl =>
   cases r with
   | cons r rl =>
    obtain⟨as,q⟩:=T8 I am a h r
    obtain⟨bs,q2⟩:=readsL_of I am l hl rl
    exact⟨_,.cons q q2⟩
end
def gEq(neg:Bool):DR2:=fun x y M R=>∃ px py,PyR M x px∧PyR M y py∧SeqAt.shaped px=true∧SeqAt.shaped py=true∧R (.bl (neg.xor (PyData.eqv px py))) M
theorem Jb(hu:X.A.units+64<cLine):DOp X (compareOp .Eq) (gEq false):=by
 intro pins s σ H x y v u Q I rx ry h
 obtain⟨dx,dy,M,R,hx,hy,am,⟨px,py,p1,p2,s1,s2,r⟩,f⟩:=h
 obtain⟨as,r1⟩:=T8 I am p1 hx rx
 obtain⟨bs,r2⟩:=T8 I am p2 hy ry
 exact eq_dataH r1 r2 s1 s2 hu ⟨.bl _,H,I,rfl,by have:=f _ M r _ H (KT.refl H) am (.bl _);simpa using this⟩
theorem IZ(hu:X.A.units+64<cLine):DOp X (compareOp .NotEq) (gEq true):=by
 intro pins s σ H x y v u Q I rx ry h
 obtain⟨dx,dy,M,R,hx,hy,am,⟨px,py,p1,p2,s1,s2,r⟩,f⟩:=h
 obtain⟨as,r1⟩:=T8 I am p1 hx rx
 obtain⟨bs,r2⟩:=T8 I am p2 hy ry
 exact ne_dataH r1 r2 s1 s2 hu ⟨.bl _,H,I,rfl,by have:=f _ M r _ H (KT.refl H) am (.bl _);simpa using this⟩
mutual
noncomputable def pyD:D→PyData
 | .int i=>.int i
 | .str x=>.str x
 | .bl b=>.bool b
 | .tup ds=>.tuple (pyDL ds)
 | .vl ds=>.list (pyDL ds)
 | _=>.none
noncomputable def pyDL:List D→List PyData
 | []=>[]
 | d :: r=>pyD d :: pyDL r
end
mutual
noncomputable def cl:Nat→D→Bool
 | _,.int _=>true
 | _,.non=>true
 | _,.str x=>PyData.canLay0 (.str x)
 | k+1,.tup ds=>clL k ds
 | k+1,.vl ds=>clL k ds
 | _,_=>false
noncomputable def clL:Nat→List D→Bool
 | _,[]=>true
 | k,d :: r=>cl k d && clL k r
end
mutual
theorem yf{M:Mem}:∀{k:Nat} {d:D},cl k d=true→PyR M d (pyD d)∧(pyD d).canLay0=true∧(pyD d).depth≤k
 | _,.int i,_=>⟨.int i,rfl,Np _⟩
 | _,.non,_=>⟨.non,rfl,Np _⟩
 | 0,.tup ds,h=>by simp[cl]at h
 | k+1,.tup ds,h=>by
  obtain⟨a,b,c⟩:=clL_py (M:=M) (k:=k) (ds:=ds) (by simpa[cl]using h)
  exact⟨.tup a,by simpa[pyD,PyData.canLay0]using b,by simp only[pyD,PyData.depth];omega⟩
 | _,.str x,h=>⟨.str x,by simpa[cl,pyD]using h,Np _⟩
 | _,.bl _,h=>by simp[cl]at h
 | _,.ref _,h=>by simp[cl]at h
 | 0,.vl ds,h=>by simp[cl]at h
 | k+1,.vl ds,h=>by
  obtain⟨a,b,c⟩:=clL_py (M:=M) (k:=k) (ds:=ds) (by simpa[cl]using h)
  exact⟨.vl a,by simpa[pyD,PyData.canLay0]using b,by simp only[pyD,PyData.depth];omega⟩
 | _,.ty _,h=>by simp[cl]at h
theorem clL_py{M:Mem}:∀{k:Nat} {ds:List D},clL k ds=true→PyRL M ds (pyDL ds)∧PyData.canLayAll0 (pyDL ds)=true∧PyData.depthAll (pyDL ds)≤k
 | _,[],_=>⟨.nil,rfl,Np _⟩
 | k,d :: r,h=>by
  have h':cl k d=true∧clL k r=true:=by simpa[clL]using h
  obtain⟨a,b,c⟩:=yf (M:=M) h'.1
  obtain⟨a2,b2,c2⟩:=clL_py (M:=M) h'.2
  exact⟨.cons a a2,by simp[pyDL,PyData.canLayAll0,b,b2],by simp only[pyDL,PyData.depthAll];omega⟩
end
mutual
theorem yg:∀{k j:Nat} {x y:D},cl k x=true→cl j y=true→(PyData.eqv (pyD x) (pyD y)=true↔x=y)
 | _,_,.int i,.int j,_,_=>by simp[pyD,PyData.eqv]
 | _,_,.int i,.non,_,_=>by simp[pyD,PyData.eqv]
 | _,_,.non,.int i,_,_=>by simp[pyD,PyData.eqv]
 | _,_,.non,.non,_,_=>by simp[pyD,PyData.eqv]
 | _,_,.int i,.tup ds,_,_=>by simp[pyD,PyData.eqv]
 | _,_,.non,.tup ds,_,_=>by simp[pyD,PyData.eqv]
 | _,_,.tup ds,.int i,_,_=>by simp[pyD,PyData.eqv]
 | _,_,.tup ds,.non,_,_=>by simp[pyD,PyData.eqv]
 | k+1,j+1,.tup ds,.tup es,h,h'=>by
  have:=clL_eqv (k:=k) (j:=j) (xs:=ds) (ys:=es) (by simpa[cl]using h) (by simpa[cl]using h')
  simp only[pyD,PyData.eqv,D.tup.injEq]
  exact this
 | 0,_,.tup ds,.tup es,h,_=>by simp[cl]at h
 | _,0,.tup ds,.tup es,_,h=>by simp[cl]at h
 | _,_,.str x,.str y,_,_=>by simp[pyD,PyData.eqv]
 | _,_,.str x,.int i,_,_=>by simp[pyD,PyData.eqv]
 | _,_,.str x,.non,_,_=>by simp[pyD,PyData.eqv]
 | _,_,.str x,.tup ds,_,_=>by simp[pyD,PyData.eqv]
 | _,_,.int i,.str x,_,_=>by simp[pyD,PyData.eqv]
 | _,_,.non,.str x,_,_=>by simp[pyD,PyData.eqv]
 | _,_,.tup ds,.str x,_,_=>by simp[pyD,PyData.eqv]
 | k+1,j+1,.vl ds,.vl es,h,h'=>by
  have:=clL_eqv (k:=k) (j:=j) (xs:=ds) (ys:=es) (by simpa[cl]using h) (by simpa[cl]using h')
  simp only[pyD,PyData.eqv,D.vl.injEq]
  exact this
 | 0,_,.vl ds,.vl es,h,_=>by simp[cl]at h
 | _,0,.vl ds,.vl es,_,h=>by simp[cl]at h
 | _,_,.vl ds,.int i,_,_=>by simp[pyD,PyData.eqv]
 | _,_,.vl ds,.non,_,_=>by simp[pyD,PyData.eqv]
 | _,_,.vl ds,.str x,_,_=>by simp[pyD,PyData.eqv]
 | _,_,.vl ds,.tup es,_,_=>by simp[pyD,PyData.eqv]
 | _,_,.int i,.vl ds,_,_=>by simp[pyD,PyData.eqv]
 | _,_,.non,.vl ds,_,_=>by simp[pyD,PyData.eqv]
 | _,_,.str x,.vl ds,_,_=>by simp[pyD,PyData.eqv]
 | _,_,.tup es,.vl ds,_,_=>by simp[pyD,PyData.eqv]
 | _,_,.bl _,_,h,_=>by simp[cl]at h
 | _,_,.ref _,_,h,_=>by simp[cl]at h
 | _,_,.ty _,_,h,_=>by simp[cl]at h
 | _,_,_,.bl _,_,h=>by simp[cl]at h
 | _,_,_,.ref _,_,h=>by simp[cl]at h
 | _,_,_,.ty _,_,h=>by simp[cl]at h
theorem clL_eqv:∀{k j:Nat} {xs ys:List D},clL k xs=true→clL j ys=true→(PyData.eqvAll (pyDL xs) (pyDL ys)=true↔xs=ys)
 | _,_,[],[],_,_=>by simp[pyDL,PyData.eqvAll]
 | _,_,[],_ :: _,_,_=>by simp[pyDL,PyData.eqvAll]
 | _,_,_ :: _,[],_,_=>by simp[pyDL,PyData.eqvAll]
 | k,j,x :: xs,y :: ys,h,h'=>by
  have h1:cl k x=true∧clL k xs=true:=by simpa[clL]using h
  have h2:cl j y=true∧clL j ys=true:=by simpa[clL]using h'
  have e1:=yg h1.1 h2.1
  have e2:=clL_eqv h1.2 h2.2
  simp only[pyDL,PyData.eqvAll,Na,e1,e2,List.cons.injEq]
end
open Classical in
theorem xB{neg:Bool}{x y:D}{M:Mem}{R:DK}(h:R (.bl (neg.xor (decide (x=y)))) M)(hx:cl 60 x=true:=by rfl)(hy:cl 60 y=true:=by rfl):gEq neg x y M R:=by
 obtain⟨a,b,c⟩:=yf (M:=M) hx
 obtain⟨a2,b2,c2⟩:=yf (M:=M) hy
 refine⟨_,_,a,a2,?_,?_,?_⟩
 ·simp only[SeqAt.shaped,b,Nb];exact decide_eq_true (by omega)
 ·simp only[SeqAt.shaped,b2,Nb];exact decide_eq_true (by omega)
 ·have e:PyData.eqv (pyD x) (pyD y)=decide (x=y):=by
   have:=yg hx hy
   by_cases q:x=y
   ·rw[decide_eq_true q];exact this.mpr q
   ·rw[decide_eq_false q]
    cases z:PyData.eqv (pyD x) (pyD y)with
    | false=>rfl
    | true=>exact absurd (this.mp z) q
  rw[e];exact h
noncomputable def tyD(M:Mem):D→Option String
 | .non=>some "NoneType"
 | .bl _=>some "bool"
 | .int _=>some "int"
 | .str _=>some "str"
 | .tup _=>some "tuple"
 | .ref p=>match M p with
  | some (.lst _)=>some "list"
  | _=>none
 | .vl _=>some "list"
 | .ty _=>none
 | .dic=>some "dict"
 | .exc _=>none
noncomputable def Aa(t T:String):Option Bool:=if t=T then some true else
 match t,T with
 | "bool","int" => some true
 | _,_=>if (t∈["NoneType","bool","int","str","tuple","list","dict"])∧(T∈["bool","int","str","tuple","list"])then some false else none
def yt(K:Ms):Prop:=∀ t T b,Aa t T=some b→PySem.W.kitOne K (.type t) (.type T)=some b
theorem U2{x:Str}{n:String}(hg:Gl X x)(hm:X.mg x=none)(hv:bootBuiltins x=some (.type n))(hn:x ≠ "__name__" := by decide)(hd:(x == ("__debug__" : Str))=false:=by decide):JE X (.Name x pos) (dC (.ty n)):=⟨W8 (v:=.ty n) (AM hg hm hv rfl hn hd) fun _=>.ty n⟩
def B3:DRC:=fun ds M R=>∃ d t T b,ds=[d,.ty T]∧tyD M d=some t∧Aa t T=some b∧R (.bl b) M
theorem U7(hk:yt X.K):V2 X (.builtin "isinstance") B3:=by
 intro pins s σ H xs us Q I rv h
 obtain⟨ds,M,R,hl,am,⟨d,t,T,b,rfl,ht,hb,r⟩,f⟩:=h
 obtain⟨v,v',rfl,h1,h2⟩:=hl.two
 cases h2
 obtain⟨u,w',rfl,r1,r2⟩:=vg rv
 cases(show w'=Value.type T from r2)
 have e:=hk t T b hb
 have fin:∀ tk,EP X pins σ Q (.bool b) { s with toks:=tk }:=fun tk=>⟨.bl b,H,I.tok tk,rfl,f _ M r _ H (KT.refl H) am (.bl b)⟩
 cases h1 with
 | non=>cases ht;exact O0 I r1 .non e fin
 | bl q=>cases ht;exact O0 I r1 (.bl q) e fin
 | int q=>cases ht;exact O0 I r1 (.int q) e fin
 | str q=>cases ht;exact O0 I r1 (.str q) e fin
 | ty q=>cases ht
 | ref p =>
  unfold tyD at ht
  cases q:M p with
  | none=>simp[q]at ht
  | some o =>
   cases o with
   | lst es =>
    simp only[q]at ht
    cases ht
    obtain⟨ys,hy,_⟩:=am.lst q
    exact O0 I r1 (.lst hy) e fin
   | ins C fs=>simp[q]at ht
 | tup s' l =>
  cases ht
  cases(show u=Value.ref _ from r1)
  obtain⟨its,_,⟨o,h1,h2,_⟩,_⟩:=I.tuple s'
  exact PySem.W.kia_one PySem.W.kitx_tuple I.kIn ⟨o,h1,h2⟩ e (fun z=>nomatch z) fin
 | vl hq hl' =>
  cases ht
  cases(show u=Value.ref _ from r1)
  obtain⟨_,_,ea,sq,_⟩:=Has.il (.vl hq hl')
  cases ea
  obtain⟨its,_,⟨o,n,h1,h2,_⟩,_⟩:=I.list sq
  exact PySem.W.kia_one PySem.W.kitx_list I.kIn ⟨o,h1,h2⟩ e (fun z=>nomatch z) fin
 | dic hq =>
  cases ht
  cases(show u=Value.ref _ from r1)
  obtain⟨o,g1,g2⟩:=hq
  exact PySem.W.kia_one PySem.W.kitx_dict I.kIn ⟨o,(I.hok _ _ g1).1,g2⟩ e (fun z=>nomatch z) fin
 | exc hq=>cases ht
theorem Bf:MtR X "int.bit_length" (fun x xs H Q=>∃ i,x = .int i∧xs=[]∧Q (.int (Builtin.Int.intBits i:Nat)) H):=by
 intro pins s σ H x xs v us Q I rx rv h
 obtain⟨i,rfl,rfl,q⟩:=h
 cases rv
 obtain⟨t,rfl⟩:=rx
 exact call_int_bit_length ⟨.int _,H,I.tok _,⟨_,rfl⟩,q⟩
end
section
variable {X:Cx} {a b c:Expr} {ta tb tc:DTE} {pos:Pos}
def Y0:DXK:=fun _ _=>False
theorem Jn{K:Ms}{H:Hp}{E:XK}:FO K H Y0 E:=fun _ _ h=>h.elim
structure BU(K:Ms)(x:Str)(st:Stmt)(f:Addr)(fd:FuncData):Prop where
 ex:∃(oc:Value) (od:Option Addr) (dV kV doc pm:Value) (an:Option Addr) (cdv ct:Value) (osl:Array (Option Value)),
  fd=PySem.W.fnOf x x (R4 st) (J2 st) (e6 st) dV kV doc pm an cdv ct∧K.lookup f=some ⟨oc,od,.func fd,osl⟩∧PySem.W.codeIn K cdv x=true
 kp:PySem.W.keepIn K (.ref f)=true
structure Df(K:Ms)(mg:Str→Option Value)(x:Str)(st:Stmt)(ps:List Str):Prop where
 ex:∃(f:Addr) (fd:FuncData),BU K x st f fd∧mg x=some (.ref f)∧fc K fd ps []
structure DfL(K:Ms)(mg:Str→Option Value)(x:Str)(st:Stmt)(ps:List Str):Prop where
 ex:∃(f:Addr) (fd:FuncData),BU K x st f fd∧mg x=some (.ref f)∧∀ us:List Value,us.length=ps.length→bindArgs fd ⟨us,[]⟩=pure (ps.zip us)
structure Fn(P:Program)(w:World)(K:Ms)(mg:Str→Option Value)(base:Heap)(x:Str)(k:Nat)(ps:List Str)(sp:DSp):Prop where
 ex:∃(f:Addr) (fd:FuncData),S1 P w K mg base CX0 k f fd ps (mh K sp)∧mg x=some (.ref f)∧PySem.W.keepIn K (.ref f)=true∧fc K fd ps []
theorem xp{x:Str}{j:Nat}{ps:List Str}{sp:DSp}{p:Pos}{e:Expr}{es:List Expr}{t:DTA}(G:Fn X.prog X.w X.K X.mg X.base x j ps sp)(hr:G6 j X.A)(hg:Gl X x)(ha:JA X (e :: es) t)
  (hdb:(x == ("__debug__" : Str))=false:=by decide) (he:starEach (e :: es) X.env=(false,eval e X.env) :: starEach es X.env:=by rfl) (hpl:(backTo pos (starEach es X.env)).any (·.1)=false:=by rfl):JE X (.Call (.Name x p) (e :: es) [] pos) (nJ sp [] Y0 t):=⟨have ha:=ha.out;by
 obtain⟨f,fd,F,hm,hk,hb⟩:=G.ex
 exact Ft F hr hg hm hk hb .nil (fun _=>.nil) Hg (fun _=>Jn) ha hdb he hpl⟩
end
section
variable {P:Program} {w:World} {K:Ms} {mg:Str→Option Value} {base:Heap}
theorem Dg{x:Str}{st:Stmt}{f:Addr}{fd:FuncData}{N ps:List Str}{k:Nat}{sp:DSp}(F:BU K x st f fd)(S:e9 N ps (e6 st))(len:∀ ds M R Y,sp ds M R Y→ds.length=ps.length)
  (hbody:∀(cdv:Value) (A:Around) (outer:List Env) (s:Shared) (H:Hp) (E:XK) (ds:List D) (M:Mem) (R:DK) (Y:DXK),G6 k (A.deeper (envOfC x (e6 st) s.heap.objs.size f cdv))→sp ds M R Y →
   ∃ t,JSs (pP CX0 P w K mg base N x (e6 st) f cdv A outer s H E).nox (J2 st) t∧t { nx:=fun _ M'=>R .non M',rt:=R } (U5 N ds) M):S1 P w K mg base CX0 (k+1) f fd ps (mh K sp):=by
 obtain⟨oc,od,dV,kV,doc,pm,an,cdv,ct,osl,rfl,lk,hcd⟩:=F.ex
 refine HL lk hcd S (fun vs H Q E ⟨ds,M,R,Y,hl,_,hs,_,_⟩=>by rw[hl.length];exact len ds M R Y hs) fun A outer s H vs Q E hr zz=>?_
 obtain⟨ds,M,R,Y,hl,am,hs,fv,fx⟩:=zz
 obtain⟨t,h1,h2⟩:=hbody cdv A outer s H E ds M R Y hr hs
 refine⟨_,h1.out.nox,U5 N ds,M,_,A0.start0 hl,am,h2,⟨?_,fv,fun _ _ h=>h.elim,fun _ _ h=>h.elim⟩⟩
 exact fun e M' h σ' H' kt a o=>fv .non M' h .non H' kt a .non
theorem h7{x:Str}{st:Stmt}{N ps:List Str}{k:Nat}{sp:DSp}(d:Df K mg x st ps)(S:e9 N ps (e6 st))(len:∀ ds M R Y,sp ds M R Y→ds.length=ps.length)
  (hbody:∀(f:Addr) (cdv:Value) (A:Around) (outer:List Env) (s:Shared) (H:Hp) (E:XK) (ds:List D) (M:Mem) (R:DK) (Y:DXK),G6 k (A.deeper (envOfC x (e6 st) s.heap.objs.size f cdv))→sp ds M R Y →
   ∃ t,JSs (pP CX0 P w K mg base N x (e6 st) f cdv A outer s H E).nox (J2 st) t∧t { nx:=fun _ M'=>R .non M',rt:=R } (U5 N ds) M):Fn P w K mg base x (k+1) ps sp:=by
 obtain⟨f,fd,F,hm,hb⟩:=d.ex
 exact⟨f,fd,Dg F S len (hbody f),hm,F.kp,hb⟩
theorem i4{x:Str}{st:Stmt}{ps:List Str}{h:Heap}{f:Addr}{oc:Value}{od an:Option Addr}{osl:Array (Option Value)}{dV kV doc pm cdv ct:Value}(X:K.In h)(G:h.Ns mainGlobals mg)
  (n:PySem.W.nsIn K mainGlobals x=some (some (.ref f)))
  (l:K.lookup f=some ⟨oc,od,.func (PySem.W.fnOf x x (R4 st) (J2 st) (e6 st) dV kV doc pm an cdv ct),osl⟩)
  (c:PySem.W.codeIn K cdv x=true) (k:PySem.W.keepIn K (.ref f)=true)
  (hb:∀ us:List Value,us.length=ps.length→bindArgs (PySem.W.fnOf x x (R4 st) (J2 st) (e6 st) dV kV doc pm an cdv ct) ⟨us,[]⟩=pure (ps.zip us)):Df K mg x st ps :=
 ⟨f,_,⟨⟨oc,od,dV,kV,doc,pm,an,cdv,ct,osl,rfl,l,c⟩,k⟩,PySem.W.mg_of X G n,.all hb⟩
theorem Fo{x:Str}{st:Stmt}{ps:List Str}{h:Heap}{f:Addr}{oc:Value}{od an:Option Addr}{osl:Array (Option Value)}{dV kV doc pm cdv ct:Value}(X:K.In h)(G:h.Ns mainGlobals mg)
  (n:PySem.W.nsIn K mainGlobals x=some (some (.ref f)))
  (l:K.lookup f=some ⟨oc,od,.func (PySem.W.fnOf x x (R4 st) (J2 st) (e6 st) dV kV doc pm an cdv ct),osl⟩)
  (c:PySem.W.codeIn K cdv x=true) (k:PySem.W.keepIn K (.ref f)=true)
  (hb:∀ us:List Value,us.length=ps.length→bindArgs (PySem.W.fnOf x x (R4 st) (J2 st) (e6 st) dV kV doc pm an cdv ct) ⟨us,[]⟩=pure (ps.zip us)):DfL K mg x st ps :=
 ⟨f,_,⟨⟨oc,od,dV,kV,doc,pm,an,cdv,ct,osl,rfl,l,c⟩,k⟩,PySem.W.mg_of X G n,hb⟩
theorem Fp{x:Str}{st:Stmt}{ps:List Str}{h:Heap}{f:Addr}{oc:Value}{od an:Option Addr}{osl:Array (Option Value)}{dV kV doc pm cdv ct:Value}(X:K.In h)(G:h.Ns mainGlobals mg)
  (n:PySem.W.nsIn K mainGlobals x=some (some (.ref f)))
  (l:K.lookup f=some ⟨oc,od,.func (PySem.W.fnOf x x (R4 st) (J2 st) (e6 st) dV kV doc pm an cdv ct),osl⟩)
  (c:PySem.W.codeIn K cdv x=true) (k:PySem.W.keepIn K (.ref f)=true)
  (hb:∀ us:List Value,us.length=ps.length→∀ S,PySem.W.peek K S (bindArgs (PySem.W.fnOf x x (R4 st) (J2 st) (e6 st) dV kV doc pm an cdv ct) ⟨us,[]⟩)=some (ps.zip us)):Df K mg x st ps :=
 ⟨f,_,⟨⟨oc,od,dV,kV,doc,pm,an,cdv,ct,osl,rfl,l,c⟩,k⟩,PySem.W.mg_of X G n,fun s us X' hl=>by rw[OA]at hl ⊢;exact PySem.W.kp_binds X' (hb us hl)⟩
end
section
variable {X:Cx} {x:Str} {p pos:Pos} {e:Expr} {es:List Expr} {t:DTA} {id T:String} {o:Expr} {to:DTE} {a b c:Expr} {ta tb tc:DTE}
theorem i0{g:DRC}(hc:V2 X (.builtin id) g)(hg:Gl X x)(hm:X.mg x=none)(hv:bootBuiltins x=some (.builtin id))(ha:JA X (e :: es) t)
  (hn:x ≠ "__name__" := by decide) (hdb:(x == ("__debug__" : Str))=false:=by decide) (he:starEach (e :: es) X.env=(false,eval e X.env) :: starEach es X.env:=by rfl) (hpl:(backTo pos (starEach es X.env)).any (·.1)=false:=by rfl):JE X (.Call (.Name x p) (e :: es) [] pos) (dCB g t):=⟨have ha:=ha.out;(wG hc hg hm hv ha hn hdb he hpl).imp fun _ _ _ h=>Dx h⟩
theorem Bs{g:DRC}(hc:V2 X (.type T) g)(hg:Gl X x)(hm:X.mg x=none)(hv:bootBuiltins x=some (.type T))(ha:JA X (e :: es) t)
  (hn:x ≠ "__name__" := by decide) (hdb:(x == ("__debug__" : Str))=false:=by decide) (he:starEach (e :: es) X.env=(false,eval e X.env) :: starEach es X.env:=by rfl) (hpl:(backTo pos (starEach es X.env)).any (·.1)=false:=by rfl):JE X (.Call (.Name x p) (e :: es) [] pos) (dCB g t):=⟨have ha:=ha.out;(ig hc hg hm hv ha hn hdb he hpl).imp fun _ _ _ h=>Dx h⟩
noncomputable def HJ:D→Mem→DK→Prop:=fun x M R=>∃ i,x = .int i∧R (.int (Builtin.Int.intBits i:Nat)) M
theorem Bt{apos cpos:Pos}(ho:JE X o to)(hbase:attributeBase o "bit_length" X.env (eval o X.env)=eval o X.env:=by rfl)(hline:(apos.endLine == cpos.line)=true:=by rfl):JE X (.Call (.Attribute o "bit_length" apos) [] [] cpos) (dUn HJ to):=⟨have ho:=ho.out;(EK PySem.F.plainAttrs_int PySem.F.slot_int_bit_length PySem.F.type_int_bit_length Bf ho hbase hline).imp (by rintro σ H Q ⟨e,M,R,ok,am,t,f⟩;exact⟨e,M,_,ok,am,t,fun x M1 ⟨i,z,r⟩ v H1 k1 a1 r1=>by
  subst z;cases r1;exact⟨rfl,i,rfl,rfl,f _ M1 r _ H1 k1 a1 (.int _)⟩⟩)⟩
theorem AR:OpR X (binaryOp .Add) (fun x y H Q=>∃ l b xs zs,x = .ref l∧y = .ref b∧SqL X.K H l xs∧SqL X.K H b zs∧xs.length+zs.length≤sizeLine∧∀ p,H p=none→Q (.ref p) (upd H p (.lst (xs++zs)))):=by
 intro pins s σ H x y v u Q I rx ry h
 obtain⟨l,b,xs,zs,rfl,rfl,hH,hB,hz,q⟩:=h
 cases rx
 cases ry
 obtain⟨its,r,pl,z1⟩:=I.list hH
 obtain⟨its2,r2,pl2,z2⟩:=I.list hB
 have hl:=r.length
 have hl2:=r2.length
 obtain⟨⟨cls,dd,data,sl⟩,ho,hc,n,hd⟩:=pl.isList
 obtain⟨⟨cls2,dd2,data2,sl2⟩,ho2,hc2,n2,hd2⟩:=pl2.isList
 simp only at hc hd hc2 hd2
 subst hc hd hc2 hd2
 have ea:its.toArray++its2.toArray=(its++its2).toArray:=by simp
 refine concat_meets ⟨_,ho,rfl⟩ ⟨_,ho2,rfl⟩ noFill_list_add seq_list_add PySem.F.slot_list_add PySem.F.entry_list_add (PySem.F.args_list_add_2 _ _) (list_addW l b its.toArray its2.toArray n n2 dd dd2 sl sl2 (by simp only[MJ];omega)) ⟨ho,ho2,?_⟩
 rw[ea]
 exact⟨.ref _,_,I.lnew (t':=s.toks) (r.append r2) (by rw[Nu];omega),rfl,q _ I.fresh⟩
noncomputable def G5(M:Mem):D→Option (List D)
 | .ref p=>match M p with
  | some (.lst ds)=>some ds
  | _=>none
 | .vl ds=>some ds
 | _=>none
theorem w6{K:Ms}{H:Hp}{M:Mem}{v:V}{d:D}{ds:List D}(am:m8 K H M)(h:Has K H v d)(e:G5 M d=some ds):∃ a xs,v = .ref a∧SqL K H a xs∧HasL K H xs ds:=by
 cases h with
 | ref p =>
  unfold G5 at e
  cases q:M p with
  | none=>simp[q]at e
  | some o =>
   cases o with
   | lst es =>
    simp only[q]at e
    cases e
    obtain⟨xs,hx,l⟩:=am.lst q
    exact⟨p,xs,rfl,SqL.of hx,l⟩
   | ins C fs=>simp[q]at e
 | vl hq hl =>
  cases e
  exact Has.il (.vl hq hl)
 | _=>cases e
end
theorem sl(n:Nat)(h:n≤1000:=by decide):n≤sizeLine:=ME h (by decide)
section
variable {X:Cx}
open Classical in
def Fj(neg:Bool):DR2:=fun x y M R=>cl 60 x=true∧cl 60 y=true∧R (.bl (neg.xor (decide (x=y)))) M
theorem X9(hu:X.A.units+64<cLine):DOp X (compareOp .Eq) (Fj false):=OpR.imp (Jb hu) (by rintro _ _ _ _ ⟨dx,dy,M,R,hx,hy,am,⟨h1,h2,h3⟩,f⟩;exact⟨dx,dy,M,R,hx,hy,am,xB h3 h1 h2,f⟩)
theorem mZ(hu:X.A.units+64<cLine):DOp X (compareOp .NotEq) (Fj true):=OpR.imp (IZ hu) (by rintro _ _ _ _ ⟨dx,dy,M,R,hx,hy,am,⟨h1,h2,h3⟩,f⟩;exact⟨dx,dy,M,R,hx,hy,am,xB h3 h1 h2,f⟩)
theorem A2:DOp X (compareOp .Eq) (gF (fI fun i j=>.bl (decide (i=j)))):=OpR.imp CW (by
 rintro x y H Q ⟨dx,dy,M,R,hx,hy,am,⟨z,e,r⟩,f⟩
 obtain⟨i,j,e1,e2,e3⟩:=kC e
 subst e1;subst e2;subst e3
 cases hx;cases hy
 refine⟨rfl,?_⟩
 have e:decide (V.int i=V.int j)=decide (i=j):=by simp
 rw[e]
 exact f _ M r _ H (KT.refl H) am (.bl _))
theorem wQ:DOp X (compareOp .NotEq) (gF (fI fun i j=>.bl (!decide (i=j)))):=OpR.imp wH (by
 rintro x y H Q ⟨dx,dy,M,R,hx,hy,am,⟨z,e,r⟩,f⟩
 obtain⟨i,j,e1,e2,e3⟩:=kC e
 subst e1;subst e2;subst e3
 cases hx;cases hy
 refine⟨rfl,?_⟩
 have e:decide (V.int i=V.int j)=decide (i=j):=by simp
 rw[e]
 exact f _ M r _ H (KT.refl H) am (.bl _))
end
theorem xr{c:Prop}[Decidable c]{A B:Prop}(h1:c→A)(h2:¬ c→B):if decide c=true then A else B:=by
 by_cases h:c
 ·rw[if_pos (decide_eq_true h)];exact h1 h
 ·rw[if_neg (by rw[decide_eq_false h];exact MF)];exact h2 h
theorem Hx{c:Prop}[Decidable c]{A B:Prop}(h1:¬ c→A)(h2:c→B):if (!decide c)=true then A else B:=by
 by_cases h:c
 ·rw[decide_eq_true h];rw[if_neg (by decide)];exact h2 h
 ·rw[decide_eq_false h];rw[if_pos (by decide)];exact h1 h
theorem K7{n k:Nat}(h:n<2 ^ k)(hk:0<k):n.log2<k:=by
 rcases Qp n with h0|h0
 ·subst h0;rw[Nat.log2_zero];exact hk
 ·exact(Qg (Qh.mp h0)).mpr h
theorem j3{a b:Int}(m n:Nat)(ha:a.natAbs<2 ^ m)(hb:b.natAbs<2 ^ n)(h:m+n≤100000):IntMulOk a b:=by
 have hx:∀(x:Int) (k:Nat),x.natAbs<2 ^ k→Builtin.Int.intBits x≤k:=fun x k hx=>by
  unfold Builtin.Int.intBits
  split
  ·exact Np _
  ·rename_i h0
   have:x.natAbs≠0:=by
    intro z;apply h0
    first|exact(by simpa using Int.natAbs_eq_zero.mp z)|(simp;omega)
   have:=(Qg this).mpr hx
   omega
 exact PySem.IntMulOk.of_le (hx a m ha) (hx b n hb) (by omega)
noncomputable def Jf(t T:String):Option Bool:=if PySem.W.kitMeta T=true then(fastBuiltinMro t).map (·.contains (.type T))else none
theorem GQ(K:Ms):yt K:=by
 intro t T b h
 unfold Aa at h
 by_cases e:t=T
 ·subst e
  rw[if_pos rfl]at h
  cases h
  unfold PySem.W.kitOne
  rw[if_pos (beq_self_eq_true _)]
 ·rw[if_neg e]at h
  have hne:¬ (Value.type t == Value.type T)=true:=fun z=>e (by have:=eq_of_beq z;injection this)
  unfold PySem.W.kitOne
  rw[if_neg hne]
  show Jf t T=some b
  split at h
  ·cases h;decide +kernel
  ·split at h
   ·rename_i hh
    obtain⟨ht,hT⟩:=hh
    simp only[Mv,MG,or_false]at ht hT
    cases h
    rcases ht with rfl|rfl|rfl|rfl|rfl|rfl|rfl<;>rcases hT with rfl|rfl|rfl|rfl|rfl<;>first|exact absurd rfl e|decide +kernel|(exfalso;simp_all)
   ·cases h
theorem pJ{K:Ms}{H:Hp}{a:Addr}{ns:List Int}(hO:tR H)(hS:SqL K H a (ns.map V.int)):Has K H (.ref a) (.vl (ns.map D.int)):=by
 rcases hS with(h|⟨o,h⟩)|h
 ·rcases hO a with z|⟨o,xs,z⟩
  ·rw[z]at h;cases h
  ·rw[z]at h;cases h
 ·exact .vl (.inl ⟨o,h⟩) (HasL.ints ns)
 ·exact .vl (.inr fun _=>.inr h) (HasL.ints ns)
theorem EY{K:Ms}{H:Hp}{a:Addr}{ns:List Int}{sp:DSp}(hO:tR H)(hS:SqL K H a (ns.map V.int))(h:sp [.vl (ns.map D.int)] (fun _=>none) (fun d _=>d = .bl true) Y0) :
  mh K sp [.ref a] H (fun v _=>v = .bl true) (fun _ _ _=>False) :=
 ⟨[.vl (ns.map D.int)],fun _=>none,fun d _=>d = .bl true,Y0,.cons (pJ hO hS) .nil,fun _ _ z=>(by cases z),h,fun d M' e v H' _ _ hv=>by subst e;cases hv;rfl,fun _ _ z=>z.elim⟩
section
variable {X:Cx} {o e:Expr} {es:List Expr} {to:DTE} {t:DTA} {name:Str} {apos cpos:Pos} {id:String}
noncomputable abbrev DRM:=D→List D→Mem→DK→Prop
noncomputable def upM(K:Ms)(g:DRM):V→List V→Hp→VK→Prop:=fun x xs H Q=>∃ dx ds M R,Has K H x dx∧HasL K H xs ds∧m8 K H M∧g dx ds M R∧fb K H R Q
def DMt(X:Cx)(id:String)(g:DRM):Prop:=MtR X id (upM X.K g)
theorem MtR.imp{r r':V→List V→Hp→VK→Prop}(h:MtR X id r)(i:∀ x xs H Q,r' x xs H Q→r x xs H Q):MtR X id r':=fun pins s σ H x xs v us Q I rx rv q=>h pins s σ H x xs v us Q I rx rv (i x xs H Q q)
def dLM(g:DRM)(to:DTE)(t:DTA):DTE:=fun e M R=>to e M fun x M1=>(∃ l ds,x = .ref l∧M1 l=some (.lst ds))∧t e M1 fun xs M2=>g x xs M2 R
theorem nv{g:DRM}(slot:Slot "list" name id)(hty:typeOf (.builtin id)=pure (.type "method_descriptor"))(hm:DMt X id g)(ho:JE X o to)(ha:JA X (e :: es) t)
  (hbase:attributeBase o name X.env (eval o X.env)=eval o X.env:=by rfl)
  (hfew:((backTo cpos (starEach (e :: es) X.env)).all (fun x=>!x.1) && (backToKw cpos (keywordEach [] X.env)).all (fun x=>x.1.isSome)
   && decide ((e :: es).length+([]:List Keyword).length+(if ([]:List Keyword).isEmpty then 0 else 1)<30))=true:=by rfl)
  (hline:(apos.endLine == cpos.line)=true:=by rfl) (hs:starEach (e :: es) X.env=(false,eval e X.env) :: starEach es X.env:=by rfl) (hplain:(backTo cpos (starEach es X.env)).any (·.1)=false:=by rfl):JE X (.Call (.Attribute o name apos) (e :: es) [] cpos) (dLM g to t):=⟨have ho:=ho.out;have ha:=ha.out;(He PySem.F.plainAttrs_list slot hty hm ho ha hbase hfew hline hs hplain).imp (by rintro σ H Q ⟨e,M,R,ok,am,t,f⟩;exact⟨e,M,_,ok,am,t,fun x M1 ⟨⟨l,ds,z,hM⟩,h1⟩ v H1 k1 a1 r1=>by
  subst z
  have r1':=r1
  cases r1
  obtain⟨xs,hx,_⟩:=a1.lst hM
  refine⟨.inl ⟨rfl,xs,SqL.of hx⟩,e,M1,_,ok.mono k1,a1,h1,fun zs M2 h2 vs H2 k2 a2 r2=>?_⟩
  exact⟨_,zs,M2,R,r1'.mono k2,r2,a2,h2,f.mono (k1.trans k2)⟩⟩)⟩
theorem Y5:∀{bs:List Bool} {us:List Value},j6 (bs.map V.bl) us→us=bs.map Value.bool
 | [],_,r=>by cases r;rfl
 | b :: bs,_,r=>by
  cases r with
  | cons r rr =>
   cases(show _=Value.bool b from r)
   rw[Y5 rr];rfl
theorem HasL.bools{K:Ms}{H:Hp}:∀{bs:List Bool} {vs:List V},HasL K H vs (bs.map D.bl)→vs=bs.map V.bl
 | [],_,r=>by cases r;rfl
 | b :: bs,_,r=>by
  cases r with
  | cons r rr=>cases r;rw[HasL.bools rr];rfl
noncomputable def fB(f:Bool→Bool→D):D→D→Option D
 | .bl i,.bl j=>some (f i j)
 | _,_=>none
theorem BA{f:Bool→Bool→D}{x y z:D}(h:fB f x y=some z):∃ i j,x = .bl i∧y = .bl j∧z=f i j:=by
 cases x with
 | bl i =>
  cases y with
  | bl j=>exact⟨i,j,rfl,rfl,(Option.some.inj h).symm⟩
  | _=>cases h
 | _=>cases h
theorem Hn:DOp X (compareOp .NotEq) (gF (fB fun i j=>.bl (!(i == j)))):=OpR.imp wH (by
 rintro x y H Q ⟨dx,dy,M,R,hx,hy,am,⟨z,e,r⟩,f⟩
 obtain⟨i,j,e1,e2,e3⟩:=BA e
 subst e1;subst e2;subst e3
 cases hx;cases hy
 exact⟨rfl,by rw[pM];exact f _ M r _ H (KT.refl H) am (.bl _)⟩)
end
section
variable {X:Cx}
def Dd:DRC:=fun ds M R=>∃ x ys,ds=[x]∧G5 M x=some ys∧R (.tup ys) M
theorem Fx:V2 X (.type "tuple") Dd:=v9.imp fX (by
 rintro xs H Q ⟨ds,M,R,hl,am,⟨x,ys,z,e,r⟩,f⟩
 subst z
 obtain⟨v,rfl,hv⟩:=hl.one
 obtain⟨a,vs,rfl,s,l⟩:=w6 am hv e
 exact⟨a,vs,rfl,.inl ⟨s,fun p hp=>f _ M r _ _ (KT.alloc hp) (am.alloc hp) (.tup (SqT.of i7) (l.mono (KT.alloc hp)))⟩⟩)
end
section
variable {X:Cx} {st:Stmt} {G0:List Stmt} {t u:DTS}
def Dn(t u:DTS):DTS:=fun F e M=>∃ P:Ev→Mem→Prop,t { F with nx:=P } e M∧∀ e' M',P e' M'→u F e' M'
theorem N9(h1:JS X st t)(h2:JSs X G0 u):JSs X (st :: G0) (Dn t u):=⟨have h1:=h1.out;have h2:=h2.out;(mO h1 h2).imp (by rintro E σ H ⟨e,M,F,ok,am,⟨P,t,hP⟩,f⟩;exact⟨e,M,{ F with nx:=P },ok,am,t,⟨fun e' M' h σ' H' k a o=>⟨e',M',F,o,a,hP e' M' h,f.mono k⟩,f.rt,f.bk,f.ct⟩⟩)⟩
end
section
variable {X:Cx}
theorem sT(bs:List Bool):(NO bs.length).all (fun i=>bs.getD i true)=bs.all id:=by
 have:(NO bs.length).map (fun i=>bs.getD i true)=bs:=by
  apply QJ (by simp)
  intro i h1 h2
  simp[MW,h2]
 conv=>rhs;rw[← this]
 rw[Pe];rfl
theorem sS(bs:List Bool):(NO bs.length).any (fun i=>bs.getD i true)=bs.any id:=by
 have:(NO bs.length).map (fun i=>bs.getD i true)=bs:=by
  apply QJ (by simp)
  intro i h1 h2
  simp[MW,h2]
 conv=>rhs;rw[← this]
 rw[QE];rfl
theorem bY{prog:Program}{w:World}{A:Around}(bs:List Bool):TruthOf prog w A (fun i v=>(bs.map Value.bool).toArray[i]? = some v) (fun i=>bs.getD i true):=by
 intro i v s Q E h q
 have h':(bs.map Value.bool)[i]? = some v:=by simpa using h
 rw[MV]at h'
 cases e:bs[i]? with
 | none=>rw[e]at h';cases h'
 | some b =>
  rw[e]at h'
  cases h'
  have q':Q b s:=by simpa[MW,e]using q
  exact wpAny_truthy_bool q'
theorem tQ(hc:X.calm=true):v9 X (.builtin "all") (fun xs H Q=>∃(l:Addr) (bs:List Bool),xs=[.ref l]∧SqL X.K H l (bs.map V.bl)∧Q (.bl (bs.all id)) H):=by
 intro pins s σ H xs us Q I r h
 obtain⟨l,bs,rfl,hS,q⟩:=h
 obtain⟨u,rfl,ru⟩:=gT r
 cases ru
 obtain⟨its,rv,p,_⟩:=I.list hS
 have hb:=Y5 rv
 subst hb
 have hl:s.heap.IsList l (bs.map Value.bool).toArray:=p.isList
 have hne:l≠s.heap.objs.size:=by
  obtain⟨o,e,_⟩:=id hl
  exact MN (MB e)
 refine call_all_walk (wpAny_pyIter_list hl ?_)
 refine⟨s.heap.objs.size,_,_,_,_,_,fun i=>bs.getD i true,rfl,Walks.list (A:=X.A.in1) (I.ok.hd hc) s.heap.objs.size l hne (bs.map Value.bool).toArray,⟨⟨_,Mw _ rfl,rfl,rfl⟩,hl.at fun o e=>Mr _ e⟩,bY bs,fun h' tk kk=>?_⟩
 have e:(NO (bs.map Value.bool).toArray.size).all (fun i=>bs.getD i true)=bs.all id:=by
  rw[show(bs.map Value.bool).toArray.size=bs.length by simp];exact sT bs
 rw[e]
 exact⟨.bl (bs.all id),H,I.kept fun b o z=>kk b o (by simp;exact MN (MB z)) (Mr _ z),rfl,q⟩
theorem tP(hc:X.calm=true):v9 X (.builtin "any") (fun xs H Q=>∃(l:Addr) (bs:List Bool),xs=[.ref l]∧SqL X.K H l (bs.map V.bl)∧Q (.bl (bs.any id)) H):=by
 intro pins s σ H xs us Q I r h
 obtain⟨l,bs,rfl,hS,q⟩:=h
 obtain⟨u,rfl,ru⟩:=gT r
 cases ru
 obtain⟨its,rv,p,_⟩:=I.list hS
 have hb:=Y5 rv
 subst hb
 have hl:s.heap.IsList l (bs.map Value.bool).toArray:=p.isList
 have hne:l≠s.heap.objs.size:=by
  obtain⟨o,e,_⟩:=id hl
  exact MN (MB e)
 refine call_any_walk (wpAny_pyIter_list hl ?_)
 refine⟨s.heap.objs.size,_,_,_,_,_,fun i=>bs.getD i true,rfl,Walks.list (A:=X.A.in1) (I.ok.hd hc) s.heap.objs.size l hne (bs.map Value.bool).toArray,⟨⟨_,Mw _ rfl,rfl,rfl⟩,hl.at fun o e=>Mr _ e⟩,bY bs,fun h' tk kk=>?_⟩
 have e:(NO (bs.map Value.bool).toArray.size).any (fun i=>bs.getD i true)=bs.any id:=by
  rw[show(bs.map Value.bool).toArray.size=bs.length by simp];exact sS bs
 rw[e]
 exact⟨.bl (bs.any id),H,I.kept fun b o z=>kk b o (by simp;exact MN (MB z)) (Mr _ z),rfl,q⟩
def xD:DRC:=fun ds M R=>∃(d:D) (bs:List Bool),ds=[d]∧G5 M d=some (bs.map D.bl)∧R (.bl (bs.all id)) M
def Fl:DRC:=fun ds M R=>∃(d:D) (bs:List Bool),ds=[d]∧G5 M d=some (bs.map D.bl)∧R (.bl (bs.any id)) M
theorem eT(hc:X.calm=true):V2 X (.builtin "all") xD:=v9.imp (tQ hc) (by
 rintro xs H Q ⟨ds,M,R,hl,am,⟨d,bs,z,hM,r⟩,f⟩
 subst z
 obtain⟨v,rfl,hv⟩:=hl.one
 obtain⟨a,vs,rfl,s,l⟩:=w6 am hv hM
 rw[l.bools]at s
 exact⟨a,bs,rfl,s,f _ M r _ H (KT.refl H) am (.bl _)⟩)
theorem Ip(hc:X.calm=true):V2 X (.builtin "any") Fl:=v9.imp (tP hc) (by
 rintro xs H Q ⟨ds,M,R,hl,am,⟨d,bs,z,hM,r⟩,f⟩
 subst z
 obtain⟨v,rfl,hv⟩:=hl.one
 obtain⟨a,vs,rfl,s,l⟩:=w6 am hv hM
 rw[l.bools]at s
 exact⟨a,bs,rfl,s,f _ M r _ H (KT.refl H) am (.bl _)⟩)
end
theorem af:bootBuiltins "all" = some (.builtin "all"):=by decide +kernel
theorem FA:bootBuiltins "any" = some (.builtin "any"):=by decide +kernel
structure GlD(K:Ms)(mg:Str→Option Value)(x:Str)(d:D):Prop where
 ex:∃(v:V) (u:Value),mg x=some u∧p7 v u∧Iy K v d
theorem A6{X:Cx}{x:Str}{d:D}{pos:Pos}(hg:Gl X x)(g:GlD X.K X.mg x d)(hd:(x == ("__debug__" : Str))=false:=by decide):JE X (.Name x pos) (dC d):=⟨by
 obtain⟨v,u,h1,h2,h3⟩:=g.ex
 exact Fs hg h1 h2 h3 hd⟩
theorem rK{K:Ms}{mg:Str→Option Value}{h:Heap}{x:Str}{a:Addr}{od:Option Addr}{osl:Array (Option Value)}{i j:Int}{t u:Tok}{cap:Nat}(X:K.In h)(G:h.Ns mainGlobals mg)
  (n:PySem.W.nsIn K mainGlobals x=some (some (.ref a))) (l:K.lookup a=some ⟨.type "tuple",od,.seq #[.int i t,.int j u] cap,osl⟩):GlD K mg x (.tup [.int i,.int j]) :=
 ⟨.ref a,.ref a,PySem.W.mg_of X G n,rfl,fun H=>.tup (xs:=[.int i,.int j]) (.inr ⟨_,_,_,l,rfl,rfl,(show 2≤sizeLine by decide),.cons (show p7 (.int i) (.int i t)from⟨t,rfl⟩) (.cons (show p7 (.int j) (.int j u)from⟨u,rfl⟩) .nil)⟩) (.cons (.int i) (.cons (.int j) .nil))⟩
noncomputable def fS(f:Str→Str→D):D→D→Option D
 | .str i,.str j=>some (f i j)
 | _,_=>none
theorem rP{f:Str→Str→D}{x y z:D}(h:fS f x y=some z):∃ i j,x = .str i∧y = .str j∧z=f i j:=by
 cases x with
 | str i =>
  cases y with
  | str j=>exact⟨i,j,rfl,rfl,(Option.some.inj h).symm⟩
  | _=>cases h
 | _=>cases h
section
variable {X:Cx}
theorem cg:DOp X (compareOp .Eq) (gF (fS fun i j=>.bl (decide (i=j)))):=OpR.imp CW (by
 rintro x y H Q ⟨dx,dy,M,R,hx,hy,am,⟨z,e,r⟩,f⟩
 obtain⟨i,j,e1,e2,e3⟩:=rP e
 subst e1;subst e2;subst e3
 cases hx;cases hy
 refine⟨rfl,?_⟩
 have e:decide (V.str i=V.str j)=decide (i=j):=by simp
 rw[e]
 exact f _ M r _ H (KT.refl H) am (.bl _))
theorem CY:DOp X (compareOp .NotEq) (gF (fS fun i j=>.bl (!decide (i=j)))):=OpR.imp wH (by
 rintro x y H Q ⟨dx,dy,M,R,hx,hy,am,⟨z,e,r⟩,f⟩
 obtain⟨i,j,e1,e2,e3⟩:=rP e
 subst e1;subst e2;subst e3
 cases hx;cases hy
 refine⟨rfl,?_⟩
 have e:decide (V.str i=V.str j)=decide (i=j):=by simp
 rw[e]
 exact f _ M r _ H (KT.refl H) am (.bl _))
end
structure kU(K:Ms)(H1:Hp)(J:It)(ds:List D)(stay:Mem→Prop):Prop where
 go:∀ i H' M',i<ds.length→KT H1 H'→m8 K H' M'→stay M'→J.go i H'
 yld:∀ i H' M' x H'',i<ds.length→KT H1 H'→m8 K H' M'→stay M'→J.yld i H' x H''→∃ d,ds[i]? = some d∧KT H' H''∧m8 K H'' M'∧Has K H'' x d
 stop:∀ i H' M',ds.length≤i→KT H1 H'→m8 K H' M'→stay M'→J.stop i H'
 up:∀ M' p o,stay M'→M' p=none→stay (B5 M' p o)
def upI(K:Ms)(ti:DTI):TI:=fun σ H R=>∃ e M R',A0 K H σ e∧m8 K H M∧ti e M R'∧∀ ds stay M1,R' ds stay M1→∀ H1,KT H H1→m8 K H1 M1→∀ J,kU K H1 J ds stay→R J H1
def DPI(X:Cx)(tg iter:Expr)(ti:DTI):Prop:=PI X tg iter (upI X.K ti)
structure JI(X:Cx)(tg iter:Expr)(ti:DTI):Prop where
 out:DPI X tg iter ti
theorem PI.imp{X:Cx}{tg iter:Expr}{wi wi':TI}(h:PI X tg iter wi)(i:∀ σ H R,wi' σ H R→wi σ H R):PI X tg iter wi':=fun pins s σ H R I q=>h pins s σ H R I (i σ H R q)
section
variable {X:Cx} {tg iter:Expr} {ti:DTE} {ta:DTA}
theorem uY{K:Ms}{H1:Hp}{a:Addr}{xs:List V}{ds:List D}(s:SqT K H1 a xs)(l:HasL K H1 xs ds):kU K H1 (Itt K a) ds (fun _=>True) where
 go:=fun i H' M' hi k _ _=>⟨xs,_,k.sq s,MS (by rw[l.length];exact hi)⟩
 yld:=fun i H' M' x H'' hi k am _ zz=>by
  obtain⟨e,y⟩:=zz
  subst e
  obtain⟨d,hd,r⟩:=l.getV (y xs (k.sq s))
  exact⟨d,hd,KT.refl _,am,r.mono k⟩
 stop:=fun i H' M' hi k _ _=>⟨xs,k.sq s,by rw[l.length];exact hi⟩
 up:=fun _ _ _ _ _=>trivial
theorem vc{K:Ms}{H1:Hp}{p:Addr}{ds:List D}:kU K H1 (Itl K p) ds (fun M'=>M' p=some (.lst ds)) where
 go:=fun i H' M' hi k am st=>by
  obtain⟨ys,hy,ly⟩:=am.lst st
  exact⟨ys,_,SqL.of hy,MS (by rw[ly.length];exact hi)⟩
 yld:=fun i H' M' x H'' hi k am st zz=>by
  obtain⟨e,y⟩:=zz
  subst e
  obtain⟨ys,hy,ly⟩:=am.lst st
  obtain⟨d,hd,r⟩:=ly.getV (y ys (SqL.of hy))
  exact⟨d,hd,KT.refl _,am,r⟩
 stop:=fun i H' M' hi k am st=>by
  obtain⟨ys,hy,ly⟩:=am.lst st
  exact⟨ys,SqL.of hy,by rw[ly.length];exact hi⟩
 up:=fun M' q o st hq=>by rw[F9 (by intro e;subst e;rw[hq]at st;cases st)];exact st
theorem me{K:Ms}{H1:Hp}{lo:Int}{n:Nat}:kU K H1 (Itr lo n) (F0 lo n) (fun _=>True) where
 go:=fun i H' M' hi k am st=>by rw[D1]at hi;exact hi
 yld:=fun i H' M' x H'' hi k am st zz=>by
  obtain⟨e,y⟩:=zz
  subst e;subst y
  rw[D1]at hi
  exact⟨_,eB hi,KT.refl _,am,.int _⟩
 stop:=fun i H' M' hi k am st=>by rw[D1]at hi;exact hi
 up:=fun _ _ _ _ _=>trivial
theorem de{a:Expr}{p p2:Pos}(hr:Gl X "range")(hm:X.mg "range" = none)(ha:JA X [a] ta)(hs0:starEach [a] X.env=[(false,eval a X.env)]:=by rfl):JI X tg (.Call (.Name "range" p) [a] [] p2) (Dj ta):=⟨have ha:=ha.out;PI.imp (sW hr hm ha hs0) (by rintro σ H R ⟨e,M,R',ok,am,t,f⟩;exact⟨e,M,_,ok,am,t,fun ds M1 ⟨j,z,b1,b2,r⟩ vs H1 k1 a1 r1=>by
  subst z
  obtain⟨v,rfl,hv⟩:=r1.one
  cases hv
  exact⟨j,rfl,b1,b2,f _ _ M1 r H1 k1 a1 _ me⟩⟩)⟩
theorem xj{a b:Expr}{p p2:Pos}(hr:Gl X "range")(hm:X.mg "range" = none)(ha:JA X [a,b] ta)(hs0:starEach [a,b] X.env=[(false,eval a X.env),(false,eval b X.env)]:=by rfl)(hs1:starEach [b] X.env=[(false,eval b X.env)]:=by rfl):JI X tg (.Call (.Name "range" p) [a,b] [] p2) (xS ta):=⟨have ha:=ha.out;PI.imp (sV hr hm ha hs0 hs1) (by rintro σ H R ⟨e,M,R',ok,am,t,f⟩;exact⟨e,M,_,ok,am,t,fun ds M1 ⟨i,j,z,b1,r⟩ vs H1 k1 a1 r1=>by
  subst z
  cases r1 with
  | cons h1 r1 =>
   obtain⟨v,rfl,hv⟩:=r1.one
   cases h1
   cases hv
   exact⟨i,j,rfl,b1,f _ _ M1 r H1 k1 a1 _ me⟩⟩)⟩
def m6(M:Mem)(x:D)(ds:List D):Prop:=x = .tup ds∨(∃ p,x = .ref p∧M p=some (.lst ds))∨x = .vl ds
noncomputable def aX:D→Bool
 | .tup _=>false
 | _=>true
theorem j7{K:Ms}{H:Hp}{M:Mem}{v:V}{x:D}{ds:List D}(h:m6 M x ds)(am:m8 K H M)(r:Has K H v x):∃ a xs,v = .ref a∧SqK K (aX x) H a xs∧HasL K H xs ds:=by
 rcases h with rfl|⟨p,rfl,m⟩|rfl
 rotate_left 2
 ·obtain⟨a,xs,e,sq,l⟩:=r.il
  exact⟨a,xs,e,sq,l⟩
 ·cases r with
  | tup s l=>exact⟨_,_,rfl,s,l⟩
 ·cases r
  obtain⟨xs,hx,l⟩:=am.lst m
  exact⟨p,xs,rfl,SqL.of hx,l⟩
theorem G9{M:Mem}{x:D}{ds:List D}{q:Addr}{o:MO}(h:m6 M x ds)(hq:M q=none):m6 (B5 M q o) x ds:=by
 rcases h with h|⟨p,e,h⟩|h
 ·exact .inl h
 ·exact .inr (.inl ⟨p,e,by rw[F9 (by intro e;subst e;rw[hq]at h;cases h)];exact h⟩)
 ·exact .inr (.inr h)
noncomputable def bq(ds es:List D):List D:=List.zipWith (fun a b=>.tup [a,b]) ds es
theorem bP(ds es:List D):(bq ds es).length=min ds.length es.length:=by simp[bq]
theorem tT{ds es:List D}{i:Nat}{a b:D}(h1:ds[i]? = some a)(h2:es[i]? = some b):(bq ds es)[i]? = some (.tup [a,b]):=by
 unfold bq
 rw[PL,h1,h2]
theorem uX{K:Ms}{H1:Hp}{x y:D}{l1 l2:Addr}{ds es:List D}(h1:Has K H1 (.ref l1) x)(h2:Has K H1 (.ref l2) y) :
  kU K H1 (Itz K (aX x) (aX y) l1 l2) (bq ds es) (fun M'=>m6 M' x ds∧m6 M' y es) where
 go:=fun i H' M' hi k am zz=>by
  obtain⟨s1,s2⟩:=zz
  rw[bP]at hi
  obtain⟨a,xs,e1,q1,m1⟩:=j7 s1 am (h1.mono k)
  obtain⟨b,ys,e2,q2,m2⟩:=j7 s2 am (h2.mono k)
  cases e1;cases e2
  exact⟨xs,ys,_,_,q1,q2,MS (by rw[m1.length];omega),MS (by rw[m2.length];omega)⟩
 yld:=fun i H' M' v H'' hi k am ⟨s1,s2⟩ ⟨T,a,b,hT,ev,eH,u1,u2⟩=>by
  subst ev;subst eH
  obtain⟨a',xs,e1,q1,m1⟩:=j7 s1 am (h1.mono k)
  obtain⟨b',ys,e2,q2,m2⟩:=j7 s2 am (h2.mono k)
  cases e1;cases e2
  obtain⟨d1,g1,r1⟩:=m1.getV (u1 xs q1)
  obtain⟨d2,g2,r2⟩:=m2.getV (u2 ys q2)
  have kt:KT H' (upd H' T (.tup [a,b])):=KT.alloc hT
  exact⟨_,tT g1 g2,kt,am.alloc hT,.tup (SqT.of i7) (.cons (r1.mono kt) (.cons (r2.mono kt) .nil))⟩
 stop:=fun i H' M' hi k am zz=>by
  obtain⟨s1,s2⟩:=zz
  rw[bP]at hi
  obtain⟨a,xs,e1,q1,m1⟩:=j7 s1 am (h1.mono k)
  obtain⟨b,ys,e2,q2,m2⟩:=j7 s2 am (h2.mono k)
  cases e1;cases e2
  refine⟨xs,ys,q1,q2,?_⟩
  rw[m1.length,m2.length]
  omega
 up:=fun _ _ _ st hq=>⟨G9 st.1 hq,G9 st.2 hq⟩
def Dh(ta:DTA):DTI:=fun e M R=>ta e M fun xs M1=>∃ x y ds es,xs=[x,y]∧m6 M1 x ds∧m6 M1 y es∧R (bq ds es) (fun M'=>m6 M' x ds∧m6 M' y es) M1
theorem Bp{elts:List Expr}{kx:Nat}{tp:Pos}{a b:Expr}{p pos:Pos}(hg:Gl X "zip")(hm:X.mg "zip" = none)(ha:JA X [a,b] ta)
  (hs:starEach [a,b] X.env=[(false,eval a X.env),(false,eval b X.env)]:=by rfl) (hs2:starEach [b] X.env=[(false,eval b X.env)]:=by rfl):JI X (.Tuple elts kx tp) (.Call (.Name "zip" p) [a,b] [] pos) (Dh ta):=⟨have ha:=ha.out;PI.imp (EA hg hm ha hs hs2) (by rintro σ H R ⟨e,M,R',ok,am,t,f⟩;exact⟨e,M,_,ok,am,t,fun xs M1 ⟨x,y,ds,es,z,s1,s2,r⟩ vs H1 k1 a1 r1=>by
  subst z
  obtain⟨v,v',rfl,hv,hv'⟩:=r1.two
  obtain⟨a,zs,rfl,q1,m1⟩:=j7 s1 a1 hv
  obtain⟨b,ws,rfl,q2,m2⟩:=j7 s2 a1 hv'
  exact⟨_,_,a,b,rfl,⟨zs,q1⟩,⟨ws,q2⟩,f _ _ M1 r H1 k1 a1 _ (uX hv hv')⟩⟩)⟩
end
section
variable {X:Cx} {tg iter:Expr} {body:List Stmt} {ti:DTI} {g:DTG} {tb:DTS} {pos:Pos}
theorem t9(hp:PassesOwn (model X.prog X.w) X.A X.env X.xe)(hc:X.calm=true)(hi:JI X tg iter ti)(hg:JG X tg g)(hb:JSs X body tb)
  (hs:∀ x,foldedSetIterable iter X.env x=pure x:=by intro _;rfl):JS X (.For tg iter body [] pos) (HZ ti g tb):=⟨have hi:=hi.out;have hg:=hg.out;have hb:=hb.out;(Ey hp hc hi hg hb hs).imp (by rintro E σ H ⟨e,M,F,ok,am,t,f⟩;exact⟨e,M,_,ok,am,t,fun ds stay M1 ⟨W,w0,hst,step,done⟩ H1 k1 a1 J wk=>by
  refine⟨fun i m σ' H'=>m=ds.length - i∧i≤ds.length∧∃ e' M',KT H1 H'∧A0 X.K H' σ' e'∧m8 X.K H' M'∧W i e' M',⟨ds.length,by simp,Np _,e,M1,KT.refl H1,ok.mono k1,a1,w0⟩,?_⟩
  rintro i m σ2 H2 ⟨rfl,hi,e2,M2,k2,ok2,a2,w2⟩
  have st:=hst i e2 M2 hi w2
  by_cases hlt:i<ds.length
  ·refine .inr ⟨wk.go i H2 M2 hlt k2 a2 st,fun σ' H'=>∃ e' M',KT H1 H'∧A0 X.K H' σ' e'∧m8 X.K H' M'∧W (i+1) e' M',fun σ' H' h=>⟨ds.length - (i+1),by omega,rfl,hlt,h⟩,fun y H' yl=>?_⟩
   obtain⟨d,hd,k3,a3,r⟩:=wk.yld i H2 M2 y H' hlt k2 a2 st yl
   exact xH f k1 (k2.trans k3) (ok2.mono k3) a3 r (step i d e2 M2 hd w2)
  ·have e':i=ds.length:=by omega
   subst e'
   exact .inl ⟨wk.stop _ H2 M2 (MM _) k2 a2 st,f.nx e2 M2 (done e2 M2 w2) σ2 H2 (k1.trans k2) a2 ok2⟩⟩)⟩
end
noncomputable def nS(n:Nat)(caps:List Nat)(e:Ev):Ev:=NZ n none++caps.map fun i=>(e[i]?).getD none
theorem BB{K:Ms}{H:Hp}{σ:St}{e:Ev}(n:Nat)(caps:List Nat)(ok:A0 K H σ e):A0 K H (kK n caps σ) (nS n caps e):=by
 refine⟨by simp[kK,nS],fun i d h=>?_⟩
 unfold nS at h
 unfold kK
 rw[OQ]at h ⊢
 rw[OJ]at h ⊢
 by_cases hi:i<n
 ·rw[if_pos hi]at h
  rw[NK]at h
  split at h<;>cases h
 ·rw[if_neg hi]at h ⊢
  rw[MV]at h ⊢
  cases hj:caps[i - n]? with
  | none=>rw[hj]at h;cases h
  | some j =>
   rw[hj]at h
   have h':(e[j]?).getD none=some d:=by simpa using h
   have he:e[j]? = some (some d):=by
    cases q:e[j]? with
    | none=>rw[q]at h';cases h'
    | some z=>rw[q]at h';rw[show z=some d by simpa using h']
   obtain⟨v,h1,h2⟩:=ok.has j d he
   exact⟨v,by simp[h1],h2⟩
theorem X6{p:Str→Prop}{a:Str}(h:p a):∀ x∈[a],p x:=fun x hx=>by
 simp only[Mv,MG,or_false]at hx
 subst hx;exact h
theorem Iq{p:Str→Prop}{a b c d:Str}(h:p a)(h2:p b)(h3:p c)(h4:p d):∀ x∈[a,b,c,d],p x:=fun x hx=>by
 simp only[Mv,MG,or_false]at hx
 rcases hx with rfl|rfl|rfl|rfl
 ·exact h
 ·exact h2
 ·exact h3
 ·exact h4
section
variable {X:Cx}
def Ji(K:Ms)(tl:TE):TI:=fun σ H R=>tl σ H fun x H1=>∃(a:Addr) (k:Bool),x = .ref a∧(∃ xs,SqK K k H1 a xs)∧R (if k=true then Itl K a else Itt K a) H1
theorem EB{tg l:Expr}{tl:TE}(hl:PE X l tl):PI X tg l (Ji X.K tl):=by
 intro pins s σ H R I h
 refine thn (hl pins s σ H _ I h) fun v s1 zz=>?_
 obtain⟨x,H1,I1,r1,q1⟩:=zz
 obtain⟨a,k,e,⟨xs,hq⟩,q⟩:=q1
 subst e
 cases r1
 obtain⟨its,rv,p⟩:=I1.sqk hq
 have nf:∀ b∈[s1.heap.objs.size],X7 X pins H1 b:=fun b hb=>by
  have e:b=s1.heap.objs.size:=by simpa using hb
  subst e
  exact I1.fpOk (MM _) (I1.hok.fresh (MM _))
 cases k with
 | true=>exact wpAny_pyIter_list p ⟨s1.heap.objs.size,[s1.heap.objs.size],_,_,H1,rfl,I1.kept (t':=s1.toks) fun b o e=>Mr _ e,sI a _,⟨_,Mw _ rfl,rfl,rfl⟩,nf,q⟩
 | false=>exact wpAny_pyIter_tuple p ⟨s1.heap.objs.size,[s1.heap.objs.size],_,_,H1,rfl,I1.kept (t':=s1.toks) fun b o e=>Mr _ e,oo a _,⟨_,Mw _ rfl,rfl,rfl⟩,nf,q⟩
def Di(ti:DTE):DTI:=fun e M R=>ti e M fun x M1=>∃ ds,m6 M1 x ds∧R ds (fun M'=>m6 M' x ds) M1
theorem m9{tg iter:Expr}{ti:DTE}(hi:JE X iter ti):JI X tg iter (Di ti):=⟨have hi:=hi.out;PI.imp (EB hi) (by rintro σ H R ⟨e,M,R',ok,am,t,f⟩;exact⟨e,M,_,ok,am,t,fun x M1 ⟨ds,sq,r⟩ v H1 k1 a1 r1=>by
 have sq':=sq
 rcases sq with rfl|⟨p,rfl,hm⟩|rfl
 rotate_left 2
 ·obtain⟨a,xs,rfl,sq,l⟩:=r1.il
  have wk:kU X.K H1 (Itl X.K a) ds (fun M'=>m6 M' (.vl ds) ds):=⟨fun i H' M' hi k am _=>by
    obtain⟨a',ys,e,sq',l'⟩:=(r1.mono k).il
    cases e
    exact⟨ys,_,sq',MS (by rw[l'.length];exact hi)⟩,
   fun i H' M' x H'' hi k am _ zz=>by
    obtain⟨e,y⟩:=zz
    subst e
    obtain⟨a',ys,e,sq',l'⟩:=(r1.mono k).il
    cases e
    obtain⟨d,hd,r⟩:=l'.getV (y ys sq')
    exact⟨d,hd,KT.refl _,am,r⟩,
   fun i H' M' hi k am _=>by
    obtain⟨a',ys,e,sq',l'⟩:=(r1.mono k).il
    cases e
    exact⟨ys,sq',by rw[l'.length];exact hi⟩,fun _ _ _ st hq=>G9 st hq⟩
  exact⟨a,true,rfl,⟨xs,sq⟩,f ds _ M1 r H1 k1 a1 _ wk⟩
 ·cases r1 with
  | tup s l =>
   refine⟨_,false,rfl,⟨_,s⟩,f ds _ M1 r H1 k1 a1 _ ?_⟩
   have w:=uY (K:=X.K) s l
   exact⟨fun i H' M' a b c _=>w.go i H' M' a b c trivial,fun i H' M' y H2 a b c _ g=>w.yld i H' M' y H2 a b c trivial g,fun i H' M' a b c _=>w.stop i H' M' a b c trivial,fun _ _ _ st hq=>G9 st hq⟩
 ·cases r1
  obtain⟨xs,hx,l⟩:=a1.lst hm
  refine⟨p,true,rfl,⟨xs,SqL.of hx⟩,f ds _ M1 r H1 k1 a1 _ ?_⟩
  have w:=vc (K:=X.K) (H1:=H1) (p:=p) (ds:=ds)
  have cv:∀{M':Mem},m6 M' (.ref p) ds→M' p=some (.lst ds):=fun z=>by
   rcases z with z|⟨p',z,h⟩|z
   ·cases z
   ·cases z;exact h
   ·cases z
  exact⟨fun i H' M' a b c z=>w.go i H' M' a b c (cv z),fun i H' M' y H2 a b c z g=>w.yld i H' M' y H2 a b c (cv z) g,fun i H' M' a b c z=>w.stop i H' M' a b c (cv z),fun _ _ _ st hq=>G9 st hq⟩⟩)⟩
end
theorem Fg{K:Ms}{mg:Str→Option Value}{h:Heap}{x:Str}{i:Int}{t:Tok}(X:K.In h)(G:h.Ns mainGlobals mg)(n:PySem.W.nsIn K mainGlobals x=some (some (.int i t))):GlD K mg x (.int i) :=
 ⟨.int i,.int i t,PySem.W.mg_of X G n,⟨t,rfl⟩,fun _=>.int i⟩
theorem so{ds:List D}{r:Int}(h0:0≤r)(h1:r<ds.length):∃ d,atI ds r=some d∧d∈ds:=by
 unfold atI ixN
 rw[if_pos h0,if_pos h1]
 have hl:r.toNat<ds.length:=by omega
 exact⟨ds[r.toNat],by simp[hl],QK hl⟩
section
variable {X:Cx}
end
section
variable {X:Cx}
def rM:DRM:=fun x xs M R=>∃ l ds v,x = .ref l∧xs=[v]∧M l=some (.lst ds)∧ds.length<sizeLine∧R .non (B5 M l (.lst (ds++[v])))
theorem O1:DMt X "list.append" rM:=MtR.imp (r:=rh) ip (by
 rintro x xs H Q ⟨dx,ds,M,R,hx,hl,am,⟨l,es,v,e1,e2,hM,hz,r⟩,f⟩
 subst e1;subst e2
 cases hx
 obtain⟨w,rfl,hw⟩:=hl.one
 obtain⟨ys,hy,ly⟩:=am.lst hM
 exact⟨l,ys,w,rfl,rfl,hy,by rw[ly.length];exact hz,f _ _ r _ _ (KT.write hy) (am.write hy (ly.append (.cons hw .nil))) .non⟩)
end
theorem zX{M:Mem}{p:Addr}{ds:List D}(h:M p=some (.lst ds)):tyD M (.ref p)=some "list" := by
 unfold tyD;simp only[h]
section
variable {X:Cx}
end
noncomputable abbrev DTO:=Ev→Mem→(Option Int→Mem→Prop)→Prop
def upO(K:Ms)(t:DTO):TO:=fun σ H Q=>∃ e M R,A0 K H σ e∧m8 K H M∧t e M R∧∀ o M',R o M'→∀ H',KT H H'→m8 K H' M'→Q o H'
def DPO(X:Cx)(e:Option Expr)(t:DTO):Prop:=PO X e (upO X.K t)
structure JO(X:Cx)(e:Option Expr)(t:DTO):Prop where
 out:DPO X e t
def rW:DTO:=fun _ M R=>R none M
def Dp(t:DTE):DTO:=fun e M R=>t e M fun x M1=>∃ i,x = .int i∧R (some i) M1
theorem PO.imp{X:Cx}{e:Option Expr}{t t':TO}(h:PO X e t)(i:∀ σ H Q,t' σ H Q→t σ H Q):PO X e t':=fun pins s σ H Q I q=>h pins s σ H Q I (i σ H Q q)
section
variable {X:Cx} {e:Expr} {te:DTE} {lo hi:Option Expr} {tl th:DTO} {pos p2:Pos}
theorem J5:JO X none rW:=⟨PO.imp AA (by rintro σ H Q ⟨e,M,R,ok,am,t,f⟩;exact f none M t H (KT.refl H) am)⟩
theorem J4(h:JE X e te):JO X (some e) (Dp te):=⟨have h:=h.out;PO.imp (Az h) (by rintro σ H Q ⟨e,M,R,ok,am,t,f⟩;exact⟨e,M,_,ok,am,t,fun x M1 ⟨i,z,r⟩ v H1 k1 a1 r1=>by
 subst z;cases r1
 exact⟨i,rfl,f (some i) M1 r H1 k1 a1⟩⟩)⟩
noncomputable def O2(ds:List D)(lo hi:Option Int):List D:=(ds.drop (HT.sIx ds.length 0 lo)).take (HT.sIx ds.length ds.length hi - HT.sIx ds.length 0 lo)
theorem HasL.cut{K:Ms}{H:Hp}{xs:List V}{ds:List D}(h:HasL K H xs ds)(lo hi:Option Int):HasL K H (nK xs lo hi) (O2 ds lo hi):=by
 unfold nK O2
 rw[h.length]
 exact(h.drop _).take _
def Jl(x:D)(lo hi:Option Int)(M:Mem)(R:DK):Prop:=∃ ds,G5 M x=some ds∧∀ p,M p=none→R (.ref p) (B5 M p (.lst (O2 ds lo hi)))
def dSl(te:DTE)(tl th:DTO):DTE:=fun e M R=>te e M fun x M1=>tl e M1 fun l M2=>th e M2 fun u M3=>Jl x l u M3 R
theorem xn(he:JE X e te)(hl:JO X lo tl)(hu:JO X hi th):JE X (.Subscript e (.Slice lo hi none p2) pos) (dSl te tl th):=⟨have he:=he.out;have hl:=hl.out;have hu:=hu.out;(eC qY he hl hu).imp (by rintro σ H Q ⟨e,M,R,ok,am,t,f⟩;exact⟨e,M,_,ok,am,t,fun x M1 h1 v H1 k1 a1 r1=>⟨e,M1,_,ok.mono k1,a1,h1,fun l M2 h2 H2 k2 a2=>⟨e,M2,_,(ok.mono k1).mono k2,a2,h2,fun u M3 ⟨ds,hi,r⟩ H3 k3 a3=>by
  obtain⟨a,xs,rfl,sq,lx⟩:=w6 a3 ((r1.mono k2).mono k3) hi
  exact⟨a,xs,rfl,sq,fun p hp=>f _ _ (r p (a3.fresh hp)) _ _ ((k1.trans (k2.trans k3)).trans (KT.alloc hp)) (a3.new hp (lx.cut l u)) (.ref p)⟩⟩⟩⟩)⟩
end
noncomputable def U4(ds:List D):List D:=ds.mapIdx fun i d=>.tup [.int i,d]
theorem R3(ds:List D):(U4 ds).length=ds.length:=by simp[U4]
theorem tK{ds:List D}{i:Nat}{d:D}(h:ds[i]? = some d):(U4 ds)[i]? = some (.tup [.int i,d]):=by
 unfold U4
 rw[PY,h];rfl
theorem xO{ds:List D}{i:Nat}{x:D}(h:(U4 ds)[i]? = some x):∃ d,ds[i]? = some d∧x = .tup [.int i,d]:=by
 unfold U4 at h
 rw[PY]at h
 cases e:ds[i]? with
 | none=>rw[e]at h;cases h
 | some d=>rw[e]at h;exact⟨d,rfl,(Option.some.inj h).symm⟩
theorem sG{K:Ms}{H1:Hp}{x:D}{l:Addr}{ds:List D}(h1:Has K H1 (.ref l) x):kU K H1 (Ite K (aX x) l) (U4 ds) (fun M'=>m6 M' x ds) where
 go:=fun i H' M' hi k am s1=>by
  rw[R3]at hi
  obtain⟨a,xs,e1,q1,m1⟩:=j7 s1 am (h1.mono k)
  cases e1
  exact⟨xs,_,q1,MS (by rw[m1.length];omega)⟩
 yld:=fun i H' M' v H'' hi k am s1 zz=>by
  obtain⟨T,a,hT,ev,eH,u1⟩:=zz
  subst ev;subst eH
  obtain⟨a',xs,e1,q1,m1⟩:=j7 s1 am (h1.mono k)
  cases e1
  obtain⟨d1,g1,r1⟩:=m1.getV (u1 xs q1)
  have kt:KT H' (upd H' T (.tup [.int i,a])):=KT.alloc hT
  exact⟨_,tK g1,kt,am.alloc hT,.tup (SqT.of i7) (.cons (.int _) (.cons (r1.mono kt) .nil))⟩
 stop:=fun i H' M' hi k am s1=>by
  rw[R3]at hi
  obtain⟨a,xs,e1,q1,m1⟩:=j7 s1 am (h1.mono k)
  cases e1
  exact⟨xs,q1,by rw[m1.length];exact hi⟩
 up:=fun _ _ _ st hq=>G9 st hq
section
variable {X:Cx} {ta:DTA}
def xT(ta:DTA):DTI:=fun e M R=>ta e M fun xs M1=>∃ x ds,xs=[x]∧m6 M1 x ds∧R (U4 ds) (fun M'=>m6 M' x ds) M1
theorem xk{elts:List Expr}{kx:Nat}{tp:Pos}{a:Expr}{p pos:Pos}(hg:Gl X "enumerate")(hm:X.mg "enumerate" = none)(ha:JA X [a] ta)(hs:starEach [a] X.env=[(false,eval a X.env)]:=by rfl):JI X (.Tuple elts kx tp) (.Call (.Name "enumerate" p) [a] [] pos) (xT ta):=⟨have ha:=ha.out;PI.imp (AE hg hm ha hs) (by rintro σ H R ⟨e,M,R',ok,am,t,f⟩;exact⟨e,M,_,ok,am,t,fun xs M1 ⟨x,ds,z,s1,r⟩ vs H1 k1 a1 r1=>by
  subst z
  obtain⟨v,rfl,hv⟩:=r1.one
  obtain⟨a,zs,rfl,q1,m1⟩:=j7 s1 a1 hv
  exact⟨_,a,rfl,⟨zs,q1⟩,f _ _ M1 r H1 k1 a1 _ (sG hv)⟩⟩)⟩
end
noncomputable def cE(M:Mem)(a:Addr):Mem:=fun b=>if b=a then none else M b
theorem kD{M:Mem}{a b:Addr}(h:b≠a):cE M a b=M b:=by unfold cE;rw[if_neg h]
theorem eR{M:Mem}{a:Addr}{o:MO}(h:M a=none):cE (B5 M a o) a=M:=by
 funext b;unfold cE B5;by_cases e:b=a
 ·rw[if_pos e,e,h]
 ·rw[if_neg e,if_neg e]
section
variable {K:Ms} {H:Hp} {M:Mem} {p:Addr}
theorem m8.at{o:HO}(h:m8 K H M)(k:KT0 H (upd H p o))(hp:M p=none):m8 K (upd H p o) M:=fun a u m=>by
 cases u with
 | lst ds =>
  obtain⟨xs,z,l⟩:=h a _ m
  have hn:a≠p:=by intro e;subst e;rw[hp]at m;cases m
  exact⟨xs,by rw[g5 hn];exact z,l.mono0 k⟩
 | ins C fs =>
  obtain⟨C0,dx,ys,z,l,hc⟩:=h a _ m
  have hn:a≠p:=by intro e;subst e;rw[hp]at m;cases m
  exact⟨C0,dx,ys,by rw[g5 hn];exact z,l.mono0 k,hc⟩
theorem m8.del(h:m8 K H M):m8 K H (cE M p):=fun a u m=>by
 by_cases e:a=p
 ·subst e;unfold cE at m;rw[if_pos rfl]at m;cases m
 ·rw[kD e]at m;exact h a u m
theorem tL:cE M p p=none:=by unfold cE;rw[if_pos rfl]
theorem m8.none_ext{φ:Heap→Prop}(h:m8 K H M)(e:H p=some (.ext φ)):M p=none:=by
 cases q:M p with
 | none=>rfl
 | some o =>
  cases o with
  | lst ds=>obtain⟨xs,z,_⟩:=h p _ q;rw[e]at z;cases z
  | ins C fs=>obtain⟨_,dx,ys,z,_⟩:=h p _ q;rw[e]at z;cases z
end
section
variable {X:Cx} {x:Expr} {t:DTE} {es:List Expr} {tr:DTA} {pos:Pos}
def HY(t:DTE):DTE:=fun e M R=>t e M fun x M1=>∃ p ds,x = .ref p∧M1 p=some (.lst ds)∧R (.vl ds) (cE M1 p)
theorem kv(h:JE X x t):JE X x (HY t):=⟨have h:=h.out;(bA h).imp (by rintro σ H Q ⟨e,M,R,ok,am,t,f⟩;exact⟨e,M,_,ok,am,t,fun d M1 ⟨p,ds,z,hm,r⟩ v H1 k1 a1 r1=>by
 subst z
 cases r1
 obtain⟨xs,hx,lx⟩:=a1.lst hm
 exact⟨p,xs,rfl,hx,fun o=>f _ _ r _ _ (k1.trans (KT.any hx)) (a1.del.at (KT.any hx).toKT0 tL) (.vl (.inl ⟨o,i7⟩) (lx.mono (KT.any hx)))⟩⟩)⟩
def Ia(t:DTE):DTE:=fun e M R=>t e M fun x M1=>∃ M2:Mem,(∀ b o,M2 b=some o→M1 b=some o)∧R x M2
theorem eO(h:JE X x t):JE X x (Ia t):=⟨have h:=h.out;PE.imp h (by rintro σ H Q ⟨e,M,R,ok,am,t,f⟩;exact⟨e,M,_,ok,am,t,fun d M1 ⟨M2,hs,r⟩ v H1 k1 a1 r1=>f d M2 r v H1 k1 (fun a o q=>a1 a o (hs a o q)) r1⟩)⟩
def Ds(t:DTA):DTE:=fun e M R=>t e M fun ds M1=>ds.length≤sizeLine∧R (.vl ds) M1
theorem bb{K:Ms}{H0 H:Hp}{M:Mem}{R:DK}{Q:VK}{vs:List V}{ds:List D}(f:fb K H0 R Q)(k:KT H0 H)(am:m8 K H M)(l:HasL K H vs ds)(r:R (.vl ds) M)(p:Addr)(hp:H p=none) :
  ∃ q xs,V.ref p = .ref q∧upd H p (.lst vs) q=some (.lst xs)∧∀ o,Q (.ref p) (upd (upd H p (.lst vs)) q (.frz o (.lst xs))) :=
 ⟨p,vs,rfl,i7,fun o=>by
  rw[ah]
  exact f _ M r _ _ (k.trans (KT.alloc hp)) (am.alloc hp) (.vl (.inl ⟨o,i7⟩) (l.mono (KT.alloc hp)))⟩
theorem C1(h:JA X es tr):JE X (.List es pos) (Ds tr):=⟨have h:=h.out;(bA (wB h)).imp (by rintro σ H Q ⟨e,M,R,ok,am,t,f⟩;exact⟨e,M,_,ok,am,t,fun ds M1 ⟨hz,h1⟩ vs H1 k1 a1 r1=>⟨by rw[r1.length];exact hz,fun p hp=>bb f k1 a1 r1 h1 p hp⟩⟩)⟩
def xC(x y:D)(M:Mem)(R:DK):Prop:=∃ xs ys,G5 M x=some xs∧G5 M y=some ys∧xs.length+ys.length≤sizeLine∧R (.vl (xs++ys)) M
def Du(ta tb:DTE):DTE:=fun e M R=>ta e M fun x M1=>tb e M1 fun y M2=>xC x y M2 R
theorem kz{a b:Expr}{ta tb:DTE}(ha:JE X a ta)(hb:JE X b tb):JE X (.BinOp a .Add b pos) (Du ta tb):=⟨have ha:=ha.out;have hb:=hb.out;(bA (CV AR ha hb)).imp (by rintro σ H Q ⟨e,M,R,ok,am,t,f⟩;exact⟨e,M,_,ok,am,t,fun x M1 h1 v H1 k1 a1 r1=>⟨e,M1,_,ok.mono k1,a1,h1,fun y M2 ⟨xs,ys,e1,e2,hz,r⟩ u H2 k2 a2 r2=>by
  obtain⟨a,vs,rfl,s1,l1⟩:=w6 a2 (r1.mono k2) e1
  obtain⟨b,ws,rfl,s2,l2⟩:=w6 a2 r2 e2
  exact⟨a,b,vs,ws,rfl,rfl,s1,s2,by rw[l1.length,l2.length];exact hz,fun p hp=>bb f (k1.trans k2) a2 (l1.append l2) r p hp⟩⟩⟩)⟩
def By(x:D)(lo hi:Option Int)(M:Mem)(R:DK):Prop:=(∃ ds,G5 M x=some ds∧R (.vl (O2 ds lo hi)) M) ∨ ∃ ds,x = .tup ds∧¬ (HT.sIx ds.length 0 lo=0∧HT.sIx ds.length ds.length hi=ds.length)∧R (.tup (O2 ds lo hi)) M
def HQ(te:DTE)(tl th:DTO):DTE:=fun e M R=>te e M fun x M1=>tl e M1 fun l M2=>th e M2 fun u M3=>By x l u M3 R
theorem bH{e:Expr}{te:DTE}{lo hi:Option Expr}{tl th:DTO}{p2:Pos}(he:JE X e te)(hl:JO X lo tl)(hu:JO X hi th):JE X (.Subscript e (.Slice lo hi none p2) pos) (HQ te tl th):=⟨have he:=he.out;have hl:=hl.out;have hu:=hu.out;(AJ (eC (SlR.or qY vE) he hl hu)).imp (by rintro σ H Q ⟨e,M,R,ok,am,t,f⟩;exact⟨e,M,_,ok,am,t,fun x M1 h1 v H1 k1 a1 r1=>⟨e,M1,_,ok.mono k1,a1,h1,fun l M2 h2 H2 k2 a2=>⟨e,M2,_,(ok.mono k1).mono k2,a2,h2,fun u M3 h3 H3 k3 a3=>by
  rcases h3 with⟨ds,hi,r⟩|⟨ds,rfl,hw,r⟩
  ·obtain⟨a,xs,rfl,sq,lx⟩:=w6 a3 ((r1.mono k2).mono k3) hi
   exact .inl ⟨a,xs,rfl,sq,fun p hp=>.inl (bb f (k1.trans (k2.trans k3)) a3 (lx.cut l u) r p hp)⟩
  ·cases(r1.mono k2).mono k3 with
   | tup sq lx =>
    exact .inr ⟨_,_,rfl,sq,by rw[lx.length];exact hw,fun p hp=>.inr (f _ M3 r _ _ ((k1.trans (k2.trans k3)).trans (KT.alloc hp)) (a3.alloc hp) (.tup (SqT.of i7) ((lx.cut l u).mono (KT.alloc hp))))⟩⟩⟩⟩)⟩
def kB(ds:List D)(M:Mem)(R:DK):Prop:=∃ x ys,ds=[x]∧m6 M x ys∧R (.vl ys) M
def ya(t:DTA):DTE:=fun e M R=>t e M fun ds M1=>kB ds M1 R
end
section
variable {X:Cx} {e:Expr} {es:List Expr} {t:DTA} {x:Str} {p pos:Pos}
theorem ny(hg:Gl X x)(hm:X.mg x=none)(hv:bootBuiltins x=some (.type "list"))(ha:JA X (e :: es) t)
  (hn:x ≠ "__name__" := by decide) (hdb:(x == ("__debug__" : Str))=false:=by decide) (he:starEach (e :: es) X.env=(false,eval e X.env) :: starEach es X.env:=by rfl) (hpl:(backTo pos (starEach es X.env)).any (·.1)=false:=by rfl):JE X (.Call (.Name x p) (e :: es) [] pos) (ya t):=⟨have ha:=ha.out;(bA (ig kM hg hm hv ha hn hdb he hpl)).imp (by rintro σ H Q ⟨e,M,R,ok,am,t,f⟩;exact⟨e,M,_,ok,am,t,fun ds M1 ⟨d,ys,z,sq,r⟩ vs H1 k1 a1 r1=>by
  subst z
  obtain⟨v,rfl,hv⟩:=r1.one
  obtain⟨a,xs,rfl,q1,m1⟩:=j7 sq a1 hv
  refine⟨a,xs,rfl,?_,fun p hp=>bb f k1 a1 m1 r p hp⟩
  cases hk:aX d with
  | true=>rw[hk]at q1;exact .inl q1
  | false=>rw[hk]at q1;exact .inr q1⟩)⟩
variable {te:DTE} {pos':Pos}
end
section
variable {X:Cx}
noncomputable def rN:D→Option V
 | .non=>some .non
 | .bl b=>some (.bl b)
 | .int i=>some (.int i)
 | .str x=>some (.str x)
 | _=>none
theorem iA{K:Ms}{H:Hp}{v w:V}{d:D}(h:Has K H v d)(e:rN d=some w):v=w∧Y1 w=true:=by
 cases h with
 | non=>cases e;exact⟨rfl,rfl⟩
 | bl b=>cases e;exact⟨rfl,rfl⟩
 | int i=>cases e;exact⟨rfl,rfl⟩
 | str x=>cases e;exact⟨rfl,rfl⟩
 | _=>cases e
theorem iB{K:Ms}{H:Hp}:∀{vs ws:List V} {ds:List D},HasL K H vs ds→ds.map rN=ws.map some→vs=ws∧ws.all Y1=true
 | _,[],_,.nil,_=>⟨rfl,rfl⟩
 | _,_ :: _,_,.nil,e=>by cases e
 | _,[],_,.cons _ _,e=>by cases e
 | _,w :: ws,_,.cons h t,e=>by
  rw[Ni,Ni]at e
  injection e with e1 e2
  obtain⟨rfl,f⟩:=iA h e1
  obtain⟨rfl,f2⟩:=iB t e2
  exact⟨rfl,by rw[Qo,f,f2];rfl⟩
def gIn(neg:Bool):DR2:=fun x y M R=>∃(v:V) (ds:List D) (ws:List V),rN x=some v∧m6 M y ds∧ds.map rN=ws.map some∧R (.bl (if neg then !inV v ws else inV v ws)) M
theorem Bc:DOp X (compareOp .NotIn) (gIn true):=OpR.imp jU (by
 rintro x y H Q ⟨dx,dy,M,R,hx,hy,am,⟨v,ds,ws,e1,sq,e2,r⟩,f⟩
 obtain⟨rfl,fv⟩:=iA hx e1
 obtain⟨a,xs,rfl,q1,m1⟩:=j7 sq am hy
 obtain⟨rfl,fs⟩:=iB m1 e2
 refine⟨a,xs,rfl,?_,fv,fs,f _ M r _ H (KT.refl H) am (.bl _)⟩
 cases hk:aX dy with
 | true=>rw[hk]at q1;exact .inl q1
 | false=>rw[hk]at q1;exact .inr q1)
end
noncomputable abbrev bp:=Ev→Mem→(Bool→Mem→Prop)→Prop
abbrev Iz(X:Cx)(ifs:List Expr)(t:bp):Prop:=bN X ifs (upT X.K t)
structure BS(X:Cx)(ifs:List Expr)(t:bp):Prop where
 out:Iz X ifs t
def BD:bp:=fun _ M R=>R true M
theorem bN.imp{X:Cx}{ifs:List Expr}{t t':TT}(h:bN X ifs t)(i:∀ σ H Q,t' σ H Q→t σ H Q):bN X ifs t':=fun pins s σ H Q I q=>h pins s σ H Q I (i σ H Q q)
theorem p9{X:Cx}:BS X [] BD:=⟨bN.imp wo (by rintro σ H Q ⟨e,M,R,ok,am,t,f⟩;exact f true M t H (KT.refl H) am)⟩
theorem tF{X:Cx}{c:Expr}{t:DTT}(h:JT X c t):BS X [c] t:=⟨have h:=h.out;wm h⟩
structure sA(e0:Ev)(g:DTG)(tc:bp)(te:DTE)(ds:List D)(stay:Mem→Prop)(M1:Mem)(E:List D→Mem→Prop)(W:Nat→List D→Mem→Prop):Prop where
 start:W 0 [] M1
 stays:∀ i ys M,i≤ds.length→W i ys M→stay M
 turn:∀(i:Nat) (d:D) ys M,ds[i]? = some d→W i ys M→g d e0 M fun e2 M2=>tc e2 M2 fun b M3=>if b=true then te e2 M3 fun v M4=>ys.length<sizeLine∧W (i+1) (ys++[v]) M4 else W (i+1) ys M3
 done:∀ ys M,W ds.length ys M→E ys M
def yG(e0:Ev)(g:DTG)(tc:bp)(te:DTE)(ds:List D)(stay:Mem→Prop)(M1:Mem)(R:DK):Prop:=∃ W,sA e0 g tc te ds stay M1 (fun ys M=>R (.vl ys) M) W
def pN(n:Nat)(caps:List Nat)(ti:DTI)(g:DTG)(tc:bp)(te:DTE):DTE:=fun e M R=>ti e M fun ds stay M1=>yG (nS n caps e) g tc te ds stay M1 R
section
variable {X:Cx} {elt tg iter:Expr} {scope:Scope} {tgs cps:List Str} {caps:List Nat} {ti:DTI} {g:DTG} {tc:bp} {te:DTE} {pos:Pos} {ifs:List Expr}
def CWH(K:Ms)(H1:Hp)(D0:Addr)(len:Nat)(W:Nat→List D→Mem→Prop)(i m:Nat)(H':Hp):Prop:=m=len - i∧i≤len∧∃ M' ys xs,KT H1 H'∧m8 K H' M'∧H' D0=some (.lst xs)∧M' D0=none∧HasL K H' xs ys∧W i ys M'
theorem iD{K:Ms}{H1:Hp}{J:It}{ds:List D}{stay:Mem→Prop}{M1:Mem}{n:Nat}{caps:List Nat}{σ:St}{e:Ev}{E:List D→Mem→Prop}{W:Nat→List D→Mem→Prop}{D0:Addr}{Qd:Hp→Prop}(ok:A0 K H1 σ e)(a1:m8 K H1 M1)(wk:kU K H1 J ds stay)(hD:H1 D0=none)
  (C:sA (nS n caps e) g tc te ds stay M1 E W) (fin:∀ ys M xs H',KT H1 H'→m8 K H' M→H' D0=some (.lst xs)→M D0=none→HasL K H' xs ys→E ys M→Qd H') (i m:Nat) (H2:Hp) (w:CWH K H1 D0 ds.length W i m H2) :
  (J.stop i H2∧Qd H2)∨(J.go i H2∧∀ x H',J.yld i H2 x H'→(∃ p,vt p (upG K g) x (kK n caps σ) H' fun σ2 H3=>∃ p,vq p (upT K tc) σ2 H3 fun b H3'=>if b=true then ∃ p,vw p (up K te) σ2 H3' fun v H4 =>
   ∃ ys,H4 D0=some (.lst ys)∧ys.length<sizeLine∧∃ m',m'<m∧CWH K H1 D0 ds.length W (i+1) m' (upd H4 D0 (.lst (ys++[v])))else ∃ m',m'<m∧CWH K H1 D0 ds.length W (i+1) m' H3')):=by
 obtain⟨rfl,hi,M2,ys,xs,k2,a2,hx,hM,lx,w2⟩:=w
 have a2':m8 K H2 (B5 M2 D0 (.lst ys)):=fun a o q=>by
  by_cases e:a=D0
  ·subst e;rw[g8]at q;cases q;exact⟨xs,hx,lx⟩
  ·rw[F9 e]at q;exact a2 a o q
 have st:=wk.up _ D0 (.lst ys) (C.stays i ys M2 hi w2) hM
 by_cases hlt:i<ds.length
 ·refine .inr ⟨wk.go i H2 _ hlt k2 a2' st,fun y H' yl=>?_⟩
  obtain⟨d,hd,k3,a3',r⟩:=wk.yld i H2 _ y H' hlt k2 a2' st yl
  obtain⟨xs',hx',lx'⟩:=a3'.lst g8
  have a3:m8 K H' M2:=fun a o q=>by
   have e:a≠D0:=by intro e;subst e;rw[hM]at q;cases q
   exact a3' a o (by rw[F9 e];exact q)
  have kh:KT H' (upd H' D0 (aZ D0 xs')):=KT.any hx'
  have k1h:=(k2.trans k3).trans kh
  have same:∀{H3:Hp},H3 D0=some (aZ D0 xs')→upd (upd H3 D0 (.lst xs')) D0 (aZ D0 xs')=H3:=fun{H3} q=>by
   rw[ah];funext b;by_cases e:b=D0
   ·subst e;rw[i7,q]
   ·rw[g5 e]
  refine⟨D0,xs',hx',d,nS n caps e,M2,_,r.mono kh,BB n caps (ok.mono k1h),a3.at kh.toKT0 hM,C.turn i d ys M2 hd w2,fun e3 M3 h3 σ3 H3 k4 a4 ok3=>?_⟩
  have q3:H3 D0=some (aZ D0 xs'):=k4.ex D0 _ i7
  refine⟨q3,D0,xs',i7,?_⟩
  rw[same q3]
  refine⟨e3,M3,_,ok3,a4,h3,fun b M4 h4 H4 k5 a5=>?_⟩
  have q4:H4 D0=some (aZ D0 xs'):=k5.ex D0 _ q3
  refine⟨q4,?_⟩
  have kk:=k1h.trans (k4.trans k5)
  cases b with
  | false =>
   have h4':W (i+1) ys M4:=h4
   show ∃ m',m'<ds.length - i∧CWH K H1 D0 ds.length W (i+1) m' (upd H4 D0 (.lst xs'))
   exact⟨ds.length - (i+1),by omega,rfl,hlt,M4,ys,xs',kk.new hD,a5.at (KT0.ext q4) (a5.none_ext q4),i7,a5.none_ext q4,(lx'.mono (kh.trans (k4.trans k5))).mono0 (KT0.ext q4),h4'⟩
  | true =>
   show ∃ p,vw p (up K te) σ3 (upd H4 D0 (.lst xs')) _
   refine⟨D0,xs',i7,?_⟩
   rw[same q4]
   refine⟨e3,M4,_,ok3.mono k5,a5,h4,fun dv M5 ⟨hz,w5⟩ vv H5 k6 a6 r6=>?_⟩
   have q5:H5 D0=some (aZ D0 xs'):=k6.ex D0 _ q4
   refine⟨q5,xs',i7,by rw[lx'.length];exact hz,ds.length - (i+1),by omega,rfl,hlt,M5,ys++[dv],xs'++[vv],?_,?_,i7,a6.none_ext q5,?_,w5⟩
   ·rw[ah];exact(kk.trans k6).new hD
   ·rw[ah];exact a6.at (KT0.ext q5) (a6.none_ext q5)
   ·rw[ah];exact((lx'.mono (kh.trans (k4.trans (k5.trans k6)))).mono0 (KT0.ext q5)).append (.cons (r6.mono0 (KT0.ext q5)) .nil)
 ·have e':i=ds.length:=by omega
  subst e'
  exact .inl ⟨wk.stop _ H2 _ (MM _) k2 a2' st,fin ys M2 xs H2 k2 a2 hx hM lx (C.done ys M2 w2)⟩
theorem A7(caps:List Nat)(tgs cps:List Str)(hc:X.calm=true)(hcell:∀ x∈scope.names,x.2 ≠ .cell)(hkind:scope.kind = .function)(hnames:∀ x∈scope.names,x.2 = .local→scope.names.lookup x.1=some .local)
  (hfr:∀ x∈scope.names,x.2 = .free→x.1∈cps) (hN:caps.map (fun i=>X.N[i]?)=cps.map some) (hX:∀ x∈cps,X.env.scope.names.lookup x=some .cell∧scope.names.lookup x=some .free)
  (hsc:∀ x∈cps,(relabel scope X.env).names.lookup x=some .cell∨(relabel scope X.env).names.lookup x=some .free)
  (hi:JI X tg iter ti) (hg:∀ cl s3 H3 C fp pins,JG (cxF X scope cl (tgs++cps) s3 H3 C fp pins) tg g) (hq:∀ cl s3 H3 C fp pins,BS (cxF X scope cl (tgs++cps) s3 H3 C fp pins) ifs tc) (he:∀ cl s3 H3 C fp pins,JE (cxF X scope cl (tgs++cps) s3 H3 C fp pins) elt te)
  (hs:∀ x,foldedSetIterable iter X.env x=pure x:=by intro _;rfl):JE X (.ListComp elt [⟨tg,iter,ifs,0⟩] scope pos) (pN tgs.length caps ti g tc te):=⟨have hi:=hi.out;have hg:=fun v0 v1 v2 v3 v4 v5=>(hg v0 v1 v2 v3 v4 v5).out;have hq:=fun v0 v1 v2 v3 v4 v5=>(hq v0 v1 v2 v3 v4 v5).out;have he:=fun v0 v1 v2 v3 v4 v5=>(he v0 v1 v2 v3 v4 v5).out;(bA (wD (tgs:=tgs) (cps:=cps) (caps:=caps) hc hcell hkind hnames hfr hN hX hsc hi (fun cl s3 H3 C fp pins=>rj (hg cl s3 H3 C fp pins)) (fun cl s3 H3 C fp pins=>ic (hq cl s3 H3 C fp pins)) (fun cl s3 H3 C fp pins=>rk (he cl s3 H3 C fp pins)) hs)).imp (by rintro σ H Q ⟨e,M,R,ok,am,t,f⟩;exact⟨e,M,_,ok,am,t,fun ds stay M1 hW H1 k1 a1 J wk=>by
  intro D0 hD
  obtain⟨W,C⟩:=hW
  refine⟨fun i m H'=>CWH X.K H1 D0 ds.length W i m H',⟨ds.length,by simp,Np _,M1,[],[],KT.alloc hD,a1.alloc hD,i7,a1.fresh hD,.nil,C.start⟩,fun i m H2 w=>iD (Qd:=fun H'=>∃ p xs,V.ref D0 = .ref p∧H' p=some (.lst xs)∧∀ o,Q (.ref D0) (upd H' p (.frz o (.lst xs)))) (ok.mono k1) a1 wk hD C (fun ys M2 xs H' k2 a2 hx hM lx r=>?_) i m H2 w⟩
  exact⟨D0,xs,rfl,hx,fun o=>f _ M2 r _ _ (k1.trans (k2.trans (KT.any hx))) (a2.at (KT.any hx).toKT0 hM) (.vl (.inl ⟨o,i7⟩) (lx.mono (KT.any hx)))⟩⟩)⟩
theorem Q7{i:Nat}{x:Str}{pos' pos2:Pos}(caps:List Nat)(tgs cps:List Str)(hNd:X.N.Nodup)(hxi:X.N[i]? = some x)(hx:Loc X.env.scope x)(hc:X.calm=true)(hcell:∀ x∈scope.names,x.2 ≠ .cell)(hkind:scope.kind = .function)(hnames:∀ x∈scope.names,x.2 = .local→scope.names.lookup x.1=some .local)
  (hfr:∀ x∈scope.names,x.2 = .free→x.1∈cps) (hN:caps.map (fun i=>X.N[i]?)=cps.map some) (hX:∀ x∈cps,X.env.scope.names.lookup x=some .cell∧scope.names.lookup x=some .free)
  (hsc:∀ x∈cps,(relabel scope X.env).names.lookup x=some .cell∨(relabel scope X.env).names.lookup x=some .free)
  (hi:JI X tg iter ti) (hg:∀ cl s3 H3 C fp pins,JG (cxF X scope cl (tgs++cps) s3 H3 C fp pins) tg g) (hq:∀ cl s3 H3 C fp pins,BS (cxF X scope cl (tgs++cps) s3 H3 C fp pins) ifs tc) (he:∀ cl s3 H3 C fp pins,JE (cxF X scope cl (tgs++cps) s3 H3 C fp pins) elt te)
  (hsw:swapsWith (.ListComp elt [⟨tg,iter,ifs,0⟩] scope pos) (some (.Name x pos')) pos2.line X.env=pure true:=by rfl) (hs:∀ x,foldedSetIterable iter X.env x=pure x:=by intro _;rfl) (hf:X.fn x=true∨X.env.scope.names.lookup x=some .local:=by first|exact .inl rfl|exact .inr rfl|assumption):JS X (.Assign [.Name x pos'] (.ListComp elt [⟨tg,iter,ifs,0⟩] scope pos) pos2) (yb (pN tgs.length caps ti g tc te) (bK i)):=⟨have hi:=hi.out;have hg:=fun v0 v1 v2 v3 v4 v5=>(hg v0 v1 v2 v3 v4 v5).out;have hq:=fun v0 v1 v2 v3 v4 v5=>(hq v0 v1 v2 v3 v4 v5).out;have he:=fun v0 v1 v2 v3 v4 v5=>(he v0 v1 v2 v3 v4 v5).out;(Ax (Er (we (tgs:=tgs) (cps:=cps) (caps:=caps) hc hcell hkind hnames hfr hN hX hsc hi (fun cl s3 H3 C fp pins=>rj (hg cl s3 H3 C fp pins)) (fun cl s3 H3 C fp pins=>ic (hq cl s3 H3 C fp pins)) (fun cl s3 H3 C fp pins=>rk (he cl s3 H3 C fp pins)) hNd hxi hx hf hs)) hsw).imp (by rintro E σ H ⟨e,M,F,ok,am,t,f⟩;exact⟨e,M,_,ok,am,t,fun ds stay M1 hW H1 k1 a1 J wk=>by
  intro D0 hD
  obtain⟨W,C⟩:=hW
  refine⟨fun i m H'=>CWH X.K H1 D0 ds.length W i m H',⟨ds.length,by simp,Np _,M1,[],[],KT.alloc hD,a1.alloc hD,i7,a1.fresh hD,.nil,C.start⟩,fun j m H2 w=>iD (Qd:=fun H'=>∃ p xs,V.ref D0 = .ref p∧H' p=some (.lst xs)∧∀ o,E.nx (σ.set i (some (.ref D0))) (upd H' p (.frz o (.lst xs)))) (ok.mono k1) a1 wk hD C (fun ys M2 xs H' k2 a2 hx hM lx r=>?_) j m H2 w⟩
  exact⟨D0,xs,rfl,hx,fun o=>f.nx _ M2 r _ _ (k1.trans (k2.trans (KT.any hx))) (a2.at (KT.any hx).toKT0 hM) ((ok.mono (k1.trans (k2.trans (KT.any hx)))).set (.vl (.inl ⟨o,i7⟩) (lx.mono (KT.any hx))) i)⟩⟩)⟩
end
section
variable {X:Cx} {e:Expr} {te:DTE} {p1 p2 pos pos2:Pos}
theorem SqL.upd{K:Ms}{H:Hp}{a it:Addr}{xs:List V}{o:HO}(h:SqL K H a xs)(ne:a≠it):SqL K (upd H it o) a xs:=h.elim (fun z=>.inl (by unfold Rd at z ⊢;rw[g5 ne];exact z)) .inr
theorem SqK.upd{K:Ms}{k:Bool}{H:Hp}{a it:Addr}{xs:List V}{o:HO}(h:SqK K k H a xs)(ne:a≠it):SqK K k (L2.upd H it o) a xs:=by
 cases k with
 | true=>exact SqL.upd (show SqL K H a xs from h) ne
 | false=>exact(show SqT K H a xs from h).elim (fun z=>.inl (by unfold Rd at z ⊢;rw[g5 ne];exact z)) .inr
def xU(n:Nat)(t:V1):DTG:=fun d e M R=>∃ ds,G5 M d=some ds∧ds.length=n∧t ds e M R
theorem xl{xs:List Expr}{k:Nat}{t:V1}{n:Nat}(hc:X.calm=true)(h:JGs X xs t)
  (hn:(assignEach xs X.env).length=n:=by rfl) (hst:(assignEach xs X.env).findIdx? (·.1)=none:=by rfl):JG X (.Tuple xs k pos) (xU n t):=⟨have h:=h.out;PG.imp (AG hc h hn hst) (by
  rintro v σ H Q ⟨d,e,M,R,r,ok,am,⟨ds,hi,hl,g⟩,f⟩
  obtain⟨a,xs,e1,sq,lx⟩:=w6 am r hi
  exact⟨a,xs,e1,sq,by rw[lx.length];exact hl,ds,e,M,R,lx,ok,am,g,f⟩)⟩
end
end DL
namespace L2
open PySem PySem.Spec PyProof.Rows
section
variable {X:Cx} {pos:Pos}
end
end L2
namespace DL
open PySem PySem.Spec L2
open PyProof.Rows hiding St
section
variable {X:Cx}
end
section
variable {X:Cx}
end
section
variable {X:Cx} {a b c:Expr} {ta tb tc:DTE} {pos:Pos}
def pO(g g':DR2)(ta tb tc:DTE):DTE:=fun e M R=>ta e M fun x M1=>tb e M1 fun y M2=>g x y M2 fun z M3=>∃ k,z = .bl k∧(if k=true then tc e M3 fun w M4=>g' y w M4 R else R (.bl false) M3)
theorem yh{ta tb tc:DTE}{g g':DR2}{σ:St}{H:Hp}{Q:VK}(h:up X.K (pO g g' ta tb tc) σ H Q):vx (upR X.K g) (upR X.K g') (up X.K ta) (up X.K tb) (up X.K tc) σ H Q:=by
 obtain⟨e,M,R,ok,am,t,f⟩:=h
 refine⟨e,M,_,ok,am,t,fun x M1 h1 v H1 k1 a1 r1=>?_⟩
 refine⟨e,M1,_,ok.mono k1,a1,h1,fun y M2 h2 u H2 k2 a2 r2=>?_⟩
 refine⟨x,y,M2,_,r1.mono k2,r2,a2,h2,fun z M3 h3 v3 H3 k3 a3 r3=>?_⟩
 obtain⟨k,rfl,h3⟩:=h3
 cases r3
 refine⟨k,rfl,?_⟩
 have k13:=(k1.trans k2).trans k3
 cases k with
 | true =>
  refine⟨e,M3,_,ok.mono k13,a3,h3,fun q M4 h4 v4 H4 k4 a4 r4=>?_⟩
  exact⟨y,q,M4,R,r2.mono (k3.trans k4),r4,a4,h4,f.mono (k13.trans k4)⟩
 | false=>exact f _ M3 h3 _ H3 k13 a3 (.bl _)
theorem xo{op op':CmpOp}{g g':DR2}(ho:DOp X (compareOp op) g)(ho':DOp X (compareOp op') g')(ha:JE X a ta)(hb:JE X b tb)(hc:JE X c tc)(hm:lastMarks [op,op'] [b,c]=false:=by with_unfolding_all rfl):JE X (.Compare a [op,op'] [b,c] pos) (pO g g' ta tb tc):=⟨have ha:=ha.out;have hb:=hb.out;have hc:=hc.out;(wF ho ho' ha hb hc hm).imp fun _ _ _ h=>yh h⟩
end
section
variable {K:Ms}
end
section
variable {X:Cx} {x:Expr} {t:DTE}
end
theorem ik{P:Program}{w:World}{H:Hp}{h:Heap}{a:Addr}{o:HO}(x:B0 P w H h a o):∃ u,h.get? a=some u:=by
 cases o with
 | lst _=>obtain⟨_,_,_,_,e⟩:=x;exact⟨_,e⟩
 | tup _=>obtain⟨_,_,_,o,e,_⟩:=x;exact⟨_,e⟩
 | dK _=>obtain⟨_,_,_,_,o,_,_,e,_⟩:=x;exact⟨_,e⟩
 | dT _=>obtain⟨_,_,_,_,o,_,_,e,_⟩:=x;exact⟨_,e⟩
 | set _ _=>obtain⟨o,_,_,_,e,_⟩:=x;exact⟨_,e⟩
 | ins _ _ _=>obtain⟨_,_,_,e,_⟩:=x;exact⟨_,e⟩
 | own _=>exact x
 | xd _=>obtain⟨_,⟨_,_,_,e,_⟩,_⟩:=x;exact⟨_,e⟩
 | rng _ _=>obtain⟨_,_,_,e⟩:=x;exact⟨_,e⟩
 | frz _ _=>exact⟨_,x.1⟩
 | tbl _=>exact⟨_,show h.get? a=some _ from x⟩
 | met _ _=>exact⟨_,show h.get? a=some _ from x⟩
 | ext _=>exact x.2.1
noncomputable def Hq(X:Cx):St:=NZ X.N.length none
def Cov(B s0:Heap)(H':Hp)(fs:List Addr)(h:Heap):Prop:=∀ b o,h.get? b=some o→((∃ u,H' b=some u) ∨ ∃ o0,s0.get? b=some o0)→b∉fs→B.get? b=some o
def Air(B:Heap)(l:List Env)(a:Addr)(cls a0:Value)(h:Heap):Prop:=Heap.FlyingW B l a cls a0 h ∨ ∃ env l' L,l=env :: l'∧env.frame=some L∧Heap.HeldW B l a cls a0 L h
section
variable {M:Model} {A:Around} {E:Value→Shared→Prop} {s:Shared} {B:Heap} {l outer:List Env} {env:Env} {L a:Addr} {cls a0:Value} {Q:Unit→Shared→Prop}
theorem Air.frames{h:Heap}(x:Air B l a cls a0 h):h.FunFrames B l:=by
 rcases x with x|⟨_,_,_,_,_,x⟩
 ·exact x.2.2.1
 ·exact x.2.2.1
theorem Air.base{h:Heap}(x:Air B l a cls a0 h):B.StaysIn h∧B.get? a=none:=by
 rcases x with x|⟨_,_,_,_,_,x⟩
 ·exact⟨x.1,x.2.1⟩
 ·exact⟨x.1,x.2.1⟩
theorem Air.data{h:Heap}(x:Air B l a cls a0 h):∃ oe vs,h.get? a=some oe∧oe.data = .fields vs:=by
 rcases x with⟨_,_,_,oe,vs,_,_,_,h1,_,h2,_⟩|⟨_,_,_,_,_,_,_,_,oe,vs,_,_,_,h1,_,h2,_⟩<;>exact⟨oe,vs,h1,h2⟩
end
noncomputable def XP(X:Cx)(mk:Bool)(EX:Value→Hp→Prop):Value→Shared→Prop:=fun e s' =>
 (mk=true∧∃ a cls h vs H',e = .ref a∧EX cls H'∧Heap.MadeExcOf h s'.heap a cls vs∧Inv X [] (Hq X) H' { s' with heap:=h }) ∨
 (∃ pins σ Hc sc a cls a0 H' B,Inv X pins σ Hc sc∧e = .ref a∧s'.os=sc.os∧AllBare s'.gens∧Un (frs X.stack) [] Hc H' sc.heap s'.heap∧HOk X.prog X.w H' s'.heap ∧
  X.base.StaysIn B∧Cov B sc.heap H' (frs X.stack) s'.heap∧Air B X.stack a cls a0 s'.heap∧EX cls H')
section
variable {P:Program} {w:World} {K:Ms} {mg:Str→Option Value} {base:Heap} {N:List Str} {qual:Str} {scope:Scope} {f:Addr} {cd:Value} {A:Around} {outer:List Env} {s:Shared} {H:Hp} {E:XK}
end
noncomputable def xN(x:Str):Value:=.str x 0
noncomputable def Jv(X:Cx)(H₀:Hp)(Y:DXK):Value→Hp→Prop:=fun c H'=>KT H₀ H'∧∃(x:Str) (C:Addr) (M':Mem),c = .ref C∧X.mg x=some (.ref C)∧m8 X.K H' M'∧Y (xN x) M'
noncomputable abbrev Cx.ex'(X:Cx)(mk:Bool)(H₀:Hp)(Y:DXK):Cx:=X.wish (XP X mk (Jv X H₀ Y))
section
variable {X:Cx} {mk:Bool} {H₀:Hp} {Y:DXK} {st:Stmt} {G0:List Stmt} {t u:DTS} {pos:Pos}
end
section
variable {P:Program} {w:World} {K:Ms} {mg:Str→Option Value} {base:Heap}
end
section
variable {X:Cx} {mk:Bool} {H₀:Hp} {Y:DXK} {pos cpos:Pos} {x:Str} {j:Nat} {ps:List Str} {sp:DSp} {p:Pos} {e:Expr} {es:List Expr} {t:DTA}
end
section
variable {X:Cx} {mk:Bool} {H₀:Hp} {Y:DXK} {pos:Pos} {e:Expr} {te:DTE}
end
section
variable {X:Cx} {mk:Bool} {EX:Value→Hp→Prop}
end
section
variable {X:Cx} {mk:Bool} {H₀:Hp} {Y:DXK} {pos:Pos} {c:Expr} {body:List Stmt} {tc:DTT} {tb:DTS}
end
section
variable {X:Cx} {H₀:Hp} {Y:DXK} {pos cpos np:Pos} {x:Str} {e₀:Expr} {te:DTE}
end
noncomputable abbrev Cx.pinned(X:Cx)(pn:List (Addr × Obj)):Cx:={ X with pn:=pn }
section
variable {X:Cx} {pins pn:List (Addr × Obj)} {σ:St} {H:Hp} {s:Shared}
end
section
variable {X:Cx} {body suite:List Stmt} {b0:Stmt} {c:Str} {np hpos pos:Pos} {tb:DXK→DTS} {ts:DTS}
end
section
variable {X:Cx} {body suite:List Stmt} {b0:Stmt} {c:Str} {np hpos pos:Pos} {tb:DXK→DTS} {ts:DTS}
end
end DL
namespace DL
open PySem PySem.Spec L2
def BlK(x:D)(M:Mem)(Q:Bool→Mem→Prop):Prop:=∃ k,x = .bl k∧Q k M
def IfK(c:Bool)(A B:Prop):Prop:=if c=true then A else B
def SzK(n:Nat)(A:Prop):Prop:=n≤sizeLine∧A
def Iv(i j:Nat)(ds:List D)(F:Y2)(e:Ev)(M:Mem):Prop:=∃ x y,ds=[x,y]∧F.nx ((e.set i (some x)).set j (some y)) M
def yu(x:D)(M:Mem)(Q:List D→(Mem→Prop)→Mem→Prop):Prop:=∃ ds,m6 M x ds∧Q ds (fun M'=>m6 M' x ds) M
def yy(xs:List D)(M:Mem)(Q:List D→(Mem→Prop)→Mem→Prop):Prop:=∃ x ds,xs=[x]∧m6 M x ds∧Q (U4 ds) (fun M'=>m6 M' x ds) M
def yr(xs:List D)(M:Mem)(Q:List D→(Mem→Prop)→Mem→Prop):Prop:=∃ x y ds es,xs=[x,y]∧m6 M x ds∧m6 M y es∧Q (bq ds es) (fun M'=>m6 M' x ds∧m6 M' y es) M
def Iu(xs:List D)(M:Mem)(Q:List D→(Mem→Prop)→Mem→Prop):Prop:=∃ j:Int,xs=[.int j]∧-(2 ^ 62)≤j∧j<2 ^ 62∧Q (F0 0 j.toNat) (fun _=>True) M
def DB(xs:List D)(M:Mem)(Q:List D→(Mem→Prop)→Mem→Prop):Prop:=∃ i j:Int,xs=[.int i,.int j]∧(-(2 ^ 62)≤i∧i<2 ^ 62∧-(2 ^ 62)≤j∧j<2 ^ 62)∧Q (F0 i (j - i).toNat) (fun _=>True) M
def S0(g:DTG)(tb:DTS)(F:Y2)(ds:List D)(stay:Mem→Prop)(e:Ev)(M1:Mem):Prop:=∃ W:Nat→Ev→Mem→Prop,W 0 e M1∧(∀ i e M,i≤ds.length→W i e M→stay M) ∧
 (∀(i:Nat) (d:D) e M,ds[i]? = some d→W i e M→g d e M fun e2 M2=>tb { F with nx:=W (i+1),ct:=W (i+1),bk:=F.nx } e2 M2)∧∀ e M,W ds.length e M→F.nx e M
def FN(x:D)(M1:Mem)(R:DK):Prop:=∃ p ds,x = .ref p∧M1 p=some (.lst ds)∧R (.vl ds) (cE M1 p)
def DC(x:D)(M:Mem)(Q:Option Int→Mem→Prop):Prop:=∃ i,x = .int i∧Q (some i) M
def FP(x:D)(M1:Mem)(R:DK):Prop:=∃ M2:Mem,(∀ b o,M2 b=some o→M1 b=some o)∧R x M2
def LMK(x:D)(M:Mem)(A:Prop):Prop:=(∃ l ds,x = .ref l∧M l=some (.lst ds))∧A
end DL
namespace DL
open PySem PySem.Spec L2
open PyProof.Rows hiding St
section
variable {e:Ev} {M:Mem} {R:DK} {F:Y2} {ta tb tc:DTE} {tA tB:DTT} {tr:DTA} {t u:DTS}
theorem z_C{d:D}:dC d e M R=R d M:=rfl
theorem Gy{g:DR2}:dOp g ta tb e M R=ta e M fun x M1=>tb e M1 fun y M2=>g x y M2 R:=rfl
theorem Gw{g:D→Mem→DK→Prop}:dUn g ta e M R=ta e M fun x M1=>g x M1 R:=rfl
theorem Gu{f:Int→Int→D}{i j:Int}:gF (fI f) (.int i) (.int j) M R=R (f i j) M:=propext ⟨fun zz=>by obtain⟨_,h,r⟩:=zz;cases h;exact r,fun r=>⟨_,rfl,r⟩⟩
theorem Gv{f:Bool→Bool→D}{i j:Bool}:gF (fB f) (.bl i) (.bl j) M R=R (f i j) M:=propext ⟨fun zz=>by obtain⟨_,h,r⟩:=zz;cases h;exact r,fun r=>⟨_,rfl,r⟩⟩
theorem Gs{f:Str→Str→D}{i j:Str}:gF (fS f) (.str i) (.str j) M R=R (f i j) M:=propext ⟨fun zz=>by obtain⟨_,h,r⟩:=zz;cases h;exact r,fun r=>⟨_,rfl,r⟩⟩
theorem Gr{C:Int→Int→Prop}{f:Int→Int→D}{i j:Int}:gI C f (.int i) (.int j) M R=(C i j∧R (f i j) M):=propext ⟨fun zz=>by obtain⟨_,_,h1,h2,c,r⟩:=zz;cases h1;cases h2;exact⟨c,r⟩,fun⟨c,r⟩=>⟨_,_,rfl,rfl,c,r⟩⟩
theorem Gq{f:Int→D}{i:Int}:gU f (.int i) M R=R (f i) M:=propext ⟨fun zz=>by obtain⟨_,h,r⟩:=zz;cases h;exact r,fun r=>⟨_,rfl,r⟩⟩
theorem uF{Q:Bool→Mem→Prop}:rV ta e M Q=ta e M fun x M'=>BlK x M' Q:=rfl
theorem CM{b:Bool}{Q:Bool→Mem→Prop}:BlK (.bl b) M Q=Q b M:=propext ⟨fun zz=>by obtain⟨_,h,r⟩:=zz;cases h;exact r,fun r=>⟨_,rfl,r⟩⟩
theorem CO{Q:Bool→Mem→Prop}:Ib tA tB e M Q=tA e M fun c M1=>IfK c (tB e M1 Q) (Q false M1):=rfl
theorem Gx{Q:Bool→Mem→Prop}:dOr tA tB e M Q=tA e M fun c M1=>IfK c (Q true M1) (tB e M1 Q):=rfl
theorem Cv{Q:Bool→Mem→Prop}:HV tA e M Q=tA e M fun c M1=>Q (!c) M1:=rfl
theorem uV:Dv ta tb e M R=ta e M fun x M1=>BlK x M1 fun c M1=>IfK c (tb e M1 R) (R (.bl false) M1):=rfl
theorem uL:Dq ta e M R=ta e M fun x M1=>BlK x M1 fun c M1=>R (.bl (!c)) M1:=rfl
theorem GA:dIf tA ta tb e M R=tA e M fun c M1=>IfK c (ta e M1 R) (tb e M1 R):=rfl
theorem CF:HX tA t u F e M=tA e M fun c M1=>IfK c (t F e M1) (u F e M1):=rfl
theorem Cw{Q:List D→Mem→Prop}:Fv e M Q=Q [] M:=rfl
theorem uR{Q:List D→Mem→Prop}:rX ta tr e M Q=ta e M fun x M1=>tr e M1 fun xs M2=>Q (x :: xs) M2:=rfl
theorem Cp:HP tr e M R=tr e M fun ds M1=>SzK ds.length (R (.tup ds) M1):=rfl
theorem CA:HW tr e M R=tr e M fun ds M1=>SzK ds.length (∀ p,M1 p=none→R (.ref p) (B5 M1 p (.lst ds))):=rfl
theorem X3{x y z:D}(h:ixD M x y=some z):gIx x y M R=R z M:=propext ⟨fun zz=>by obtain⟨_,h',r⟩:=zz;rw[h]at h';cases h';exact r,fun r=>⟨_,h,r⟩⟩
theorem md{neg:Bool}{x y:D}{b:Bool}(h:isD x y=some b):gIs neg x y M R=R (.bl (neg.xor b)) M:=propext ⟨fun zz=>by obtain⟨_,h',r⟩:=zz;rw[h]at h';cases h';exact r,fun r=>⟨_,h,r⟩⟩
theorem CL{neg:Bool}{x y:D}:Fj neg x y M R=(cl 60 x=true∧cl 60 y=true∧R (.bl (neg.xor (@decide (x=y) (Classical.propDecidable _)))) M):=rfl
theorem uT{sp:DSp}{dds:List D}{Y:DXK}:nJ sp dds Y tr e M R=tr e M fun ds M1=>sp (ds++dds) M1 R Y:=rfl
theorem GB{g:DRC}:dCB g tr e M R=tr e M fun ds M1=>g ds M1 R:=rfl
theorem uM:Dr F e M=F.nx e M:=rfl
theorem Cs:HS t u F e M=t { F with nx:=u F } e M:=rfl
theorem uQ:Dt ta F e M=ta e M fun _ M1=>F.nx e M1:=rfl
theorem Ct:Fu ta F e M=ta e M F.rt:=rfl
theorem qM:xZ F e M=False:=rfl
variable {Q:Ev→Mem→Prop}
theorem qA{i:Nat}{d:D}:bK i d e M Q=Q (e.set i (some d)) M:=rfl
theorem uE:Dm [] e M Q=Q e M:=propext ⟨fun h=>h.2,fun h=>⟨rfl,h⟩⟩
theorem qB{g:DTG}{gs:V1}{d:D}{ds:List D}:xV g gs (d :: ds) e M Q=g d e M fun e' M'=>gs ds e' M' Q:=propext ⟨fun zz=>by obtain⟨_,_,h,r⟩:=zz;cases h;exact r,fun r=>⟨_,_,rfl,r⟩⟩
theorem lT{n:Nat}{gs:V1}{ds:List D}(h:ds.length=n):xU n gs (.vl ds) e M Q=gs ds e M Q:=propext ⟨fun zz=>by obtain⟨_,h',_,r⟩:=zz;cases h';exact r,fun r=>⟨_,rfl,h,r⟩⟩
theorem dN{n:Nat}{gs:V1}{ds:List D}(h:ds.length=n):nI n gs (.tup ds) e M Q=gs ds e M Q:=propext ⟨fun zz=>by obtain⟨_,h',_,r⟩:=zz;cases h';exact r,fun r=>⟨_,rfl,h,r⟩⟩
theorem uC{to ti:DTE}{ts:yz}{d:D}:Dk to ti ts d e M Q=to e M fun o M1=>ti e M1 fun i M2=>ts o i d M2 fun M3=>Q e M3:=rfl
theorem CN{g:DTG}:yb ta g F e M=ta e M fun x M1=>g x e M1 F.nx:=rfl
theorem Cu{i j:Nat}:HU i j tr F e M=tr e M fun ds M1=>Iv i j ds F e M1:=rfl
theorem uK{i j:Nat}{x y:D}:Iv i j [x,y] F e M=F.nx ((e.set i (some x)).set j (some y)) M:=propext ⟨fun zz=>by obtain⟨_,_,h,r⟩:=zz;cases h;exact r,fun r=>⟨_,_,rfl,r⟩⟩
theorem CQ{i:Int}:HK [.int i] M R=R (.int (i.natAbs:Int)) M:=propext ⟨fun zz=>by obtain⟨_,h,r⟩:=zz;cases h;exact r,fun r=>⟨_,rfl,r⟩⟩
theorem Cz{i j:Int}:HH [.int i,.int j] M R=R (.int (max i j)) M:=propext ⟨fun zz=>by obtain⟨_,_,h,r⟩:=zz;cases h;exact r,fun r=>⟨_,_,rfl,r⟩⟩
theorem Cy{i j:Int}:HG [.int i,.int j] M R=R (.int (min i j)) M:=propext ⟨fun zz=>by obtain⟨_,_,h,r⟩:=zz;cases h;exact r,fun r=>⟨_,_,rfl,r⟩⟩
theorem gR{d:D}{n:Nat}(h:xc M d=some n):pK [d] M R=R (.int (n:Int)) M:=propext ⟨fun zz=>by obtain⟨_,_,h',h2,r⟩:=zz;cases h';rw[h]at h2;cases h2;exact r,fun r=>⟨_,_,rfl,h,r⟩⟩
theorem p8{d:D}{ty T:String}{b:Bool}(h1:tyD M d=some ty)(h2:Aa ty T=some b):B3 [d,.ty T] M R=R (.bl b) M:=propext ⟨fun zz=>by
 obtain⟨_,_,_,_,h,h1',h2',r⟩:=zz
 injection h with h h';subst h;injection h' with h';injection h' with h';subst h'
 rw[h1]at h1';cases h1';rw[h2]at h2';cases h2';exact r,fun r=>⟨_,_,_,_,rfl,h1,h2,r⟩⟩
theorem CG{c:Bool}{A B:Prop}:IfK c A B=((c=true→A)∧(c=false→B)):=by cases c<;>simp[IfK]
theorem CD{A B:Prop}:IfK true A B=A:=by simp[IfK]
theorem CH{A B:Prop}:IfK false A B=B:=by simp[IfK]
theorem B8{n:Nat}{A:Prop}(h:n≤1000):SzK n A=A:=propext ⟨fun h=>h.2,fun a=>⟨sl n h,a⟩⟩
theorem Gd{d:D}{r:Ev}:X5 0 (some d :: r) M R=R d M:=propext ⟨fun zz=>by obtain⟨_,h,q⟩:=zz;cases h;exact q,fun q=>⟨_,rfl,q⟩⟩
theorem Gp{y z:Option D}{r:Ev}:(y :: r:Ev).set 0 z=z :: r:=rfl
theorem Gb{x0:Option D}{d:D}{r:Ev}:X5 1 (x0 :: some d :: r) M R=R d M:=propext ⟨fun zz=>by obtain⟨_,h,q⟩:=zz;cases h;exact q,fun q=>⟨_,rfl,q⟩⟩
theorem Gn{x0:Option D}{y z:Option D}{r:Ev}:(x0 :: y :: r:Ev).set 1 z=x0 :: z :: r:=rfl
theorem Ga{x0 x1:Option D}{d:D}{r:Ev}:X5 2 (x0 :: x1 :: some d :: r) M R=R d M:=propext ⟨fun zz=>by obtain⟨_,h,q⟩:=zz;cases h;exact q,fun q=>⟨_,rfl,q⟩⟩
theorem Gm{x0 x1:Option D}{y z:Option D}{r:Ev}:(x0 :: x1 :: y :: r:Ev).set 2 z=x0 :: x1 :: z :: r:=rfl
theorem FZ{x0 x1 x2:Option D}{d:D}{r:Ev}:X5 3 (x0 :: x1 :: x2 :: some d :: r) M R=R d M:=propext ⟨fun zz=>by obtain⟨_,h,q⟩:=zz;cases h;exact q,fun q=>⟨_,rfl,q⟩⟩
theorem Gk{x0 x1 x2:Option D}{y z:Option D}{r:Ev}:(x0 :: x1 :: x2 :: y :: r:Ev).set 3 z=x0 :: x1 :: x2 :: z :: r:=rfl
theorem FY{x0 x1 x2 x3:Option D}{d:D}{r:Ev}:X5 4 (x0 :: x1 :: x2 :: x3 :: some d :: r) M R=R d M:=propext ⟨fun zz=>by obtain⟨_,h,q⟩:=zz;cases h;exact q,fun q=>⟨_,rfl,q⟩⟩
theorem Gj{x0 x1 x2 x3:Option D}{y z:Option D}{r:Ev}:(x0 :: x1 :: x2 :: x3 :: y :: r:Ev).set 4 z=x0 :: x1 :: x2 :: x3 :: z :: r:=rfl
theorem FX{x0 x1 x2 x3 x4:Option D}{d:D}{r:Ev}:X5 5 (x0 :: x1 :: x2 :: x3 :: x4 :: some d :: r) M R=R d M:=propext ⟨fun zz=>by obtain⟨_,h,q⟩:=zz;cases h;exact q,fun q=>⟨_,rfl,q⟩⟩
theorem Gi{x0 x1 x2 x3 x4:Option D}{y z:Option D}{r:Ev}:(x0 :: x1 :: x2 :: x3 :: x4 :: y :: r:Ev).set 5 z=x0 :: x1 :: x2 :: x3 :: x4 :: z :: r:=rfl
theorem FW{x0 x1 x2 x3 x4 x5:Option D}{d:D}{r:Ev}:X5 6 (x0 :: x1 :: x2 :: x3 :: x4 :: x5 :: some d :: r) M R=R d M:=propext ⟨fun zz=>by obtain⟨_,h,q⟩:=zz;cases h;exact q,fun q=>⟨_,rfl,q⟩⟩
theorem Gh{x0 x1 x2 x3 x4 x5:Option D}{y z:Option D}{r:Ev}:(x0 :: x1 :: x2 :: x3 :: x4 :: x5 :: y :: r:Ev).set 6 z=x0 :: x1 :: x2 :: x3 :: x4 :: x5 :: z :: r:=rfl
theorem FV{x0 x1 x2 x3 x4 x5 x6:Option D}{d:D}{r:Ev}:X5 7 (x0 :: x1 :: x2 :: x3 :: x4 :: x5 :: x6 :: some d :: r) M R=R d M:=propext ⟨fun zz=>by obtain⟨_,h,q⟩:=zz;cases h;exact q,fun q=>⟨_,rfl,q⟩⟩
theorem Gg{x0 x1 x2 x3 x4 x5 x6:Option D}{y z:Option D}{r:Ev}:(x0 :: x1 :: x2 :: x3 :: x4 :: x5 :: x6 :: y :: r:Ev).set 7 z=x0 :: x1 :: x2 :: x3 :: x4 :: x5 :: x6 :: z :: r:=rfl
theorem FU{x0 x1 x2 x3 x4 x5 x6 x7:Option D}{d:D}{r:Ev}:X5 8 (x0 :: x1 :: x2 :: x3 :: x4 :: x5 :: x6 :: x7 :: some d :: r) M R=R d M:=propext ⟨fun zz=>by obtain⟨_,h,q⟩:=zz;cases h;exact q,fun q=>⟨_,rfl,q⟩⟩
theorem Gf{x0 x1 x2 x3 x4 x5 x6 x7:Option D}{y z:Option D}{r:Ev}:(x0 :: x1 :: x2 :: x3 :: x4 :: x5 :: x6 :: x7 :: y :: r:Ev).set 8 z=x0 :: x1 :: x2 :: x3 :: x4 :: x5 :: x6 :: x7 :: z :: r:=rfl
theorem FT{x0 x1 x2 x3 x4 x5 x6 x7 x8:Option D}{d:D}{r:Ev}:X5 9 (x0 :: x1 :: x2 :: x3 :: x4 :: x5 :: x6 :: x7 :: x8 :: some d :: r) M R=R d M:=propext ⟨fun zz=>by obtain⟨_,h,q⟩:=zz;cases h;exact q,fun q=>⟨_,rfl,q⟩⟩
theorem Ge{x0 x1 x2 x3 x4 x5 x6 x7 x8:Option D}{y z:Option D}{r:Ev}:(x0 :: x1 :: x2 :: x3 :: x4 :: x5 :: x6 :: x7 :: x8 :: y :: r:Ev).set 9 z=x0 :: x1 :: x2 :: x3 :: x4 :: x5 :: x6 :: x7 :: x8 :: z :: r:=rfl
theorem BY{x0 x1 x2 x3 x4 x5 x6 x7 x8 x9:Option D}{d:D}{r:Ev}:X5 10 (x0 :: x1 :: x2 :: x3 :: x4 :: x5 :: x6 :: x7 :: x8 :: x9 :: some d :: r) M R=R d M:=propext ⟨fun zz=>by obtain⟨_,h,q⟩:=zz;cases h;exact q,fun q=>⟨_,rfl,q⟩⟩
theorem Cn{x0 x1 x2 x3 x4 x5 x6 x7 x8 x9:Option D}{y z:Option D}{r:Ev}:(x0 :: x1 :: x2 :: x3 :: x4 :: x5 :: x6 :: x7 :: x8 :: x9 :: y :: r:Ev).set 10 z=x0 :: x1 :: x2 :: x3 :: x4 :: x5 :: x6 :: x7 :: x8 :: x9 :: z :: r:=rfl
theorem BX{x0 x1 x2 x3 x4 x5 x6 x7 x8 x9 x10:Option D}{d:D}{r:Ev}:X5 11 (x0 :: x1 :: x2 :: x3 :: x4 :: x5 :: x6 :: x7 :: x8 :: x9 :: x10 :: some d :: r) M R=R d M:=propext ⟨fun zz=>by obtain⟨_,h,q⟩:=zz;cases h;exact q,fun q=>⟨_,rfl,q⟩⟩
theorem Cm{x0 x1 x2 x3 x4 x5 x6 x7 x8 x9 x10:Option D}{y z:Option D}{r:Ev}:(x0 :: x1 :: x2 :: x3 :: x4 :: x5 :: x6 :: x7 :: x8 :: x9 :: x10 :: y :: r:Ev).set 11 z=x0 :: x1 :: x2 :: x3 :: x4 :: x5 :: x6 :: x7 :: x8 :: x9 :: x10 :: z :: r:=rfl
theorem BW{x0 x1 x2 x3 x4 x5 x6 x7 x8 x9 x10 x11:Option D}{d:D}{r:Ev}:X5 12 (x0 :: x1 :: x2 :: x3 :: x4 :: x5 :: x6 :: x7 :: x8 :: x9 :: x10 :: x11 :: some d :: r) M R=R d M:=propext ⟨fun zz=>by obtain⟨_,h,q⟩:=zz;cases h;exact q,fun q=>⟨_,rfl,q⟩⟩
theorem Ck{x0 x1 x2 x3 x4 x5 x6 x7 x8 x9 x10 x11:Option D}{y z:Option D}{r:Ev}:(x0 :: x1 :: x2 :: x3 :: x4 :: x5 :: x6 :: x7 :: x8 :: x9 :: x10 :: x11 :: y :: r:Ev).set 12 z=x0 :: x1 :: x2 :: x3 :: x4 :: x5 :: x6 :: x7 :: x8 :: x9 :: x10 :: x11 :: z :: r:=rfl
theorem v7{M:Mem}{ds es:List D}:m6 M (.tup ds) es=(es=ds):=by
 apply propext
 constructor
 ·intro h
  rcases h with h|⟨_,h,_⟩|h
  ·injection h with h;exact h.symm
  ·exact absurd h (by intro z;cases z)
  ·exact absurd h (by intro z;cases z)
 ·intro h;exact .inl (by rw[h])
theorem t5{M:Mem}{ds es:List D}:m6 M (.vl ds) es=(es=ds):=by
 apply propext
 constructor
 ·intro h
  rcases h with h|⟨_,h,_⟩|h
  ·exact absurd h (by intro z;cases z)
  ·exact absurd h (by intro z;cases z)
  ·injection h with h;exact h.symm
 ·intro h;exact .inr (.inr (by rw[h]))
theorem t7{ds:List D}{n:Nat}{d:D}(h:ds[n]? = some d):atI ds (n:Int)=some d:=by
 obtain⟨hl,_⟩:=MH.mp h
 unfold atI ixN
 rw[if_pos (Int.natCast_nonneg n),if_pos (by omega)]
 simpa using h
theorem uN:Ds tr e M R=tr e M fun ds M1=>SzK ds.length (R (.vl ds) M1):=rfl
theorem uS:Du ta tb e M R=ta e M fun x M1=>tb e M1 fun y M2=>xC x y M2 R:=rfl
theorem Cq{tl th:DTO}:HQ ta tl th e M R=ta e M fun x M1=>tl e M1 fun l M2=>th e M2 fun u M3=>By x l u M3 R:=rfl
theorem lZ{Q:Option Int→Mem→Prop}:rW e M Q=Q none M:=rfl
theorem uJ{Q:Option Int→Mem→Prop}:Dp ta e M Q=ta e M fun x M1=>DC x M1 Q:=rfl
theorem qL{i:Int}{Q:Option Int→Mem→Prop}:DC (.int i) M Q=Q (some i) M:=propext ⟨fun zz=>by obtain⟨_,h,r⟩:=zz;cases h;exact r,fun r=>⟨_,rfl,r⟩⟩
theorem qN:ya tr e M R=tr e M fun ds M1=>kB ds M1 R:=rfl
theorem lU{ds:List D}:kB [.tup ds] M R=R (.vl ds) M:=propext ⟨fun zz=>by obtain⟨_,_,h,h2,r⟩:=zz;cases h;rw[v7]at h2;subst h2;exact r,fun r=>⟨_,_,rfl,.inl rfl,r⟩⟩
theorem gQ{ds:List D}:kB [.vl ds] M R=R (.vl ds) M:=propext ⟨fun zz=>by obtain⟨_,_,h,h2,r⟩:=zz;cases h;rw[t5]at h2;subst h2;exact r,fun r=>⟨_,_,rfl,.inr (.inr rfl),r⟩⟩
theorem lS{ds:List D}:Dd [.vl ds] M R=R (.tup ds) M:=propext ⟨fun zz=>by obtain⟨_,_,h,h2,r⟩:=zz;cases h;cases h2;exact r,fun r=>⟨_,_,rfl,rfl,r⟩⟩
theorem lV{xs ys:List D}:xC (.vl xs) (.vl ys) M R=SzK (xs.length+ys.length) (R (.vl (xs++ys)) M):=propext ⟨fun zz=>by obtain⟨_,_,h,h2,z,r⟩:=zz;cases h;cases h2;exact⟨z,r⟩,fun⟨z,r⟩=>⟨_,_,rfl,rfl,z,r⟩⟩
theorem qz{xs:List D}{lo hi:Option Int}:By (.vl xs) lo hi M R=R (.vl (O2 xs lo hi)) M:=propext ⟨fun h=>by
 rcases h with⟨_,h,r⟩|⟨_,h,_⟩
 ·cases h;exact r
 ·exact(nomatch h),fun r=>.inl ⟨_,rfl,r⟩⟩
theorem qy{xs:List D}{lo hi:Option Int}:By (.tup xs) lo hi M R=(¬ (HT.sIx xs.length 0 lo=0∧HT.sIx xs.length xs.length hi=xs.length)∧R (.tup (O2 xs lo hi)) M):=propext ⟨fun h=>by
 rcases h with⟨_,h,r⟩|⟨_,h,hw,r⟩
 ·cases h
 ·cases h;exact⟨hw,r⟩,fun⟨hw,r⟩=>.inr ⟨_,rfl,hw,r⟩⟩
theorem CI:HY ta e M R=ta e M fun x M1=>FN x M1 R:=rfl
theorem iP{p:Addr}{ds:List D}(h:M p=some (.lst ds)):FN (.ref p) M R=R (.vl ds) (cE M p):=propext ⟨fun zz=>by obtain⟨_,_,e,h',r⟩:=zz;cases e;rw[h]at h';cases h';exact r,fun r=>⟨_,_,rfl,h,r⟩⟩
theorem qQ{n:Nat}{caps:List Nat}{ti:DTI}{g:DTG}{tc:bp}{te:DTE}:pN n caps ti g tc te e M R=ti e M fun ds stay M1=>yG (nS n caps e) g tc te ds stay M1 R:=rfl
theorem Co{Q:Bool→Mem→Prop}:BD e M Q=Q true M:=rfl
section
variable {Q:List D→(Mem→Prop)→Mem→Prop}
theorem qD:Di ta e M Q=ta e M fun x M1=>yu x M1 Q:=rfl
theorem uH{ds:List D}:yu (.tup ds) M Q=Q ds (fun M'=>m6 M' (.tup ds) ds) M:=propext ⟨fun zz=>by obtain⟨_,h,r⟩:=zz;rw[v7]at h;subst h;exact r,fun r=>⟨_,.inl rfl,r⟩⟩
theorem uG{ds:List D}:yu (.vl ds) M Q=Q ds (fun M'=>m6 M' (.vl ds) ds) M:=propext ⟨fun zz=>by obtain⟨_,h,r⟩:=zz;rw[t5]at h;subst h;exact r,fun r=>⟨_,.inr (.inr rfl),r⟩⟩
theorem lY:xT tr e M Q=tr e M fun xs M1=>yy xs M1 Q:=rfl
theorem qP{ds:List D}:yy [.tup ds] M Q=Q (U4 ds) (fun M'=>m6 M' (.tup ds) ds) M:=propext ⟨fun zz=>by obtain⟨_,_,h,h2,r⟩:=zz;cases h;rw[v7]at h2;subst h2;exact r,fun r=>⟨_,_,rfl,.inl rfl,r⟩⟩
theorem qO{ds:List D}:yy [.vl ds] M Q=Q (U4 ds) (fun M'=>m6 M' (.vl ds) ds) M:=propext ⟨fun zz=>by obtain⟨_,_,h,h2,r⟩:=zz;cases h;rw[t5]at h2;subst h2;exact r,fun r=>⟨_,_,rfl,.inr (.inr rfl),r⟩⟩
theorem qC:Dh tr e M Q=tr e M fun xs M1=>yr xs M1 Q:=rfl
theorem qI{ds es:List D}:yr [.tup ds,.tup es] M Q=Q (bq ds es) (fun M'=>m6 M' (.tup ds) ds∧m6 M' (.tup es) es) M:=propext ⟨fun zz=>by obtain⟨_,_,_,_,h,h2,h3,r⟩:=zz;cases h;rw[v7]at h2 h3;subst h2;subst h3;exact r,fun r=>⟨_,_,_,_,rfl,.inl rfl,.inl rfl,r⟩⟩
theorem qF{ds es:List D}:yr [.vl ds,.vl es] M Q=Q (bq ds es) (fun M'=>m6 M' (.vl ds) ds∧m6 M' (.vl es) es) M:=propext ⟨fun zz=>by obtain⟨_,_,_,_,h,h2,h3,r⟩:=zz;cases h;rw[t5]at h2 h3;subst h2;subst h3;exact r,fun r=>⟨_,_,_,_,rfl,.inr (.inr rfl),.inr (.inr rfl),r⟩⟩
theorem qH{ds es:List D}:yr [.tup ds,.vl es] M Q=Q (bq ds es) (fun M'=>m6 M' (.tup ds) ds∧m6 M' (.vl es) es) M:=propext ⟨fun zz=>by obtain⟨_,_,_,_,h,h2,h3,r⟩:=zz;cases h;rw[v7]at h2;rw[t5]at h3;subst h2;subst h3;exact r,fun r=>⟨_,_,_,_,rfl,.inl rfl,.inr (.inr rfl),r⟩⟩
theorem qG{ds es:List D}:yr [.vl ds,.tup es] M Q=Q (bq ds es) (fun M'=>m6 M' (.vl ds) ds∧m6 M' (.tup es) es) M:=propext ⟨fun zz=>by obtain⟨_,_,_,_,h,h2,h3,r⟩:=zz;cases h;rw[t5]at h2;rw[v7]at h3;subst h2;subst h3;exact r,fun r=>⟨_,_,_,_,rfl,.inr (.inr rfl),.inl rfl,r⟩⟩
theorem qE:Dj tr e M Q=tr e M fun xs M1=>Iu xs M1 Q:=rfl
theorem uI{j:Int}:Iu [.int j] M Q=((-(2 ^ 62)≤j∧j<2 ^ 62)∧Q (F0 0 j.toNat) (fun _=>True) M):=propext ⟨fun zz=>by obtain⟨_,h,a,b,r⟩:=zz;cases h;exact⟨⟨a,b⟩,r⟩,fun⟨⟨a,b⟩,r⟩=>⟨_,rfl,a,b,r⟩⟩
theorem lX:xS tr e M Q=tr e M fun xs M1=>DB xs M1 Q:=rfl
theorem qK{i j:Int}:DB [.int i,.int j] M Q=((-(2 ^ 62)≤i∧i<2 ^ 62∧-(2 ^ 62)≤j∧j<2 ^ 62)∧Q (F0 i (j - i).toNat) (fun _=>True) M):=propext ⟨fun zz=>by obtain⟨_,_,h,a,r⟩:=zz;cases h;exact⟨a,r⟩,fun⟨a,r⟩=>⟨_,_,rfl,a,r⟩⟩
end
theorem CJ{ti:DTI}{g:DTG}:HZ ti g t F e M=ti e M fun ds stay M1=>S0 g t F ds stay e M1:=rfl
theorem S0.by{g:DTG}{ds:List D}{stay:Mem→Prop}{M1:Mem}(W:Nat→Ev→Mem→Prop)(w0:W 0 e M1)(st:∀ i e M,i≤ds.length→W i e M→stay M)
  (turn:∀(i:Nat) (d:D) e M,ds[i]? = some d→W i e M→g d e M fun e2 M2=>t { F with nx:=W (i+1),ct:=W (i+1),bk:=F.nx } e2 M2) (done:∀ e M,W ds.length e M→F.nx e M):S0 g t F ds stay e M1:=⟨W,w0,st,turn,done⟩
theorem sv{F:Y2}(W:Nat→Ev→Mem→Prop)(m:Nat)(w0:W m e M)(turn:∀ m e M,W m e M→tA e M fun b M1=>IfK b (t { F with nx:=fun e' M'=>∃ m',m'<m∧W m' e' M',ct:=fun e' M'=>∃ m',m'<m∧W m' e' M',bk:=F.nx } e M1) (F.nx e M1)):xX tA t F e M:=⟨W,⟨m,w0⟩,turn⟩
theorem bO{F:Y2}(P:Ev→Mem→Prop)(h1:t { F with nx:=P } e M)(h2:∀ e' M',P e' M'→u F e' M'):Dn t u F e M:=⟨P,h1,h2⟩
theorem Gz{g:DRM}:dLM g ta tr e M R=ta e M fun x M1=>LMK x M1 (tr e M1 fun xs M2=>g x xs M2 R):=rfl
theorem Y4{x0:D}{r:List D}:gIx (.tup (x0 :: r)) (.int 0) M R=R x0 M:=X3 (t7 (n:=0) rfl)
theorem uw{x0:D}{r:List D}:gIx (.vl (x0 :: r)) (.int 0) M R=R x0 M:=X3 (t7 (n:=0) rfl)
theorem Y3{x0 x1:D}{r:List D}:gIx (.tup (x0 :: x1 :: r)) (.int 1) M R=R x1 M:=X3 (t7 (n:=1) rfl)
theorem uv{x0 x1:D}{r:List D}:gIx (.vl (x0 :: x1 :: r)) (.int 1) M R=R x1 M:=X3 (t7 (n:=1) rfl)
theorem iN{x0 x1 x2:D}{r:List D}:gIx (.tup (x0 :: x1 :: x2 :: r)) (.int 2) M R=R x2 M:=X3 (t7 (n:=2) rfl)
theorem uu{x0 x1 x2:D}{r:List D}:gIx (.vl (x0 :: x1 :: x2 :: r)) (.int 2) M R=R x2 M:=X3 (t7 (n:=2) rfl)
theorem uB{x0 x1 x2 x3:D}{r:List D}:gIx (.tup (x0 :: x1 :: x2 :: x3 :: r)) (.int 3) M R=R x3 M:=X3 (t7 (n:=3) rfl)
theorem ur{x0 x1 x2 x3:D}{r:List D}:gIx (.vl (x0 :: x1 :: x2 :: x3 :: r)) (.int 3) M R=R x3 M:=X3 (t7 (n:=3) rfl)
theorem uA{x0 x1 x2 x3 x4:D}{r:List D}:gIx (.tup (x0 :: x1 :: x2 :: x3 :: x4 :: r)) (.int 4) M R=R x4 M:=X3 (t7 (n:=4) rfl)
theorem uq{x0 x1 x2 x3 x4:D}{r:List D}:gIx (.vl (x0 :: x1 :: x2 :: x3 :: x4 :: r)) (.int 4) M R=R x4 M:=X3 (t7 (n:=4) rfl)
theorem uz{x0 x1 x2 x3 x4 x5:D}{r:List D}:gIx (.tup (x0 :: x1 :: x2 :: x3 :: x4 :: x5 :: r)) (.int 5) M R=R x5 M:=X3 (t7 (n:=5) rfl)
theorem uo{x0 x1 x2 x3 x4 x5:D}{r:List D}:gIx (.vl (x0 :: x1 :: x2 :: x3 :: x4 :: x5 :: r)) (.int 5) M R=R x5 M:=X3 (t7 (n:=5) rfl)
theorem uy{x0 x1 x2 x3 x4 x5 x6:D}{r:List D}:gIx (.tup (x0 :: x1 :: x2 :: x3 :: x4 :: x5 :: x6 :: r)) (.int 6) M R=R x6 M:=X3 (t7 (n:=6) rfl)
theorem um{x0 x1 x2 x3 x4 x5 x6:D}{r:List D}:gIx (.vl (x0 :: x1 :: x2 :: x3 :: x4 :: x5 :: x6 :: r)) (.int 6) M R=R x6 M:=X3 (t7 (n:=6) rfl)
theorem ux{x0 x1 x2 x3 x4 x5 x6 x7:D}{r:List D}:gIx (.tup (x0 :: x1 :: x2 :: x3 :: x4 :: x5 :: x6 :: x7 :: r)) (.int 7) M R=R x7 M:=X3 (t7 (n:=7) rfl)
theorem uk{x0 x1 x2 x3 x4 x5 x6 x7:D}{r:List D}:gIx (.vl (x0 :: x1 :: x2 :: x3 :: x4 :: x5 :: x6 :: x7 :: r)) (.int 7) M R=R x7 M:=X3 (t7 (n:=7) rfl)
theorem Cj{A:Prop}:SzK (0) A=A:=B8 (by decide)
theorem Ci{A:Prop}:SzK (0+1) A=A:=B8 (by decide)
theorem Cg{A:Prop}:SzK (0+1+1) A=A:=B8 (by decide)
theorem Cf{A:Prop}:SzK (0+1+1+1) A=A:=B8 (by decide)
theorem Ce{A:Prop}:SzK (0+1+1+1+1) A=A:=B8 (by decide)
theorem Cd{A:Prop}:SzK (0+1+1+1+1+1) A=A:=B8 (by decide)
theorem Cc{A:Prop}:SzK (0+1+1+1+1+1+1) A=A:=B8 (by decide)
theorem Cb{A:Prop}:SzK (0+1+1+1+1+1+1+1) A=A:=B8 (by decide)
theorem Ca{A:Prop}:SzK (0+1+1+1+1+1+1+1+1) A=A:=B8 (by decide)
theorem BZ{A:Prop}:SzK (0+1+1+1+1+1+1+1+1+1) A=A:=B8 (by decide)
theorem zQ{i:Int}:cl 60 (.int i)=true:=rfl
theorem zK:cl 60 .non=true:=rfl
theorem zr{ds:List D}:cl 60 (.tup ds)=clL 59 ds:=rfl
theorem zk{ds:List D}:cl 60 (.vl ds)=clL 59 ds:=rfl
theorem yQ:clL 59 []=true:=rfl
theorem yW{d:D}{r:List D}:clL 59 (d :: r)=(cl 59 d && clL 59 r):=rfl
theorem zR{i:Int}:cl 59 (.int i)=true:=rfl
theorem zL:cl 59 .non=true:=rfl
theorem zt{ds:List D}:cl 59 (.tup ds)=clL 58 ds:=rfl
theorem zl{ds:List D}:cl 59 (.vl ds)=clL 58 ds:=rfl
theorem yR:clL 58 []=true:=rfl
theorem yX{d:D}{r:List D}:clL 58 (d :: r)=(cl 58 d && clL 58 r):=rfl
theorem zS{i:Int}:cl 58 (.int i)=true:=rfl
theorem zM:cl 58 .non=true:=rfl
theorem zu{ds:List D}:cl 58 (.tup ds)=clL 57 ds:=rfl
theorem zm{ds:List D}:cl 58 (.vl ds)=clL 57 ds:=rfl
theorem yS:clL 57 []=true:=rfl
theorem yY{d:D}{r:List D}:clL 57 (d :: r)=(cl 57 d && clL 57 r):=rfl
theorem zT{i:Int}:cl 57 (.int i)=true:=rfl
theorem zN:cl 57 .non=true:=rfl
theorem zw{ds:List D}:cl 57 (.tup ds)=clL 56 ds:=rfl
theorem zo{ds:List D}:cl 57 (.vl ds)=clL 56 ds:=rfl
theorem yT:clL 56 []=true:=rfl
theorem yZ{d:D}{r:List D}:clL 56 (d :: r)=(cl 56 d && clL 56 r):=rfl
theorem zU{i:Int}:cl 56 (.int i)=true:=rfl
theorem zO:cl 56 .non=true:=rfl
theorem zx{ds:List D}:cl 56 (.tup ds)=clL 55 ds:=rfl
theorem zp{ds:List D}:cl 56 (.vl ds)=clL 55 ds:=rfl
theorem yU:clL 55 []=true:=rfl
theorem ze{d:D}{r:List D}:clL 55 (d :: r)=(cl 55 d && clL 55 r):=rfl
theorem zV{i:Int}:cl 55 (.int i)=true:=rfl
theorem zP:cl 55 .non=true:=rfl
theorem zy{ds:List D}:cl 55 (.tup ds)=clL 54 ds:=rfl
theorem zq{ds:List D}:cl 55 (.vl ds)=clL 54 ds:=rfl
theorem yV:clL 54 []=true:=rfl
theorem zh{d:D}{r:List D}:clL 54 (d :: r)=(cl 54 d && clL 54 r):=rfl
theorem uO{xs:List D}:pK [.vl xs] M R=R (.int (xs.length:Int)) M:=gR rfl
theorem uP{xs:List D}:pK [.tup xs] M R=R (.int (xs.length:Int)) M:=gR rfl
theorem DQ{A:Prop}:SzK 1 A=A:=B8 (by decide)
theorem DP{A:Prop}:SzK 2 A=A:=B8 (by decide)
theorem DO{A:Prop}:SzK 3 A=A:=B8 (by decide)
theorem DN{A:Prop}:SzK 4 A=A:=B8 (by decide)
theorem DM{A:Prop}:SzK 5 A=A:=B8 (by decide)
theorem DJ{A:Prop}:SzK 6 A=A:=B8 (by decide)
theorem DI{A:Prop}:SzK 7 A=A:=B8 (by decide)
theorem DH{A:Prop}:SzK 8 A=A:=B8 (by decide)
theorem DG{A:Prop}:SzK 9 A=A:=B8 (by decide)
theorem yP{A:Prop}:SzK 10 A=A:=B8 (by decide)
theorem yO{A:Prop}:SzK 11 A=A:=B8 (by decide)
theorem yN{A:Prop}:SzK 12 A=A:=B8 (by decide)
theorem uW{bs:List Bool}:xD [.vl (bs.map D.bl)] M R=R (.bl (bs.all id)) M:=propext ⟨fun zz=>by
 obtain⟨_,bs',e,h,r⟩:=zz
 cases e
 have e2:bs.map D.bl=bs'.map D.bl:=Option.some.inj h
 have e3:bs=bs':=(Nv (fun a b z=>by injection z)).mp e2
 subst e3;exact r,fun r=>⟨_,bs,rfl,rfl,r⟩⟩
theorem uU{bs:List Bool}:Fl [.vl (bs.map D.bl)] M R=R (.bl (bs.any id)) M:=propext ⟨fun zz=>by
 obtain⟨_,bs',e,h,r⟩:=zz
 cases e
 have e2:bs.map D.bl=bs'.map D.bl:=Option.some.inj h
 have e3:bs=bs':=(Nv (fun a b z=>by injection z)).mp e2
 subst e3;exact r,fun r=>⟨_,bs,rfl,rfl,r⟩⟩
theorem bW:B3 [.dic,.ty "tuple"] M R=R (.bl false) M:=p8 rfl rfl
theorem dH:B3 [.dic,.ty "list"] M R=R (.bl false) M:=p8 rfl rfl
theorem gN:B3 [.dic,.ty "int"] M R=R (.bl false) M:=p8 rfl rfl
theorem dI:B3 [.dic,.ty "bool"] M R=R (.bl false) M:=p8 rfl rfl
theorem gM:B3 [.dic,.ty "str"] M R=R (.bl false) M:=p8 rfl rfl
theorem bS{ds:List D}:B3 [.tup ds,.ty "tuple"] M R=R (.bl true) M:=p8 rfl rfl
theorem dq{ds:List D}:B3 [.tup ds,.ty "list"] M R=R (.bl false) M:=p8 rfl rfl
theorem gD{ds:List D}:B3 [.tup ds,.ty "int"] M R=R (.bl false) M:=p8 rfl rfl
theorem dz{ds:List D}:B3 [.tup ds,.ty "bool"] M R=R (.bl false) M:=p8 rfl rfl
theorem gC{ds:List D}:B3 [.tup ds,.ty "str"] M R=R (.bl false) M:=p8 rfl rfl
theorem bR{ds:List D}:B3 [.vl ds,.ty "tuple"] M R=R (.bl false) M:=p8 rfl rfl
theorem dm{ds:List D}:B3 [.vl ds,.ty "list"] M R=R (.bl true) M:=p8 rfl rfl
theorem gB{ds:List D}:B3 [.vl ds,.ty "int"] M R=R (.bl false) M:=p8 rfl rfl
theorem dn{ds:List D}:B3 [.vl ds,.ty "bool"] M R=R (.bl false) M:=p8 rfl rfl
theorem gA{ds:List D}:B3 [.vl ds,.ty "str"] M R=R (.bl false) M:=p8 rfl rfl
theorem bV{i:Int}:B3 [.int i,.ty "tuple"] M R=R (.bl false) M:=p8 rfl rfl
theorem dF{i:Int}:B3 [.int i,.ty "list"] M R=R (.bl false) M:=p8 rfl rfl
theorem gL{i:Int}:B3 [.int i,.ty "int"] M R=R (.bl true) M:=p8 rfl rfl
theorem dG{i:Int}:B3 [.int i,.ty "bool"] M R=R (.bl false) M:=p8 rfl rfl
theorem gK{i:Int}:B3 [.int i,.ty "str"] M R=R (.bl false) M:=p8 rfl rfl
theorem bU:B3 [.non,.ty "tuple"] M R=R (.bl false) M:=p8 rfl rfl
theorem dD:B3 [.non,.ty "list"] M R=R (.bl false) M:=p8 rfl rfl
theorem gJ:B3 [.non,.ty "int"] M R=R (.bl false) M:=p8 rfl rfl
theorem dE:B3 [.non,.ty "bool"] M R=R (.bl false) M:=p8 rfl rfl
theorem gH:B3 [.non,.ty "str"] M R=R (.bl false) M:=p8 rfl rfl
theorem bT{x:Str}:B3 [.str x,.ty "tuple"] M R=R (.bl false) M:=p8 rfl rfl
theorem dA{x:Str}:B3 [.str x,.ty "list"] M R=R (.bl false) M:=p8 rfl rfl
theorem gG{x:Str}:B3 [.str x,.ty "int"] M R=R (.bl false) M:=p8 rfl rfl
theorem dB{x:Str}:B3 [.str x,.ty "bool"] M R=R (.bl false) M:=p8 rfl rfl
theorem gE{x:Str}:B3 [.str x,.ty "str"] M R=R (.bl true) M:=p8 rfl rfl
theorem bX{b:Bool}:B3 [.bl b,.ty "tuple"] M R=R (.bl false) M:=p8 rfl rfl
theorem dJ{b:Bool}:B3 [.bl b,.ty "list"] M R=R (.bl false) M:=p8 rfl rfl
theorem gP{b:Bool}:B3 [.bl b,.ty "int"] M R=R (.bl true) M:=p8 rfl rfl
theorem dM{b:Bool}:B3 [.bl b,.ty "bool"] M R=R (.bl true) M:=p8 rfl rfl
theorem gO{b:Bool}:B3 [.bl b,.ty "str"] M R=R (.bl false) M:=p8 rfl rfl
theorem CK:Ia ta e M R=ta e M fun x M1=>FP x M1 R:=rfl
theorem L5{x:D}{ds:List D}{Q:List D→(Mem→Prop)→Mem→Prop}(h:m6 M x ds)(r:Q ds (fun M'=>m6 M' x ds) M):yu x M Q:=⟨ds,h,r⟩
theorem eZ{l:Addr}{ds:List D}{A:Prop}(h:M l=some (.lst ds))(a:A):LMK (.ref l) M A:=⟨⟨l,ds,rfl,h⟩,a⟩
theorem fe{l:Addr}{ds:List D}{v:D}(h:M l=some (.lst ds))(hz:ds.length<1000)(r:R .non (B5 M l (.lst (ds++[v])))):rM (.ref l) [v] M R:=⟨l,ds,v,rfl,rfl,h,Mt hz (by decide),r⟩
theorem BQ{p:Addr}{ds:List D}{j:Nat}{v:D}{Q:Mem→Prop}(h:M p=some (.lst ds))(hj:j<ds.length)(r:Q (B5 M p (.lst (ds.set j v)))):De (.ref p) (.int (j:Int)) v M Q:=⟨p,ds,j,j,rfl,rfl,h,by unfold ixN;rw[if_pos (by omega),if_pos (by omega)];rfl,r⟩
theorem ko{α:Type}{xs ys:List α}(h:xs.map some=ys.map some):xs=ys:=(Nv (fun a b z=>Option.some.inj z)).mp h
theorem rJ(a b c:Str):inV (.str a) [.str b,.str c]=(b == a || c == a):=by
 show((b == a) || ((c == a) || false))=_
 rw[Rb]
theorem CC{neg:Bool}{a b c:Str}:gIn neg (.str a) (.vl [.str b,.str c]) M R=R (.bl (if neg then !(b == a || c == a)else(b == a || c == a))) M:=propext ⟨fun zz=>by
 obtain⟨v,ds,ws,e1,sq,e2,r⟩:=zz
 cases e1
 rw[t5]at sq
 subst sq
 have e3:ws=[.str b,.str c]:=(ko (xs:=[V.str b,V.str c]) e2).symm
 subst e3
 rw[rJ]at r;exact r,fun r=>⟨.str a,_,[.str b,.str c],rfl,.inr (.inr rfl),rfl,by rw[rJ];exact r⟩⟩
theorem yx{x:D}{M1 M2:Mem}(h:∀ b o,M2 b=some o→M1 b=some o)(r:R x M2):FP x M1 R:=⟨M2,h,r⟩
theorem qR{g g':DR2}{tc:DTE}:pO g g' ta tb tc e M R=ta e M fun x M1=>tb e M1 fun y M2=>g x y M2 fun z M3=>BlK z M3 fun k M4=>IfK k (tc e M4 fun w M5=>g' y w M5 R) (R (.bl false) M4):=rfl
end
theorem U9{p:Str→Prop}:∀ x∈([]:List Str),p x:=fun _ h=>nomatch h
section
variable {e0:Ev} {g:DTG} {te:DTE} {tc:bp} {ds:List D} {stay:Mem→Prop} {M1:Mem} {E:List D→Mem→Prop}
theorem t6{α:Type}{xs:List α}{enc:α→D}(f:α→D)(hn:xs.length≤1000)(hst:stay M1)(step:∀ x∈xs,∀ Q:DK,Q (f x) M1→g (enc x) e0 M1 fun e2 M2=>te e2 M2 Q)(h:E (xs.map f) M1):∃ W,sA e0 g BD te (xs.map enc) stay M1 E W:=by
 refine⟨fun i ys M=>M=M1∧ys=(xs.take i).map f,⟨⟨rfl,rfl⟩,fun i ys M _ w=>by rw[w.1];exact hst,fun i d ys M hd w=>?_,fun ys M w=>?_⟩⟩
 ·obtain⟨rfl,rfl⟩:=w
  rw[MV]at hd
  cases hx:xs[i]? with
  | none=>rw[hx]at hd;cases hd
  | some x =>
   rw[hx]at hd
   obtain rfl:enc x=d:=by simpa using hd
   refine step x (MI hx) _ ⟨?_,rfl,?_⟩
   ·rw[MA,Nr]
    exact MP (ME (OM _ _) hn) (by decide)
   ·obtain⟨hl,he⟩:=MH.mp hx
    rw[NS hl,MR,he];rfl
 ·obtain⟨rfl,rfl⟩:=w
  rw[MA,NF];exact h
theorem kF{α:Type}{xs:List α}{enc:α→D}(p:α→Bool)(f:α→D)(hn:xs.length≤1000)(hst:stay M1)
  (step:∀ x∈xs,∀(Q:DK) (N:Prop),(p x=true→Q (f x) M1)→(p x=false→N)→g (enc x) e0 M1 fun e2 M2=>tc e2 M2 fun b M3=>IfK b (te e2 M3 Q) (M3=M1∧N)) (h:E ((xs.filter p).map f) M1):∃ W,sA e0 g tc te (xs.map enc) stay M1 E W:=by
 refine⟨fun i ys M=>M=M1∧ys=((xs.take i).filter p).map f,⟨⟨rfl,rfl⟩,fun i ys M _ w=>by rw[w.1];exact hst,fun i d ys M hd w=>?_,fun ys M w=>?_⟩⟩
 ·obtain⟨rfl,rfl⟩:=w
  rw[MV]at hd
  cases hx:xs[i]? with
  | none=>rw[hx]at hd;cases hd
  | some x =>
   rw[hx]at hd
   obtain rfl:enc x=d:=by simpa using hd
   obtain⟨hl,he⟩:=MH.mp hx
   have hle:(((xs.take i).filter p).map f).length<sizeLine:=by
    rw[MA]
    have h1:=Of p (xs.take i)
    rw[Nr]at h1
    exact MP (ME h1 (ME (OM _ _) hn)) (by decide)
   have hs:=step x (MI hx) (fun v M4=>(((xs.take i).filter p).map f).length<sizeLine∧M4=M∧((xs.take i).filter p).map f++[v]=((xs.take (i+1)).filter p).map f) (((xs.take i).filter p).map f=((xs.take (i+1)).filter p).map f)
    (fun hp=>⟨hle,rfl,by rw[NS hl,Qr,MR,he];simp[hp]⟩)
    (fun hp=>by rw[NS hl,Qr,MR,he];simp[hp])
   exact hs
 ·obtain⟨rfl,rfl⟩:=w
  rw[MA,NF];exact h
end
section
variable {X:Cx} {pos:Pos}
theorem jc{x:Str}{j k:Nat}{ps:List Str}{sp:DSp}{p:Pos}{e:Expr}{es:List Expr}{t:DTA}(G:Fn X.prog X.w X.K X.mg X.base x j ps sp)(hr:G6 k X.A)(ha:JA X (e :: es) t)(hk:j≤k:=by decide)(hg:Gl X x:=by rfl)
  (hdb:(x == ("__debug__" : Str))=false:=by decide) (he:starEach (e :: es) X.env=(false,eval e X.env) :: starEach es X.env:=by rfl) (hpl:(backTo pos (starEach es X.env)).any (·.1)=false:=by rfl):JE X (.Call (.Name x p) (e :: es) [] pos) (nJ sp [] Y0 t):=xp G (hr.mono hk) hg ha hdb he hpl
theorem jx{a b:Expr}{ta tb:DTE}(ha:JE X a ta)(hb:JE X b tb)(hs:kW b:=by exact fun _ _=>rfl):JE X (.Subscript a b pos) (dOp gIx ta tb):=Hv HA ha hb hs
theorem jst(i:Nat){x:Str}{e:Expr}{tx:DTE}{q:Pos}(hN:X.N.Nodup)(he:JE X e tx)(hi:X.N[i]? = some x:=by rfl)(hx:Loc X.env.scope x:=by first|exact .inl rfl|exact .inr rfl)(hs:swapsWith e (some (.Name x q)) pos.line X.env=pure false:=by rfl)
  (hf:X.fn x=true∨X.env.scope.names.lookup x=some .local:=by first|exact .inl rfl|exact .inr rfl|assumption):JS X (.Assign [.Name x q] e pos) (yb tx (bK i)):=Bq hN hi hx he hs hf
theorem jn(i:Nat){x:Str}(hN:X.N.Nodup)(hi:X.N[i]? = some x:=by rfl)(hx:Loc X.env.scope x:=by first|exact .inl rfl|exact .inr rfl)(hf:X.fn x=true∨X.env.scope.names.lookup x=some .local:=by first|exact .inl rfl|exact .inr rfl|assumption):JG X (.Name x pos) (bK i):=xm hN hi hx hf
theorem jm{op:CmpOp}{g:DR2}{a b:Expr}{ta tb:DTE}(ho:DOp X (compareOp op) g)(ha:JE X a ta)(hb:JE X b tb)(hm:behindInMarks op b=false:=by first|exact wU _|with_unfolding_all rfl):JE X (.Compare a [op] [b] pos) (dOp g ta tb):=Fe ho ha hb hm
theorem jtm{op:CmpOp}{g:DR2}{a b:Expr}{ta tb:DTE}(ho:DOp X (compareOp op) g)(ha:JE X a ta)(hb:JE X b tb)(hm:behindInMarks op b=false:=by first|exact wU _|with_unfolding_all rfl):JT X (.Compare a [op] [b] pos) (rV (dOp g ta tb)):=Br ho ha hb hm
end
end DL
namespace GM
open PySem PySem.Spec L2 DL
open PyProof.Rows hiding St
noncomputable def e7(q:Rat):D:=.tup [.int q.num,.int (q.den:Int)]
theorem G2{q r:Rat}(h:e7 q=e7 r):q=r:=by
 unfold e7 at h
 injection h with h
 injection h with h1 h2
 injection h1 with h1
 injection h2 with h2 _
 injection h2 with h2
 exact Rat.ext h1 (by omega)
theorem i3{q r:Rat}:e7 q=e7 r↔q=r:=⟨G2,fun h=>by rw[h]⟩
structure A9(M:Mem)(p:Addr):Prop where
 ex:∃ x y z:Int,M p=some (.lst [.int x,.int y,.int z])
def MK(M M':Mem):Prop:=∀ b o,M b=some o→M' b=some o
theorem MK.refl(M:Mem):MK M M:=fun _ _ h=>h
theorem MK.trans{M M1 M2:Mem}(a:MK M M1)(b:MK M1 M2):MK M M2:=fun c o h=>b c o (a c o h)
theorem MK.new{M:Mem}{p:Addr}{o:MO}(h:M p=none):MK M (B5 M p o):=fun b u e=>by
 have:b≠p:=by intro z;subst z;rw[h]at e;cases e
 rw[F9 this];exact e
theorem MK.pool{M M':Mem}(k:MK M M'){p:Addr}(h:A9 M p):A9 M' p:=let ⟨x,y,z,e⟩:=h.ex;⟨x,y,z,k _ _ e⟩
structure q9(p:Addr)(M M':Mem):Prop where
 keep:∀ b o,b≠p→M b=some o→M' b=some o
 pool:A9 M' p
theorem q9.refl{p:Addr}{M:Mem}(h:A9 M p):q9 p M M:=⟨fun _ _ _ h=>h,h⟩
theorem q9.trans{p:Addr}{M M1 M2:Mem}(a:q9 p M M1)(b:q9 p M1 M2):q9 p M M2:=⟨fun c o n h=>b.keep c o n (a.keep c o n h),b.pool⟩
theorem q9.mk'{p:Addr}{M M1:Mem}(h:A9 M p)(k:MK M M1):q9 p M M1:=⟨fun c o _ h=>k c o h,k.pool h⟩
theorem q9.upd{p:Addr}{M:Mem}(x y z:Int):q9 p M (B5 M p (.lst [.int x,.int y,.int z])):=⟨fun b o n h=>by rw[F9 n];exact h,⟨x,y,z,g8⟩⟩
theorem A9.ne{M:Mem}{p l:Addr}(h:A9 M p)(hl:M l=none):l≠p:=by
 intro e;subst e;obtain⟨x,y,z,q⟩:=h.ex;rw[hl]at q;cases q
def oz:DSp:=fun ds M R _=>∃ c:Int,ds=[.int c]∧∀ p M',M p=none→MK M M'→A9 M' p→R (.ref p) M'
def J8:DSp:=fun ds M R _=>∃(p:Addr) (b:Int),ds=[.ref p,.int b]∧A9 M p∧0<b∧b.natAbs.log2<9000∧∀(r:Int) M',0≤r→r<b→q9 p M M'→R (.int r) M'
def E4:DSp:=fun ds M R _=>∃ a b:Int,ds=[.int a,.int b]∧b≠0∧b.natAbs.log2<9000∧R (e7 (MZ a b)) M
def aq:DSp:=fun ds M R _=>∃ p:Addr,ds=[.ref p]∧A9 M p∧∀(q:Rat) M',RM.sz q≤41→q9 p M M'→R (e7 q) M'
theorem Ic:yI 10 18:=⟨by decide,by decide,by decide⟩
theorem Jo:yI 10 12:=⟨by decide,by decide,by decide⟩
theorem cp6:yI 10 6:=⟨by decide,by decide,by decide⟩
theorem Bi{a b:Int}(h1:-(2 ^ 64)<a)(h2:a<2 ^ 64):IntMulOk a b:=.of_left (intBits_le_64 h1 h2)
theorem Jd{a b:Int}(h1:-(2 ^ 64)<b)(h2:b<2 ^ 64):IntMulOk a b:=.of_right (intBits_le_64 h1 h2)
theorem Jc{x m k b:Int}(hm:0<m)(hm2:m<2 ^ 60)(hk:0≤k)(hk2:k<2 ^ 60):IntMulOk (x % m+k) b:=by
 have h1:=Og x (show m≠0 by omega)
 have h2:=NQ x hm
 exact Bi (by omega) (by omega)
theorem Hr{x m b:Int}(hm:0<m)(hm2:m<2 ^ 60):IntMulOk (x % m) b:=by
 have h1:=Og x (show m≠0 by omega)
 have h2:=NQ x hm
 exact Bi (by omega) (by omega)
theorem Jp{i:Int}:CFd i 8:=⟨by decide,by decide⟩
theorem Ig{i:Int}:CFd i 20:=⟨by decide,by decide⟩
theorem BJ{b:Int}{k:Nat}(h:b.natAbs.log2<k):Builtin.Int.intBits b≤k:=by
 unfold Builtin.Int.intBits
 split<;>omega
theorem bf{a b:Int}(ha:0≤a)(hb:0≤b):a.fdiv b=a / b:=Int.fdiv_eq_ediv_of_nonneg a hb
theorem rL{a b:Int}(hb:b≠0)(h:b.natAbs.log2<9000):((NH a.natAbs b.natAbs:Nat):Int).natAbs.log2<9000:=by
 have hp:0<b.natAbs:=QZ.mpr hb
 have hle:NH a.natAbs b.natAbs≤b.natAbs:=Nat.gcd_le_right _ hp
 have h1:b.natAbs<2 ^ 9000:=(Qg (by omega)).mp h
 rw[MC]
 exact K7 (MP hle h1) (by decide)
theorem xy{a b:Int}(hb:b≠0):((NH a.natAbs b.natAbs:Nat):Int)≠0:=by
 have hp:0<b.natAbs:=QZ.mpr hb
 have:=Ov a.natAbs hp
 omega
theorem dc{a b s:Int}(hb:b≠0)(hs:s=if b<0 then -((NH a.natAbs b.natAbs:Nat):Int)else((NH a.natAbs b.natAbs:Nat):Int)){M:Mem}{R:DK}(k:R (e7 (MZ a b)) M) :
  R (.tup [.int (a.fdiv s),.int (b.fdiv s)]) M:=by
 obtain⟨h1,h2⟩:=RM.EW a b hb s hs
 rw[h1,h2];exact k
theorem M0{a b:Int}{n:Nat}(hn:0<n)(h1:a.natAbs<2 ^ n)(h2:b.natAbs<2 ^ n)(hb:b≠0):RM.sz (MZ a b)≤n :=
 ME (RM.V3 a b hb) (PV.mpr ⟨RM.eV h1 hn,RM.eV h2 hn⟩)
def qV:DSp:=fun ds M R _=>∃ n:Int,ds=[.int n]∧R (.bl true) M
end GM
namespace GM
open PySem PySem.Spec L2 DL
def qX:DSp:=fun ds _ R _=>∃ ns:List Int,ds=[.vl (ns.map D.int)]∧ns.length≤63∧∀ M',R (.bl true) M'
end GM
namespace GM
open PySem PySem.Spec L2 DL
open RM (sz)
def N4:DSp:=fun ds M R _=>∃ a b:Nat,ds=[.int (a:Int),.int (b:Int)]∧R (.int ((NH a b:Nat):Int)) M
def qW:DSp:=fun ds M R _=>∃ q:Rat,ds=[e7 q]∧R (e7 (-q)) M
def S2:DSp:=fun ds M R _=>∃ q r:Rat,ds=[e7 q,e7 r]∧sz q+sz r≤8900∧R (e7 (q+r)) M
def iW:DSp:=fun ds M R _=>∃ q r:Rat,ds=[e7 q,e7 r]∧sz q+sz r≤8900∧R (e7 (q - r)) M
def D3:DSp:=fun ds M R _=>∃ q r:Rat,ds=[e7 q,e7 r]∧sz q+sz r≤8900∧R (e7 (q*r)) M
def oA:DSp:=fun ds M R _=>∃ q r:Rat,ds=[e7 q,e7 r]∧r≠0∧sz q+sz r≤8900∧R (e7 (q / r)) M
theorem j9(q:Rat):q.num.natAbs<2 ^ sz q:=Mt (RM.aV _) (My (by decide) (RM.O7 q))
theorem j0(q:Rat):((q.den:Int)).natAbs<2 ^ sz q:=by rw[MC];exact Mt (RM.aV _) (My (by decide) (RM.E8 q))
theorem mNN{q r:Rat}(h:sz q+sz r≤8900):IntMulOk q.num r.num:=j3 _ _ (j9 q) (j9 r) (by omega)
theorem mND{q r:Rat}(h:sz q+sz r≤8900):IntMulOk q.num (r.den:Int):=j3 _ _ (j9 q) (j0 r) (by omega)
theorem mDD{q r:Rat}(h:sz q+sz r≤8900):IntMulOk (q.den:Int) (r.den:Int):=j3 _ _ (j0 q) (j0 r) (by omega)
theorem mDN{q r:Rat}(h:sz q+sz r≤8900):IntMulOk (q.den:Int) r.num:=j3 _ _ (j0 q) (j9 r) (by omega)
theorem lDD{q r:Rat}(h:sz q+sz r≤8900):((q.den:Int)*(r.den:Int)).natAbs.log2<9000:=by
 have h1:=RM.R6 q.den r.den
 have h2:=RM.E8 q
 have h3:=RM.E8 r
 rw[Nf,MC,MC]
 unfold RM.bl at *
 omega
theorem lDN{q r:Rat}(h:sz q+sz r≤8900):((q.den:Int)*r.num).natAbs.log2<9000:=by
 have h1:=RM.R6 q.den r.num.natAbs
 have h2:=RM.E8 q
 have h3:=RM.O7 r
 rw[Nf,MC]
 unfold RM.bl at *
 omega
theorem EU{r:Rat}(h:r≠0):r.num≠0:=fun z=>h (NM.mp z)
noncomputable def j4(q:Rat):Rat:=if 0≤q then q else -q
theorem FI(q:Rat):e7 (j4 q) = .tup [.int (q.num.natAbs:Int),.int (q.den:Int)]:=by
 unfold j4 e7
 have hz:0≤q↔0≤q.num:=Pk.symm
 split
 ·rename_i h
  have:=hz.mp h
  rw[show q.num=(q.num.natAbs:Int)by omega];simp
 ·rename_i h
  have h':¬ 0≤q.num:=fun z=>h (hz.mpr z)
  rw[Pq,Qi,show -q.num=(q.num.natAbs:Int)by omega]
theorem cj(t:Rat):t.num<0↔t<0:=by
 have:=Pk (q:=t)
 constructor
 ·intro h;have:¬ 0≤t:=fun z=>by have:=Pk.mpr z;omega
  grind
 ·intro h;have h':¬ 0≤t.num:=fun z=>by have:=Pk.mp z;grind
  omega
end GM
namespace GM
open RM (sz)
theorem L1(q:Rat){k:Nat}(h:sz q≤k):q.num.natAbs<2 ^ k:=Mt (RM.aV _) (My (by decide) (ME (RM.O7 q) h))
theorem o8(q:Rat){k:Nat}(h:sz q≤k):q.den<2 ^ k:=Mt (RM.aV _) (My (by decide) (ME (RM.E8 q) h))
theorem L3(q:Rat):q*(q.den:Rat)=(q.num:Rat):=by
 have h:(q.den:Rat)≠0:=by
  intro z;exact q.den_nz (by exact_mod_cast z)
 have e:=Nn q
 rw[Qy,Nq]at e
 grind
theorem eK{a b m n:Nat}(h1:a<2 ^ m)(h2:b<2 ^ n):a*b<2 ^ (m+n):=by
 rw[Nt];exact ND h1 h2
theorem B2{a b:Int}{m n:Nat}(h1:a.natAbs<2 ^ m)(h2:b.natAbs<2 ^ n):(a*b).natAbs<2 ^ (m+n):=by
 rw[Nf];exact eK h1 h2
theorem U0{a m n:Nat}(h:a<2 ^ m)(hn:m≤n):a<2 ^ n:=Mt h (My (by decide) hn)
end GM
namespace GM
open PySem PySem.Spec L2 DL
open RM (sz)
noncomputable abbrev r9(y u:Rat):D:=.tup [e7 y,e7 u]
theorem aR(n:Int):e7 (n:Rat) = .tup [.int n,.int 1]:=by
 unfold e7
 rw[QO,QP];rfl
theorem iT{n:Int}{k:Nat}(hk:0<k)(h:n.natAbs<2 ^ k):sz (n:Rat)≤k:=by
 refine RM.vy _ hk ?_ ?_
 ·rw[QO];exact h
 ·rw[QP];exact Qs (by omega)
theorem Y7(q:Rat):sz (j4 q)=sz q:=by
 unfold j4;split
 ·rfl
 ·exact RM.bu q
theorem BO{q:Rat}(h:q≠0):0<j4 q:=by
 unfold j4;split
 ·grind
 ·grind
noncomputable def R8(x:Str × Rat):D:=.tup [.str x.1,e7 x.2]
def dR:DSp:=fun ds M R _=>∃ q:Rat,ds=[e7 q]∧R (e7 (j4 q)) M
theorem ij{x y:Str × Rat}(h:R8 x=R8 y):x=y:=by
 unfold R8 at h
 injection h with h
 injection h with h1 h2
 injection h1 with h1
 injection h2 with h2 _
 exact Prod.ext h1 (G2 h2)
theorem i5{x y:Str × Rat}:R8 x=R8 y↔x=y:=⟨ij,fun h=>by rw[h]⟩
theorem h8{xs ys:List (Str × Rat)}:xs.map R8=ys.map R8↔xs=ys:=Nv (fun _ _ h=>ij h)
noncomputable def f8(l:Rat × Rat × Rat):D:=.tup [e7 l.1,e7 l.2.1,e7 l.2.2]
theorem iq{x y:Rat × Rat × Rat}(h:f8 x=f8 y):x=y:=by
 unfold f8 at h
 injection h with h
 injection h with h1 h2
 injection h2 with h2 h3
 injection h3 with h3 _
 exact Prod.ext (G2 h1) (Prod.ext (G2 h2) (G2 h3))
theorem i6{x y:Rat × Rat × Rat}:f8 x=f8 y↔x=y:=⟨iq,fun h=>by rw[h]⟩
theorem h9{xs ys:List (Rat × Rat × Rat)}:xs.map f8=ys.map f8↔xs=ys:=Nv (fun _ _ h=>iq h)
theorem En{p q r:Rat}:D.tup [e7 p,e7 q,e7 r]=f8 (p,q,r):=rfl
theorem qu{gs:V1}{l:Rat × Rat × Rat}{e:Ev}{M:Mem}{Q:Ev→Mem→Prop}:nI 3 gs (f8 l) e M Q=gs [e7 l.1,e7 l.2.1,e7 l.2.2] e M Q:=dN rfl
theorem qx{l:Rat × Rat × Rat}{M:Mem}{R:DK}:gIx (f8 l) (.int 0) M R=R (e7 l.1) M:=Y4
theorem qw{l:Rat × Rat × Rat}{M:Mem}{R:DK}:gIx (f8 l) (.int 1) M R=R (e7 l.2.1) M:=Y3
theorem qv{l:Rat × Rat × Rat}{M:Mem}{R:DK}:gIx (f8 l) (.int 2) M R=R (e7 l.2.2) M:=iN
theorem uj{q:Rat}{M:Mem}{R:DK}:gIx (e7 q) (.int 0) M R=R (.int q.num) M:=Y4
theorem ui{q:Rat}{M:Mem}{R:DK}:gIx (e7 q) (.int 1) M R=R (.int (q.den:Int)) M:=Y3
theorem uh{gs:V1}{q:Rat}{e:Ev}{M:Mem}{Q:Ev→Mem→Prop}:nI 2 gs (e7 q) e M Q=gs [.int q.num,.int (q.den:Int)] e M Q:=dN rfl
theorem ug{q:Rat}{M:Mem}{R:DK}:pK [e7 q] M R=R (.int 2) M:=gR rfl
theorem qt{x:Str × Rat}{M:Mem}{R:DK}:gIx (R8 x) (.int 0) M R=R (.str x.1) M:=Y4
theorem qs{x:Str × Rat}{M:Mem}{R:DK}:gIx (R8 x) (.int 1) M R=R (e7 x.2) M:=Y3
theorem qr{gs:V1}{x:Str × Rat}{e:Ev}{M:Mem}{Q:Ev→Mem→Prop}:nI 2 gs (R8 x) e M Q=gs [.str x.1,e7 x.2] e M Q:=dN rfl
theorem lR{q:Rat}{M:Mem}{R:DK}:B3 [e7 q,.ty "tuple"] M R=R (.bl true) M:=p8 rfl rfl
theorem gz{x:Str × Rat}{M:Mem}{R:DK}:B3 [R8 x,.ty "tuple"] M R=R (.bl true) M:=p8 rfl rfl
theorem qq{x:Str × Rat}{M:Mem}{R:DK}:pK [R8 x] M R=R (.int 2) M:=gR rfl
theorem zF{q:Rat}:cl 60 (e7 q)=true:=rfl
theorem zH{q:Rat}:cl 59 (e7 q)=true:=rfl
theorem zI{q:Rat}:cl 58 (e7 q)=true:=rfl
theorem zJ{q:Rat}:cl 57 (e7 q)=true:=rfl
theorem r0:D.tup [.int 0,.int 1]=e7 0:=rfl
theorem r1:D.tup [.int 1,.int 1]=e7 1:=rfl
theorem r2:D.tup [.int 2,.int 1]=e7 2:=rfl
theorem r4:D.tup [.int 4,.int 1]=e7 4:=rfl
theorem GX{q:Rat}:D.tup [.int (q.num.natAbs:Int),.int (q.den:Int)]=e7 (j4 q):=(FI q).symm
theorem GW{q:Rat}:D.tup [.int (-q.num),.int (q.den:Int)]=e7 (-q):=by unfold e7;rw[Pq,Qi]
theorem Em{q:Rat}:D.tup [.int q.num,.int (q.den:Int)]=e7 q:=rfl
theorem rm2:D.tup [.int (-2),.int 1]=e7 (-2):=rfl
theorem rm1:D.tup [.int (-1),.int 1]=e7 (-1):=rfl
end GM
local macro_rules|`(tactic| walk_at "inj")=>`(tactic| (rename_i e h;simp only[List.cons.injEq,and_true,true_and,GM.i3,GM.i5,GM.h8,GM.i6,GM.h9,DL.D.tup.injEq,DL.D.ref.injEq,DL.D.int.injEq,DL.D.str.injEq,DL.D.bl.injEq,DL.D.vl.injEq,MU,and_assoc]at e;(repeat(obtain⟨e1,e⟩:=e;subst e1));subst e;exact h))
local macro_rules|`(tactic| walk_at "injs")=>`(tactic| (rename_i e o h;rcases o with o|o<;>(subst o;first|(exfalso;simp only[DL.D.tup.injEq,List.cons.injEq,reduceCtorEq,false_and,and_false]at e;done)|(simp only[List.cons.injEq,and_true,true_and,GM.i3,GM.i5,GM.h8,GM.i6,GM.h9,DL.D.tup.injEq,DL.D.ref.injEq,DL.D.int.injEq,DL.D.str.injEq,DL.D.bl.injEq,DL.D.vl.injEq,MU,and_assoc]at e;(repeat(obtain⟨e1,e⟩:=e;subst e1));subst e;exact h))))
namespace GM
open PySem PySem.Spec L2 DL
open RM (sz)
theorem bQ{a b:Nat}{M:Mem}{R:DK}{Y:DXK}:N4 [.int (a:Int),.int (b:Int)] M R Y=(R (.int ((NH a b:Nat):Int)) M):=propext ⟨fun z=>by obtain⟨_,_,_,_⟩:=z;walk_at "inj",fun h=>⟨a,b,rfl,h⟩⟩
theorem qc{q:Rat}{M:Mem}{R:DK}{Y:DXK}:qW [e7 q] M R Y=(R (e7 (-q)) M):=propext ⟨fun z=>by obtain⟨_,_,_⟩:=z;walk_at "inj",fun h=>⟨q,rfl,h⟩⟩
theorem lh{q r:Rat}{M:Mem}{R:DK}{Y:DXK}:S2 [e7 q,e7 r] M R Y=(sz q+sz r≤8900∧R (e7 (q+r)) M):=propext ⟨fun z=>by obtain⟨_,_,_,_⟩:=z;walk_at "inj",fun h=>⟨q,r,rfl,h⟩⟩
theorem gg{q r:Rat}{M:Mem}{R:DK}{Y:DXK}:iW [e7 q,e7 r] M R Y=(sz q+sz r≤8900∧R (e7 (q - r)) M):=propext ⟨fun z=>by obtain⟨_,_,_,_⟩:=z;walk_at "inj",fun h=>⟨q,r,rfl,h⟩⟩
theorem gc{q r:Rat}{M:Mem}{R:DK}{Y:DXK}:D3 [e7 q,e7 r] M R Y=(sz q+sz r≤8900∧R (e7 (q*r)) M):=propext ⟨fun z=>by obtain⟨_,_,_,_⟩:=z;walk_at "inj",fun h=>⟨q,r,rfl,h⟩⟩
theorem lj{q r:Rat}{M:Mem}{R:DK}{Y:DXK}:oA [e7 q,e7 r] M R Y=(r≠0∧sz q+sz r≤8900∧R (e7 (q / r)) M):=propext ⟨fun z=>by obtain⟨_,_,_,_⟩:=z;walk_at "inj",fun h=>⟨q,r,rfl,h⟩⟩
theorem qd{a b:Int}{M:Mem}{R:DK}{Y:DXK}:E4 [.int a,.int b] M R Y=(b≠0∧b.natAbs.log2<9000∧R (e7 (MZ a b)) M):=propext ⟨fun z=>by obtain⟨_,_,_,_⟩:=z;walk_at "inj",fun h=>⟨a,b,rfl,h⟩⟩
theorem kZ{c:Int}{M:Mem}{R:DK}{Y:DXK}:oz [.int c] M R Y=(∀ p M',M p=none→MK M M'→A9 M' p→R (.ref p) M'):=propext ⟨fun z=>by obtain⟨_,_,_⟩:=z;walk_at "inj",fun h=>⟨c,rfl,h⟩⟩
theorem ll{p:Addr}{b:Int}{M:Mem}{R:DK}{Y:DXK}:J8 [.ref p,.int b] M R Y=(A9 M p∧0<b∧b.natAbs.log2<9000∧∀(r:Int) M',0≤r→r<b→q9 p M M'→R (.int r) M'):=propext ⟨fun z=>by obtain⟨_,_,_,_⟩:=z;walk_at "inj",fun h=>⟨p,b,rfl,h⟩⟩
theorem dh{p:Addr}{M:Mem}{R:DK}{Y:DXK}:aq [.ref p] M R Y=(A9 M p∧∀(q:Rat) M',RM.sz q≤41→q9 p M M'→R (e7 q) M'):=propext ⟨fun z=>by obtain⟨_,_,_⟩:=z;walk_at "inj",fun h=>⟨p,rfl,h⟩⟩
theorem qe{q:Rat}{M:Mem}{R:DK}{Y:DXK}:dR [e7 q] M R Y=(R (e7 (j4 q)) M):=propext ⟨fun z=>by obtain⟨_,_,_⟩:=z;walk_at "inj",fun h=>⟨q,rfl,h⟩⟩
theorem bL{k:Nat}:∀{ds:List D},(∀ x∈ds,cl k x=true)→clL k ds=true
 | [],_=>rfl
 | d :: r,h=>by
  show(cl k d && clL k r)=true
  rw[h d Mz,bL (fun x hx=>h x (Mx _ hx))];rfl
theorem q9.put{p l:Addr}{M M':Mem}{o:MO}(h:q9 p M M')(hl:M l=none)(hp:l≠p):q9 p M (B5 M' l o):=⟨fun b u hb e=>by
  rw[F9 (by intro z;subst z;rw[hl]at e;cases e)];exact h.keep b u hb e,by
  obtain⟨x,y,z,e⟩:=h.pool.ex
  exact⟨x,y,z,by rw[F9 (Ne.symm hp)];exact e⟩⟩
theorem q9.del{p l:Addr}{M M':Mem}(h:q9 p M M')(hl:M l=none)(hp:l≠p):q9 p M (cE M' l):=⟨fun b u hb e=>by
  rw[kD (by intro z;subst z;rw[hl]at e;cases e)];exact h.keep b u hb e,by
  obtain⟨x,y,z,e⟩:=h.pool.ex
  exact⟨x,y,z,by rw[kD (Ne.symm hp)];exact e⟩⟩
theorem pQ{ds:List D}{n:Nat}:O2 ds none (some (n:Int))=ds.take n:=by
 unfold O2 HT.sIx
 simp only[QY,Nat.sub_zero]
 rw[if_neg (by omega)]
 by_cases h:n≤ds.length
 ·congr 1;omega
 ·rw[Oa (by omega),Oa (by omega)]
theorem R0{xs:List D}{r:Int}{M:Mem}{R:DK}(h0:0≤r)(h1:r<xs.length)(h:∀ d∈xs,R d M):gIx (.vl xs) (.int r) M R:=by
 obtain⟨z,e,hz⟩:=so h0 h1
 exact⟨z,e,h z hz⟩
end GM
set_option maxHeartbeats 1000000
namespace GM
open PySem PySem.Spec L2 DL
open RM (sz)
noncomputable def N8(l:Rat × Rat × Rat)(y u:Rat):Bool:=decide (j4 (l.1*y+l.2.1*u)≤l.2.2)
noncomputable def E6(ls:List (Rat × Rat × Rat))(y u:Rat):Bool:=ls.all fun l=>N8 l y u
structure LSz(n:Nat)(l:Rat × Rat × Rat):Prop where
 p:sz l.1≤n
 q:sz l.2.1≤n
 r:sz l.2.2≤n
structure LOk(n:Nat)(l:Rat × Rat × Rat):Prop extends LSz n l where
 ne:¬ (l.1=0∧l.2.1=0)
noncomputable def O6(p q y u:Rat):Int:=p.num*y.num*q.den*u.den+q.num*u.num*p.den*y.den
noncomputable def K9(p q y u:Rat):Int:=p.den*y.den*q.den*u.den
def CB(B m:Nat)(x:Rat):Prop:=∃ n:Int,x=MZ n (B:Int)∧n.natAbs≤B*2 ^ m
def Col(k:Nat)(xs:List Rat):Prop:=∃ B:Nat,0<B∧B≤2 ^ (42*k)∧∀ x∈xs,CB B (41+2*k) x
theorem Col.nil:Col 0 []:=⟨1,by decide,by decide,fun x hx=>by cases hx⟩
theorem CB.mono{B m m':Nat}{x:Rat}(h:CB B m x)(hm:m≤m'):CB B m' x:=by
 obtain⟨n,e,h⟩:=h
 exact⟨n,e,ME h (Qk _ (My (by decide) hm))⟩
theorem CB.scale{B m:Nat}{x:Rat}(h:CB B m x)(hB:0<B){c:Nat}(hc:0<c):CB (B*c) m x:=by
 obtain⟨n,e,h⟩:=h
 refine⟨n*c,?_,?_⟩
 ·rw[e,OC,OR (by omega)]
 ·rw[Nf,MC]
  have:=Nm c h
  rw[Nat.mul_right_comm]at this
  exact this
theorem CB.sz{B m k:Nat}{x:Rat}(h:CB B m x)(hB:0<B)(hk:B≤2 ^ k):RM.sz x≤k+m+1:=by
 obtain⟨n,rfl,h⟩:=h
 refine M0 (by omega) ?_ ?_ (by omega)
 ·have h2:B*2 ^ m≤2 ^ (k+m):=by rw[Nt];exact Nm _ hk
  exact MP (ME h h2) (PZ (by decide) (by omega))
 ·rw[MC]
  exact MP hk (PZ (by decide) (by omega))
theorem Col.sz{k:Nat}{xs:List Rat}(h:Col k xs)(hk:k≤12){x:Rat}(hx:x∈xs):RM.sz x≤600:=by
 obtain⟨B,b0,b1,h⟩:=h
 have:=(h x hx).sz b0 b1
 omega
theorem Col.new{k:Nat}{xs:List Rat}(h:Col k xs){x:Rat}(hx:RM.sz x≤41):Col (k+1) (xs++[x]):=by
 obtain⟨B,b0,b1,h⟩:=h
 have hd:x.den<2 ^ 41:=o8 x hx
 have hn:x.num.natAbs<2 ^ 41:=L1 x hx
 have d0:=x.den_pos
 refine⟨B*x.den,QQ b0 d0,?_,fun z hz=>?_⟩
 ·have:=Qe b1 (NC hd)
  rw[← Nt]at this
  exact ME this (My (by decide) (by omega))
 ·rcases MX.mp hz with hz|hz
  ·exact((h z hz).scale b0 d0).mono (by omega)
  ·obtain rfl:z=x:=by simpa using hz
   refine⟨z.num*B,?_,?_⟩
   ·rw[Oh,OC,OR (by omega),Nn]
   ·rw[Nf,MC,Oh,Qt]
    refine Qk _ (ME (NC hn) ?_)
    have h1:2 ^ 41≤2 ^ (41+2*(k+1)):=My (by decide) (by omega)
    exact ME h1 (Nat.le_mul_of_pos_left _ d0)
theorem Col.add{k:Nat}{xs:List Rat}(h:Col k xs){x y:Rat}(hx:x∈xs)(hy:y∈xs):Col (k+1) (xs++[x+y]):=by
 obtain⟨B,b0,b1,h⟩:=h
 refine⟨B,b0,ME b1 (My (by decide) (by omega)),fun z hz=>?_⟩
 rcases MX.mp hz with hz|hz
 ·exact(h z hz).mono (by omega)
 ·obtain rfl:z=x+y:=by simpa using hz
  obtain⟨n,rfl,hn⟩:=h x hx
  obtain⟨m,rfl,hm⟩:=h y hy
  refine⟨n+m,?_,?_⟩
  ·rw[PM _ _ (by omega) (by omega),← Int.add_mul,OR (by omega)]
  ·have:=OG n m
   have e:41+2*(k+1)=(41+2*k)+1+1:=by omega
   rw[e,NJ,NJ]
   generalize 2 ^ (41+2*k)=t at *
   have:B*(t*2*2)=4*(B*t):=by grind
   omega
theorem Col.again{k:Nat}{xs:List Rat}(h:Col k xs){x:Rat}(hx:x∈xs):Col (k+1) (xs++[x]):=by
 obtain⟨B,b0,b1,h⟩:=h
 refine⟨B,b0,ME b1 (My (by decide) (by omega)),fun z hz=>?_⟩
 rcases MX.mp hz with hz|hz
 ·exact(h z hz).mono (by omega)
 ·obtain rfl:z=x:=by simpa using hz
  exact(h z hx).mono (by omega)
theorem Col.by{k:Nat}{xs:List Rat}(h:Col k xs){x w:Rat}(hx:x∈xs)(h1:w.num.natAbs≤4)(h2:w.den≤4):Col (k+1) (xs++[w*x]):=by
 obtain⟨B,b0,b1,h⟩:=h
 have d0:=w.den_pos
 refine⟨B*w.den,QQ b0 d0,?_,fun z hz=>?_⟩
 ·have:=Qe b1 (show w.den≤2 ^ 2 from h2)
  rw[← Nt]at this
  exact ME this (My (by decide) (by omega))
 ·rcases MX.mp hz with hz|hz
  ·exact((h z hz).scale b0 d0).mono (by omega)
  ·obtain rfl:z=w*x:=by simpa using hz
   obtain⟨n,rfl,hn⟩:=h x hx
   refine⟨w.num*n,?_,?_⟩
   ·rw[OC,Int.mul_comm (B:Int),← OK,Nn]
   ·rw[Nf]
    have e:41+2*(k+1)=(41+2*k)+2:=by omega
    rw[e,Nt]
    have:=Qe h1 hn
    generalize 2 ^ (41+2*k)=t at *
    have h3:B*w.den*(t*2 ^ 2)=4*(B*t)*w.den:=by grind
    rw[h3]
    exact ME this (Nat.le_mul_of_pos_right _ d0)
theorem fV{a b c d:Int}(hb:0<b)(hd:0<d):MZ a b≤MZ c d↔a*d≤c*b:=by
 rw[Rat.le_iff_sub_nonneg,Rat.divInt_sub_divInt _ _ (by omega) (by omega),Oy (NR hd hb)]
 omega
theorem nu{l:Rat × Rat × Rat}{y u:Rat}:N8 l y u = !decide (l.2.2<j4 (l.1*y+l.2.1*u)):=by
 unfold N8
 by_cases h:j4 (l.1*y+l.2.1*u)≤l.2.2
 ·rw[decide_eq_true h,decide_eq_false (by grind)];rfl
 ·rw[decide_eq_false h,decide_eq_true (by grind)];rfl
theorem m7{a b:Int}{m n:Nat}(h1:a.natAbs<2 ^ m)(h2:b.natAbs<2 ^ n):(a*b).natAbs<2 ^ (m+n):=by
 rw[Nf,Nt]
 exact Ny h1 (NC h2) (OH (by decide))
theorem vn(p q y u:Rat):(O6 p q y u).natAbs<2 ^ (sz p+sz q+sz y+sz u+1):=by
 unfold O6
 have h1:=m7 (m7 (m7 (j9 p) (j9 y)) (j0 q)) (j0 u)
 have h2:=m7 (m7 (m7 (j9 q) (j9 u)) (j0 p)) (j0 y)
 rw[show sz p+sz y+sz q+sz u=sz p+sz q+sz y+sz u by omega]at h1
 rw[show sz q+sz u+sz p+sz y=sz p+sz q+sz y+sz u by omega]at h2
 have:=OG (p.num*y.num*q.den*u.den) (q.num*u.num*p.den*y.den)
 rw[NJ]
 omega
theorem pV(p q y u:Rat):(K9 p q y u).natAbs<2 ^ (sz p+sz q+sz y+sz u):=by
 unfold K9
 have h1:=m7 (m7 (m7 (j0 p) (j0 y)) (j0 q)) (j0 u)
 rw[show sz p+sz y+sz q+sz u=sz p+sz q+sz y+sz u by omega]at h1
 exact h1
theorem tD{l:Rat × Rat × Rat}{y u:Rat}:((O6 l.1 l.2.1 y u).natAbs:Int)*(l.2.2.den:Int)≤l.2.2.num*K9 l.1 l.2.1 y u↔N8 l y u=true:=by
 have b0:0<K9 l.1 l.2.1 y u:=by
  unfold K9
  exact NR (NR (NR (by have:=l.1.den_pos;omega) (by have:=y.den_pos;omega)) (by have:=l.2.1.den_pos;omega)) (by have:=u.den_pos;omega)
 have e:l.1*y+l.2.1*u=MZ (O6 l.1 l.2.1 y u) (K9 l.1 l.2.1 y u):=by
  conv=>lhs;rw[← Nn l.1,← Nn y,← Nn l.2.1,← Nn u]
  rw[OK,OK,PM _ _ (Nj (RM.t8 _) (RM.t8 _)) (Nj (RM.t8 _) (RM.t8 _))]
  unfold O6 K9
  congr 1<;>grind
 unfold N8
 rw[e,decide_eq_true_iff]
 generalize K9 l.1 l.2.1 y u=b at *
 generalize O6 l.1 l.2.1 y u=t at *
 have ea:j4 (MZ t b)=MZ (t.natAbs:Int) b:=by
  unfold j4
  have hh:=Oy (a:=t) b0
  split
  ·rename_i h;have:=hh.mp h;rw[show(t.natAbs:Int)=t by omega]
  ·rename_i h;have:¬ 0≤t:=fun z=>h (hh.mpr z);rw[show(t.natAbs:Int) = -t by omega,← Rat.neg_divInt]
 rw[ea]
 conv=>rhs;rw[← Nn l.2.2]
 exact(fV b0 (by have:=l.2.2.den_pos;omega)).symm
theorem pG{ls:List (Rat × Rat × Rat)}{y u:Rat}(h:∀(i:Nat) (l:Rat × Rat × Rat),ls[i]? = some l→N8 l y u=true):E6 ls y u=true:=by
 unfold E6
 rw[NG]
 intro x hx
 obtain⟨i,hi,e⟩:=Qa.mp hx
 exact h i x (by rw[MS hi,e])
theorem wZ{ls:List (Rat × Rat × Rat)}{y u:Rat}{l:Rat × Rat × Rat}(hl:l∈ls)(h:N8 l y u=false):E6 ls y u=false:=by
 unfold E6
 rw[Qz]
 exact⟨l,hl,by rw[h];decide⟩
theorem bF{ls:List (Rat × Rat × Rat)}{i:Nat}{d:D}(h:(ls.map f8)[i]? = some d):∃ l,ls[i]? = some l∧d=f8 l:=by
 rw[MV]at h
 cases e:ls[i]? with
 | none=>rw[e]at h;cases h
 | some l=>rw[e]at h;exact⟨l,rfl,(Option.some.inj h).symm⟩
theorem eP{l:Addr}{xs:List D}{r:Int}{M:Mem}{R:DK}(hM:M l=some (.lst xs))(h0:0≤r)(h1:r<xs.length)(h:∀ d∈xs,R d M):gIx (.ref l) (.int r) M R:=by
 obtain⟨z,e,hz⟩:=so h0 h1
 exact⟨z,E2 hM e,h z hz⟩
structure R7(k:Nat)(ls:List (Rat × Rat × Rat)):Prop where
 p:Col k (ls.map fun l=>l.1)
 q:Col k (ls.map fun l=>l.2.1)
 r:Col k (ls.map fun l=>l.2.2)
 ne:∀ l∈ls,¬ (l.1=0∧l.2.1=0)
theorem R7.nil:R7 0 []:=⟨Col.nil,Col.nil,Col.nil,fun _ h=>nomatch h⟩
theorem km{ls:List (Rat × Rat × Rat)}{x:Rat × Rat × Rat}(h:∀ l∈ls,¬ (l.1=0∧l.2.1=0))(hx:¬ (x.1=0∧x.2.1=0)):∀ l∈ls++[x],¬ (l.1=0∧l.2.1=0):=fun l hl=>by
 rcases MX.mp hl with z|z
 ·exact h l z
 ·rw[Nc.mp z];exact hx
theorem aa{ls:List (Rat × Rat × Rat)}{x:Rat × Rat × Rat}(h:x∈ls)(f:Rat × Rat × Rat→Rat):f x∈ls.map f:=MD.mpr ⟨x,h,rfl⟩
theorem R7.new{k:Nat}{ls:List (Rat × Rat × Rat)}(h:R7 k ls){x:Rat × Rat × Rat}(hx:LOk 41 x):R7 (k+1) (ls++[x]) :=
 ⟨by rw[MR];exact h.p.new hx.p,by rw[MR];exact h.q.new hx.q,by rw[MR];exact h.r.new hx.r,km h.ne hx.ne⟩
theorem R7.again{k:Nat}{ls:List (Rat × Rat × Rat)}(h:R7 k ls){x:Rat × Rat × Rat}(hx:x∈ls):R7 (k+1) (ls++[x]) :=
 ⟨by rw[MR];exact h.p.again (aa hx _),by rw[MR];exact h.q.again (aa hx _),by rw[MR];exact h.r.again (aa hx _),km h.ne (h.ne x hx)⟩
theorem R7.sum{k:Nat}{ls:List (Rat × Rat × Rat)}(h:R7 k ls){x y:Rat × Rat × Rat}(hx:x∈ls)(hy:y∈ls)(hn:¬ (x.1+y.1=0∧x.2.1+y.2.1=0)):R7 (k+1) (ls++[(x.1+y.1,x.2.1+y.2.1,x.2.2+y.2.2)]) :=
 ⟨by rw[MR];exact h.p.add (aa hx _) (aa hy _),by rw[MR];exact h.q.add (aa hx (fun l=>l.2.1)) (aa hy (fun l=>l.2.1)),by rw[MR];exact h.r.add (aa hx (fun l=>l.2.2)) (aa hy (fun l=>l.2.2)),km h.ne hn⟩
structure eX(w:Rat):Prop where
 n:w.num.natAbs≤4
 d:w.den≤4
 ne:w≠0
theorem R7.taken{k:Nat}{ls:List (Rat × Rat × Rat)}(h:R7 k ls){x:Rat × Rat × Rat}(hx:x∈ls){w r:Rat}(hw:eX w)(hr:r=x.2.2∨sz r≤41):R7 (k+1) (ls++[(w*x.1,w*x.2.1,r)]) :=
 ⟨by rw[MR];exact h.p.by (aa hx _) hw.n hw.d,by rw[MR];exact h.q.by (aa hx (fun l=>l.2.1)) hw.n hw.d,by
  rw[MR]
  rcases hr with rfl|hr
  ·exact h.r.again (aa hx (fun l=>l.2.2))
  ·exact h.r.new hr,km h.ne fun z=>h.ne x hx (by
   have a:=hw.ne
   have b1:w*x.1=0:=z.1
   have b2:w*x.2.1=0:=z.2
   exact⟨by grind,by grind⟩)⟩
theorem R7.ok{k:Nat}{ls:List (Rat × Rat × Rat)}(h:R7 k ls)(hk:k≤12):∀ l∈ls,LOk 600 l:=fun l hl =>
 ⟨⟨h.p.sz hk (aa hl _),h.q.sz hk (aa hl (fun l=>l.2.1)),h.r.sz hk (aa hl (fun l=>l.2.2))⟩,h.ne l hl⟩
theorem iX{a b:Int}(h0:a.natAbs≤4)(h1:0<b)(h2:b≤4)(h3:MZ a b≠0):eX (MZ a b):=by
 have ha:a = -4∨a = -3∨a = -2∨a = -1∨a=0∨a=1∨a=2∨a=3∨a=4:=by omega
 have hb:b=1∨b=2∨b=3∨b=4:=by omega
 refine⟨?_,?_,h3⟩<;>(rcases ha with rfl|rfl|rfl|rfl|rfl|rfl|rfl|rfl|rfl<;>rcases hb with rfl|rfl|rfl|rfl<;>decide)
theorem small_one:eX 1:=⟨by decide,by decide,by decide⟩
theorem eX.sz{w:Rat}(h:eX w):RM.sz w≤3:=by
 rw[← Nn w]
 exact M0 (by decide) (by have:=h.n;omega) (by have:=h.d;omega) (RM.t8 w)
noncomputable def rD(r:Rat × Rat):D:=r9 r.1 r.2
noncomputable def nr(l:Nat × Rat × Rat × Rat):D:=.tup [.int (l.1:Int),e7 l.2.1,e7 l.2.2.1,e7 l.2.2.2]
end GM
namespace DL
open PySem PySem.Spec L2
open PyProof.Rows hiding St
section
variable {X:Cx} {name:Str} {id:String} {o:Expr} {to:DTE} {apos cpos:Pos}
end
section
variable {e:Ev} {M:Mem} {R:DK} {to:DTE}
end
end DL
namespace L2
open PySem PySem.Spec PyProof.Rows
end L2
namespace DL
open PySem PySem.Spec L2
open PyProof.Rows hiding St
end DL
namespace L2
open PySem PySem.Spec PyProof.Rows
abbrev F8(h:Heap)(T:Addr)(a b c:Value):Prop:=h.get? T=some { cls:=.type "tuple",data:=.seq #[a,b,c] }
section
variable {prog:Program} {w:World} {A:Around} {E:Value→Shared→Prop} {s:Shared}
theorem jR{T:Addr}{a b c x:Value}{k:Nat}{Q:Unit→Shared→Prop}(hT:F8 s.heap T a b c)
  (q:∀ h',h'.get? T=some { cls:=.type "tuple",data:=.seq ((#[a,b,c]:Array Value).setIfInBounds k x) }→Heap.SameBut T s.heap h'→Q () { s with heap:=h' }) :
  wpAny (model prog w) A (updateSeq T (·.setIfInBounds k x)) Q E s:=by
 refine wpAny_updateSeq hT rfl (q _ ?_ (Heap.SameBut.update ..))
 rw[Nw _ hT rfl]
 simp[Obj.mapSeq]
structure BP(k1 k2 k3:Bool)(n l1 l2 l3:Addr)(i:Nat)(h:Heap):Prop where
 z:IsZip h (n+5) (n+3) (n+4) .none
 I:F8 h (n+3) (.ref n) (.ref (n+1)) (.ref (n+2))
 O:∃ a b c,F8 h (n+4) a b c
 g1:SI k1 h n l1 i
 g2:SI k2 h (n+1) l2 i
 g3:SI k3 h (n+2) l3 i
theorem DT{n l1 l2 l3:Addr}{k1 k2 k3:Bool}{i:Nat}{xs ys zs:Array Value}{v1 v2 v3:Value}{Q:Option Value→Shared→Prop}(b1:l1<n)(b2:l2<n)(b3:l3<n)(Z:BP k1 k2 k3 n l1 l2 l3 i s.heap)
  (m1:SS k1 s.heap l1 xs) (m2:SS k2 s.heap l2 ys) (m3:SS k3 s.heap l3 zs) (w1:xs[i]? = some v1) (w2:ys[i]? = some v2) (w3:zs[i]? = some v3)
  (q:∀ h',IsZip h' (n+5) (n+3) (n+4) (rawInt s.heap.objs.size)→F8 h' (n+3) (.ref n) (.ref (n+1)) (.ref (n+2))→F8 h' (n+4) v1 v2 v3→SI k1 h' n l1 (i+1)→SI k2 h' (n+1) l2 (i+1)→SI k3 h' (n+2) l3 (i+1)→F8 h' s.heap.objs.size v1 v2 v3→h'.objs.size=s.heap.objs.size+1 →
   (∀ b o,b∉[n,n+1,n+2,n+3,n+4,n+5]→s.heap.get? b=some o→h'.get? b=some o)→Q (some (.ref s.heap.objs.size)) { s with heap:=h' }):wpAny (model prog w) A (pyNext (.ref (n+5))) Q E s:=by
 obtain⟨iz,iI,⟨u1,u2,u3,iO⟩,g1,g2,g3⟩:=Z
 have c1:@LT.lt Nat instLTNat l1 n:=b1
 have c2:@LT.lt Nat instLTNat l2 n:=b2
 have c3:@LT.lt Nat instLTNat l3 n:=b3
 have ty:s.TypeIs (.ref (n+5)) "zip" := ⟨_,iz,rfl⟩
 unfold pyNext
 refine Mq (wpAny_attempt (wpAny_callSpecial?_slot (name:=Str.ofString "__next__") ty F.slot_zip_next (wpAny_call_entry F.slot_zip_next ty F.entry_zip_next ?_ (F.args_zip_next_1 _))))
 show wpAny _ _ (field (.ref (n+5)) 2 >>= _) _ _ _
 refine Mq (wpAny_field iz rfl (x:=.bool false) rfl ?_)
 show wpAny _ _ (field (.ref (n+5)) 3 >>= _) _ _ _
 refine Mq (wpAny_field iz rfl (x:=.ref (n+3)) rfl (Mq (wpAny_seqItems iI rfl ?_)))
 show wpAny _ _ (Builtin.SmallTypes.ownedTupleIsFree (.ref (n+5)) >>= _) _ _ _
 refine Mq ?_;unfold Builtin.SmallTypes.ownedTupleIsFree
 refine Mq (wpAny_field iz rfl (x:=.none) rfl (Mu ?_));simp only[if_true]
 refine Mq (wpAny_rule (Mq (wpAny_field iz rfl (x:=.ref (n+4)) rfl (Mq (wpAny_setField_rec iz (by simp) fun ha za sa=>?_)))))
 replace za:IsZip ha (n+5) (n+3) (n+4) .ellipsis:=za
 refine Mq ?_;simp only[ON,OY,OB,Ph]
 have ne:∀{x y:Nat},x<y→x≠y:=fun h=>MN h
 have ne':∀{x y:Nat},x<y→y≠x:=fun h=>Nl h
 refine Mq (Mq (wpAny_onRaise ?_))
 show wpAny _ _ (Builtin.SmallTypes.nextOf (.ref n) >>= _) _ _ _
 refine Mq (O9 (g1.but sa.extBut (ne (by omega))) (m1.but sa.extBut (ne (by omega))) w1 fun hb gb sb=>Mu ?_)
 have oB:F8 hb (n+4) u1 u2 u3:=sb.extBut _ _ (ne' (by omega)) (sa.extBut _ _ (ne (by omega)) iO)
 refine Mq (wpAny_seqItems oB rfl (Mq (jR oB fun hc oC sc=>?_)))
 replace oC:F8 hc (n+4) v1 u2 u3:=oC
 refine Mq (wpAny_letGo (Mu (Mq (Mq (wpAny_onRaise ?_)))))
 show wpAny _ _ (Builtin.SmallTypes.nextOf (.ref (n+1)) >>= _) _ _ _
 refine Mq (O9 (((g2.but sa.extBut (ne (by omega))).but sb.extBut (ne' (by omega))).but sc.extBut (ne (by omega))) (((m2.but sa.extBut (ne (by omega))).but sb.extBut (ne (by omega))).but sc.extBut (ne (by omega))) w2 fun hd gd sd=>Mu ?_)
 have oD:F8 hd (n+4) v1 u2 u3:=sd.extBut _ _ (ne' (by omega)) oC
 refine Mq (wpAny_seqItems oD rfl (Mq (jR oD fun he oE se=>?_)))
 replace oE:F8 he (n+4) v1 v2 u3:=oE
 refine Mq (wpAny_letGo (Mu (Mq (Mq (wpAny_onRaise ?_)))))
 show wpAny _ _ (Builtin.SmallTypes.nextOf (.ref (n+2)) >>= _) _ _ _
 refine Mq (O9 (((((g3.but sa.extBut (ne (by omega))).but sb.extBut (ne' (by omega))).but sc.extBut (ne (by omega))).but sd.extBut (ne' (by omega))).but se.extBut (ne (by omega))) (((((m3.but sa.extBut (ne (by omega))).but sb.extBut (ne (by omega))).but sc.extBut (ne (by omega))).but sd.extBut (ne (by omega))).but se.extBut (ne (by omega))) w3 fun hf gf sf=>Mu ?_)
 have oF:F8 hf (n+4) v1 v2 u3:=sf.extBut _ _ (ne' (by omega)) oE
 refine Mq (wpAny_seqItems oF rfl (Mq (jR oF fun hg oG sg=>?_)))
 replace oG:F8 hg (n+4) v1 v2 v3:=oG
 refine Mq (wpAny_letGo (Mu (Mu (Mq (wpAny_seqItems oG rfl (Mq (wpAny_newTuple ?_)))))))
 have sz:hg.objs.size=s.heap.objs.size:=by rw[sg.1,sf.1,se.1,sd.1,sc.1,sb.1,sa.1]
 have kp:∀ b o,b≠n+5→b≠n+4→b≠n→b≠n+1→b≠n+2→s.heap.get? b=some o→hg.get? b=some o:=fun b o c1 c2 c3 c4 c5 e=>sg.extBut _ _ c2 (sf.extBut _ _ c5 (se.extBut _ _ c2 (sd.extBut _ _ c4 (sc.extBut _ _ c2 (sb.extBut _ _ c3 (sa.extBut _ _ c1 e))))))
 have zG:IsZip hg (n+5) (n+3) (n+4) .ellipsis:=sg.extBut _ _ (ne' (by omega)) (sf.extBut _ _ (ne' (by omega)) (se.extBut _ _ (ne' (by omega)) (sd.extBut _ _ (ne' (by omega)) (sc.extBut _ _ (ne' (by omega)) (sb.extBut _ _ (ne' (by omega)) za)))))
 have e1:SI k1 hg n l1 (i+1):=((((gb.but sc.extBut (ne (by omega))).but sd.extBut (ne (by omega))).but se.extBut (ne (by omega))).but sf.extBut (ne (by omega))).but sg.extBut (ne (by omega))
 have e2:SI k2 hg (n+1) l2 (i+1):=((gd.but se.extBut (ne (by omega))).but sf.extBut (ne (by omega))).but sg.extBut (ne (by omega))
 have e3:SI k3 hg (n+2) l3 (i+1):=gf.but sg.extBut (ne (by omega))
 have ltz:n+5<hg.objs.size:=MB zG
 show wpAny _ _ (Builtin.SmallTypes.ownedTupleHandOut (.ref (n+5)) (.ref hg.objs.size) >>= _) _ _ _
 refine Mq ?_;unfold Builtin.SmallTypes.ownedTupleHandOut
 refine Mq (wpAny_setField_rec (Mr _ zG) (by simp) fun hi zi si=>?_)
 replace zi:IsZip hi (n+5) (n+3) (n+4) (rawInt hg.objs.size):=zi
 refine wpAny_setField_rec zi (by simp) fun hj zj sj=>?_
 replace zj:IsZip hj (n+5) (n+3) (n+4) (rawInt hg.objs.size):=zj
 have lift:∀ b o,b≠n+5→hg.get? b=some o→hj.get? b=some o:=fun b o c e=>sj.extBut _ _ c (si.extBut _ _ c (Mr _ e))
 have tJ:F8 hj hg.objs.size v1 v2 v3:=sj.extBut _ _ (Nl ltz) (si.extBut _ _ (Nl ltz) (Mw _ rfl))
 have sz2:hj.objs.size=hg.objs.size+1:=by rw[sj.1,si.1,Nd]
 rw[sz]at zj tJ sz2
 refine Mu ⟨_,rfl,Mu ?_⟩
 show Q (some (.ref hg.objs.size)) _
 rw[sz]
 refine q hj zj (lift _ _ (ne (by omega)) (kp _ _ (ne (by omega)) (ne (by omega)) (ne' (by omega)) (ne' (by omega)) (ne' (by omega)) iI)) (lift _ _ (ne (by omega)) oG) (e1.at fun o e=>lift _ o (ne (by omega)) e) (e2.at fun o e=>lift _ o (ne (by omega)) e) (e3.at fun o e=>lift _ o (ne (by omega)) e) tJ sz2 fun b o hb e=>?_
 simp only[Mv,MG,or_false,not_or]at hb
 exact lift b o hb.2.2.2.2.2 (kp b o hb.2.2.2.2.2 hb.2.2.2.2.1 hb.1 hb.2.1 hb.2.2.1 e)
theorem HM{n l1 l2 l3:Addr}{k1 k2 k3:Bool}{i:Nat}{xs:Array Value}{Q:Option Value→Shared→Prop}(hA:A.handled=none)(b1:l1<n)(Z:BP k1 k2 k3 n l1 l2 l3 i s.heap)
  (m1:SS k1 s.heap l1 xs) (w1:xs[i]? = none)
  (q:∀ h',(∀ b o,b∉[n,n+1,n+2,n+3,n+4,n+5]→s.heap.get? b=some o→h'.get? b=some o)→Q none { s with heap:=h' }):wpAny (model prog w) A (pyNext (.ref (n+5))) Q E s:=by
 obtain⟨iz,iI,⟨u1,u2,u3,iO⟩,g1,g2,g3⟩:=Z
 have c1:@LT.lt Nat instLTNat l1 n:=b1
 have ty:s.TypeIs (.ref (n+5)) "zip" := ⟨_,iz,rfl⟩
 unfold pyNext
 refine Mq (wpAny_attempt (wpAny_callSpecial?_slot (name:=Str.ofString "__next__") ty F.slot_zip_next (wpAny_call_entry F.slot_zip_next ty F.entry_zip_next ?_ (F.args_zip_next_1 _))))
 show wpAny _ _ (field (.ref (n+5)) 2 >>= _) _ _ _
 refine Mq (wpAny_field iz rfl (x:=.bool false) rfl ?_)
 show wpAny _ _ (field (.ref (n+5)) 3 >>= _) _ _ _
 refine Mq (wpAny_field iz rfl (x:=.ref (n+3)) rfl (Mq (wpAny_seqItems iI rfl ?_)))
 show wpAny _ _ (Builtin.SmallTypes.ownedTupleIsFree (.ref (n+5)) >>= _) _ _ _
 refine Mq ?_;unfold Builtin.SmallTypes.ownedTupleIsFree
 refine Mq (wpAny_field iz rfl (x:=.none) rfl (Mu ?_));simp only[if_true]
 refine Mq (wpAny_rule (Mq (wpAny_field iz rfl (x:=.ref (n+4)) rfl (Mq (wpAny_setField_rec iz (by simp) fun ha za sa=>?_)))))
 replace za:IsZip ha (n+5) (n+3) (n+4) .ellipsis:=za
 refine Mq ?_;simp only[ON,OY,OB,Ph]
 have ne:∀{x y:Nat},x<y→x≠y:=fun h=>MN h
 refine Mq (Mq (wpAny_onRaise ?_))
 show wpAny _ _ (Builtin.SmallTypes.nextOf (.ref n) >>= _) _ _ _
 refine Mq (ja hA (g1.but sa.extBut (ne (by omega))) (m1.but sa.extBut (ne (by omega))) w1 fun hb e sb ⟨oe,oe1,oe2⟩=>?_)
 have zb:IsZip hb (n+5) (n+3) (n+4) .ellipsis:=sb _ _ (Nl (by omega)) za
 have nz:e≠n+5:=fun y=>by subst y;rw[zb]at oe1;cases oe1;simp at oe2
 refine wpAny_setField_rec zb (by simp) fun hc _ sc=>?_
 refine Mq (wpAny_isInstance (T := "StopIteration") (b:=true) ⟨oe,sc.extBut _ _ nz oe1,oe2⟩ isSubtype_stop (Mu (q hc fun b o hb e=>?_)))
 simp only[Mv,MG,or_false,not_or]at hb
 exact sc.extBut _ _ hb.2.2.2.2.2 (sb _ _ hb.1 (sa.extBut _ _ hb.2.2.2.2.2 e))
theorem pI{k:Bool}{a:Addr}{xs:Array Value}{Q:Value→Shared→Prop}(h:SS k s.heap a xs)(q:Q (.ref s.heap.objs.size) { s with heap:=s.heap.push (itO k a) }):wpAny (model prog w) A (pyIter (.ref a)) Q E s:=by
 cases k with
 | true=>exact wpAny_pyIter_list h q
 | false=>exact wpAny_pyIter_tuple h q
end
theorem zY(a b c:Value):checkTypeCall "zip" ⟨[a,b,c],[]⟩=pure ():=by kernel_rfl
theorem Be(a b c:Value):checkBuiltinCall "zip.__new__" ⟨[.type "zip",a,b,c],[]⟩=pure ():=by kernel_rfl
noncomputable abbrev yA(k1:Bool)(h:Heap)(l1:Addr):Heap:=h.push (itO k1 l1)
noncomputable abbrev yB(k1 k2:Bool)(h:Heap)(l1 l2:Addr):Heap:=(yA k1 h l1).push (itO k2 l2)
noncomputable abbrev yC(k1 k2 k3:Bool)(h:Heap)(l1 l2 l3:Addr):Heap:=(yB k1 k2 h l1 l2).push (itO k3 l3)
noncomputable abbrev yD(k1 k2 k3:Bool)(h:Heap)(l1 l2 l3:Addr):Heap:=(yC k1 k2 k3 h l1 l2 l3).push { cls:=.type "tuple",data:=.seq #[.ref h.objs.size,.ref (yA k1 h l1).objs.size,.ref (yB k1 k2 h l1 l2).objs.size] }
noncomputable abbrev yE(k1 k2 k3:Bool)(h:Heap)(l1 l2 l3:Addr):Heap:=(yD k1 k2 k3 h l1 l2 l3).push { cls:=.type "tuple",data:=.seq #[.none,.none,.none] }
noncomputable abbrev yF(k1 k2 k3:Bool)(h:Heap)(l1 l2 l3:Addr):Heap:=(yE k1 k2 k3 h l1 l2 l3).push { cls:=.type "zip",data:=.fields #[.none,.bool false,.bool false,.ref (yC k1 k2 k3 h l1 l2 l3).objs.size,.ref (yD k1 k2 k3 h l1 l2 l3).objs.size] }
set_option maxHeartbeats 2000000 in
theorem yM(k1 k2 k3:Bool)(l1 l2 l3:Addr)(xs ys zs:Array Value) :
  Meets (Builtin.«zip.__new__» ⟨[.type "zip",.ref l1,.ref l2,.ref l3],[]⟩) (fun _ R s=>SS k1 s.heap l1 xs∧SS k2 s.heap l2 ys∧SS k3 s.heap l3 zs∧R (.ok (.ret (.ref (yE k1 k2 k3 s.heap l1 l2 l3).objs.size))) { s with heap:=yF k1 k2 k3 s.heap l1 l2 l3 }) :=
 .of_wp fun prog w A R s h=>by
  obtain⟨hp,g,d,tk,os⟩:=s
  obtain⟨ha,hb,hc,h⟩:=h
  have hsub:=sub_zip
  have a1:SS k1 (Shared.heap ⟨hp,g,d,tk,os⟩) l1 xs:=ha
  have a2:SS k2 (Shared.heap ⟨hp.push (itO k1 l1),g,d,tk,os⟩) l2 ys:=hb.at fun o e=>Mr _ e
  have a3:SS k3 (Shared.heap ⟨(hp.push (itO k1 l1)).push (itO k2 l2),g,d,tk,os⟩) l3 zs:=hc.at fun o e=>Mr _ (Mr _ e)
  wp_walk using pI a1,pI a2,pI a3
  exact⟨_,rfl,h⟩
theorem BM(a b c d:Value):argsOk "object.__init__" ⟨[a,b,c,d],[]⟩:=by
 unfold argsOk
 rw[signature?_of (id := "object.__init__") (n:=['_','_','t','i','n','i','_','_']) (o:=['t','c','e','j','b','o']) (by kernel_rfl) F.owner_object]
 kernel_rfl
section
variable {prog:Program} {w:World} {A:Around} {E:Value→Shared→Prop} {s:Shared}
theorem Fw{k1 k2 k3:Bool}{l1 l2 l3:Addr}{xs ys zs:Array Value}{Q:Value→Shared→Prop}(ha:SS k1 s.heap l1 xs)(hb:SS k2 s.heap l2 ys)(hc:SS k3 s.heap l3 zs)
  (q:∀ h',BP k1 k2 k3 s.heap.objs.size l1 l2 l3 0 h'→h'.objs.size=s.heap.objs.size+6→(∀ b o,s.heap.get? b=some o→h'.get? b=some o)→Q (.ref (s.heap.objs.size+5)) { s with heap:=h' }) :
  wpAny (model prog w) A (call (.type "zip") [.ref l1,.ref l2,.ref l3]) Q E s:=by
 refine callType_new F.called_zip (by decide) (zY _ _ _) (Be _ _ _) (fun obj=>BM obj _ _ _) F.entry_zip_new (yM k1 k2 k3 l1 l2 l3 xs ys zs) ⟨ha,hb,hc,?_⟩
 have s1:(yA k1 s.heap l1).objs.size=s.heap.objs.size+1:=Nd ..
 have s2:(yB k1 k2 s.heap l1 l2).objs.size=s.heap.objs.size+2:=(Nd ..).trans (by rw[s1])
 have s3:(yC k1 k2 k3 s.heap l1 l2 l3).objs.size=s.heap.objs.size+3:=(Nd ..).trans (by rw[s2])
 have s4:(yD k1 k2 k3 s.heap l1 l2 l3).objs.size=s.heap.objs.size+4:=(Nd ..).trans (by rw[s3])
 have s5:(yE k1 k2 k3 s.heap l1 l2 l3).objs.size=s.heap.objs.size+5:=(Nd ..).trans (by rw[s4])
 have s6:(yF k1 k2 k3 s.heap l1 l2 l3).objs.size=s.heap.objs.size+6:=(Nd ..).trans (by rw[s5])
 have o6:(yF k1 k2 k3 s.heap l1 l2 l3).get? (yE k1 k2 k3 s.heap l1 l2 l3).objs.size=some _:=Mw _ rfl
 have u5:∀ b o,(yE k1 k2 k3 s.heap l1 l2 l3).get? b=some o→(yF k1 k2 k3 s.heap l1 l2 l3).get? b=some o:=fun b o e=>Mr _ e
 have o5:(yF k1 k2 k3 s.heap l1 l2 l3).get? (yD k1 k2 k3 s.heap l1 l2 l3).objs.size=some _:=u5 _ _ (Mw _ rfl)
 have u4:∀ b o,(yD k1 k2 k3 s.heap l1 l2 l3).get? b=some o→(yF k1 k2 k3 s.heap l1 l2 l3).get? b=some o:=fun b o e=>u5 b o (Mr _ e)
 have o4:(yF k1 k2 k3 s.heap l1 l2 l3).get? (yC k1 k2 k3 s.heap l1 l2 l3).objs.size=some _:=u4 _ _ (Mw _ rfl)
 have u3:∀ b o,(yC k1 k2 k3 s.heap l1 l2 l3).get? b=some o→(yF k1 k2 k3 s.heap l1 l2 l3).get? b=some o:=fun b o e=>u4 b o (Mr _ e)
 have o3:(yF k1 k2 k3 s.heap l1 l2 l3).get? (yB k1 k2 s.heap l1 l2).objs.size=some (itO k3 l3):=u3 _ _ (Mw _ rfl)
 have u2:∀ b o,(yB k1 k2 s.heap l1 l2).get? b=some o→(yF k1 k2 k3 s.heap l1 l2 l3).get? b=some o:=fun b o e=>u3 b o (Mr _ e)
 have o2:(yF k1 k2 k3 s.heap l1 l2 l3).get? (yA k1 s.heap l1).objs.size=some (itO k2 l2):=u2 _ _ (Mw _ rfl)
 have u1:∀ b o,(yA k1 s.heap l1).get? b=some o→(yF k1 k2 k3 s.heap l1 l2 l3).get? b=some o:=fun b o e=>u2 b o (Mr _ e)
 have o1:(yF k1 k2 k3 s.heap l1 l2 l3).get? s.heap.objs.size=some (itO k1 l1):=u1 _ _ (Mw _ rfl)
 have mk:∀(k:Bool) (b a:Addr),(yF k1 k2 k3 s.heap l1 l2 l3).get? b=some (itO k a)→SI k (yF k1 k2 k3 s.heap l1 l2 l3) b a 0:=fun k b a e=>by cases k<;>exact⟨_,e,rfl,rfl⟩
 show _∧_
 rw[s3,s4,s5]at o6
 rw[s4]at o5
 rw[s1,s2,s3]at o4
 rw[s2]at o3
 rw[s1]at o2
 rw[s5]
 exact⟨⟨_,o6,rfl⟩,q _ ⟨o6,o4,⟨_,_,_,o5⟩,mk _ _ _ o1,mk _ _ _ o2,mk _ _ _ o3⟩ s6 fun b o e=>u1 b o (Mr _ e)⟩
end
noncomputable def It3(K:Ms)(k1 k2 k3:Bool)(l1 l2 l3:Addr):It :=
 ⟨fun i H=>∃ xs ys zs x y z,SqK K k1 H l1 xs∧SqK K k2 H l2 ys∧SqK K k3 H l3 zs∧xs[i]? = some x∧ys[i]? = some y∧zs[i]? = some z,
  fun i H v H'=>∃ T x y z,H T=none∧v = .ref T∧H'=upd H T (.tup [x,y,z])∧(∀ xs,SqK K k1 H l1 xs→xs[i]? = some x)∧(∀ ys,SqK K k2 H l2 ys→ys[i]? = some y)∧∀ zs,SqK K k3 H l3 zs→zs[i]? = some z,
  fun i H=>∃ xs,SqK K k1 H l1 xs∧xs.length≤i⟩
noncomputable abbrev G1(n:Addr):List Addr:=[n,n+1,n+2,n+3,n+4,n+5]
theorem sH{P:Program}{w:World}{K:Ms}{elts:List Expr}{kx:Nat}{tp:Pos}{k1 k2 k3:Bool}{n l1 l2 l3:Addr}(b1:l1<n)(b2:l2<n)(b3:l3<n) :
  nX P w K (.Tuple elts kx tp) (It3 K k1 k2 k3 l1 l2 l3) (G1 n) (n+5) (BP k1 k2 k3 n l1 l2 l3) where
 mem:=by simp[G1]
 obj:=fun i h ⟨iz,iI,⟨a,b,c',iO⟩,g1,g2,g3⟩ c hc=>by
  simp only[G1,Mv,MG,or_false]at hc
  rcases hc with rfl|rfl|rfl|rfl|rfl|rfl
  ·exact g1.obj
  ·exact g2.obj
  ·exact g3.obj
  ·exact⟨_,iI,fun v e=>by cases e⟩
  ·exact⟨_,iO,fun v e=>by cases e⟩
  ·exact⟨_,iz,fun v e=>by cases e⟩
 keep:=fun i h h' ⟨iz,iI,⟨a,b,c,iO⟩,g1,g2,g3⟩ k=>⟨k _ (by simp[G1]) _ iz,k _ (by simp[G1]) _ iI,⟨a,b,c,k _ (by simp[G1]) _ iO⟩,g1.at fun o e=>k _ (by simp[G1]) o e,g2.at fun o e=>k _ (by simp[G1]) o e,g3.at fun o e=>k _ (by simp[G1]) o e⟩
 item:=by
  intro X hP hw hK hc i pins s σ H E I hf st hg
  subst hP hw hK
  obtain⟨xs,ys,zs,x,y,z,q1,q2,q3,hx,hy,hz⟩:=hg
  obtain⟨is1,r1,m1⟩:=I.sqk q1
  obtain⟨is2,r2,m2⟩:=I.sqk q2
  obtain⟨is3,r3,m3⟩:=I.sqk q3
  obtain⟨u1,hu1,ru1⟩:=r1.get hx
  obtain⟨u2,hu2,ru2⟩:=r2.get hy
  obtain⟨u3,hu3,ru3⟩:=r3.get hz
  have lt:∀{c o},s.heap.get? c=some o→c≠s.heap.objs.size:=fun e=>MN (MB e)
  have nfp:∀ c∈G1 n,c≠s.heap.objs.size:=fun c hc=>by
   obtain⟨iz,iI,⟨a,b,c',iO⟩,g1,g2,g3⟩:=st
   simp only[G1,Mv,MG,or_false]at hc
   rcases hc with rfl|rfl|rfl|rfl|rfl|rfl
   ·obtain⟨o,e,_⟩:=g1.obj;exact lt e
   ·obtain⟨o,e,_⟩:=g2.obj;exact lt e
   ·obtain⟨o,e,_⟩:=g3.obj;exact lt e
   ·exact lt iI
   ·exact lt iO
   ·exact lt iz
  refine DT b1 b2 b3 st m1 m2 m3 (v1:=u1) (v2:=u2) (v3:=u3) (by simpa using hu1) (by simpa using hu2) (by simpa using hu3) fun h' a0 a1 a2 a3 a4 a5 a6 a7 kk=>?_
  refine⟨_,rfl,?_⟩
  refine wpAny_letOwnedTupleGo_zip (s:={ s with heap:=h' }) a0 fun h2 d1 d2=>?_
  have I1:Inv X pins σ (upd H s.heap.objs.size (.tup [x,y,z])) { s with heap:=s.heap.push { cls:=.type "tuple",data:=.seq #[u1,u2,u3] },toks:=s.toks } :=
   I.laid (o:=.tup [x,y,z]) (fun b ob q=>Mr _ q) (MM _) ⟨(show 3≤sizeLine by decide),[u1,u2,u3],.cons ru1 (.cons ru2 (.cons ru3 .nil)),IsTup.new _ _⟩
  have hf':∀ c∈G1 n,X7 X pins (upd H s.heap.objs.size (.tup [x,y,z])) c:=fun c hc=>by
   obtain⟨f0,f1⟩:=hf c hc
   exact⟨by rw[g5 (nfp c hc)];exact f0,f1⟩
  have n5:n+5∈G1 n:=by simp[G1]
  have I2:Inv X pins σ (upd H s.heap.objs.size (.tup [x,y,z])) { s with heap:=h2,toks:=s.toks }:=by
   refine Inv.turnedN (s:={ s with heap:=s.heap.push { cls:=.type "tuple",data:=.seq #[u1,u2,u3] },toks:=s.toks }) (t':=s.toks) (h':=h2) (ch:=G1 n) I1 (fun c o hcn e=>?_) hf'
   refine d2.extBut c o (fun e=>hcn (e▸n5)) ?_
   by_cases hcs:c=s.heap.objs.size
   ·subst hcs
    have e':(s.heap.push { cls:=.type "tuple",data:=.seq #[u1,u2,u3] }).get? s.heap.objs.size=some o:=e
    rw[Mw _ rfl]at e'
    cases e'
    exact a6
   ·have e':(s.heap.push { cls:=.type "tuple",data:=.seq #[u1,u2,u3] }).get? c=some o:=e
    refine kk c o hcn ?_
    rw[Pl _ _ _ hcs]at e'
    exact e'
  have lift:∀ c o,c≠n+5→h'.get? c=some o→h2.get? c=some o:=fun c o n e=>d2.extBut c o n e
  refine⟨.ref s.heap.objs.size,_,I2,rfl,⟨_,x,y,z,I.hok.fresh (MM _),rfl,rfl,fun ws hw=>by rw[I.sqk_inj hw q1];exact hx,fun ws hw=>by rw[I.sqk_inj hw q2];exact hy,fun ws hw=>by rw[I.sqk_inj hw q3];exact hz⟩,?_,fun c hc=>(hf' c hc).1⟩
  have ne:∀{x y:Nat},x<y→x≠y:=fun h=>MN h
  exact⟨d1,lift _ _ (ne (by omega)) a1,⟨_,_,_,lift _ _ (ne (by omega)) a2⟩,a3.at fun o e=>lift _ o (ne (by omega)) e,a4.at fun o e=>lift _ o (ne (by omega)) e,a5.at fun o e=>lift _ o (ne (by omega)) e⟩
 done:=by
  intro X hP hw hK hc i pins s σ H E I hf st hg
  subst hP hw hK
  obtain⟨xs,q1,hx⟩:=hg
  obtain⟨is1,r1,m1⟩:=I.sqk q1
  have e1:=r1.length
  exact HM (I.ok.hd hc) b1 st m1 (by simp;omega) fun h' kk=>⟨rfl,I.turnedN (t':=s.toks) (ch:=G1 n) (fun c o hcn e=>kk c o hcn e) hf⟩
 self:=fun _ _ _ _ _ st h=>wpAny_pyIter_zip st.1 h
def HB(K:Ms)(ta:TA):TI:=fun σ H R=>ta σ H fun vs H1=>∃ k1 k2 k3 l1 l2 l3,vs=[.ref l1,.ref l2,.ref l3]∧(∃ xs,SqK K k1 H1 l1 xs)∧(∃ ys,SqK K k2 H1 l2 ys)∧(∃ zs,SqK K k3 H1 l3 zs)∧R (It3 K k1 k2 k3 l1 l2 l3) H1
theorem AD{X:Cx}{elts:List Expr}{kx:Nat}{tp:Pos}{a b c:Expr}{ta:TA}{p pos:Pos}(hg:Gl X "zip")(hm:X.mg "zip" = none)(ha:PA X [a,b,c] ta)
  (hs:starEach [a,b,c] X.env=[(false,eval a X.env),(false,eval b X.env),(false,eval c X.env)]:=by rfl) (hs2:starEach [b,c] X.env=[(false,eval b X.env),(false,eval c X.env)]:=by rfl):PI X (.Tuple elts kx tp) (.Call (.Name "zip" p) [a,b,c] [] pos) (HB X.K ta):=by
 intro pins s σ H R I h
 refine Call_ (N0 I hg hm PyProof.Rows.boot_zip (PyProof.Rows.callWith_type1 (thn (ha pos pins s σ H _ I h) fun us s1 ⟨vs,H1,I1,r1,q1⟩=>?_) (by rw[hs,hs2]) (by rw[hs2];rfl)))
 obtain⟨k1,k2,k3,l1,l2,l3,e,⟨xs,q2⟩,⟨ys,q3⟩,⟨zs,q4⟩,q⟩:=q1
 subst e
 cases r1 with
 | cons r rr =>
 cases rr with
 | cons r' rr =>
 cases rr with
 | cons r2 rr =>
  cases rr
  cases r
  cases r'
  cases r2
  obtain⟨is1,_,m1⟩:=I1.sqk q2
  obtain⟨is2,_,m2⟩:=I1.sqk q3
  obtain⟨is3,_,m3⟩:=I1.sqk q4
  have lt1:l1<s1.heap.objs.size:=by obtain⟨o,e⟩:=m1.obj;exact MB e
  have lt2:l2<s1.heap.objs.size:=by obtain⟨o,e⟩:=m2.obj;exact MB e
  have lt3:l3<s1.heap.objs.size:=by obtain⟨o,e⟩:=m3.obj;exact MB e
  refine Fw m1 m2 m3 fun h' a1 a6 kk=>?_
  refine wpAny_pyIter_zip (s:={ s1 with heap:=h' }) a1.z ?_
  refine⟨s1.heap.objs.size+5,_,_,_,H1,rfl,I1.kept (t':=s1.toks) kk,sH lt1 lt2 lt3,a1,fun c hc=>?_,q⟩
  have hge:s1.heap.objs.size≤c:=by
   simp only[G1,Mv,MG,or_false]at hc
   rcases hc with rfl|rfl|rfl|rfl|rfl|rfl
   ·exact MM _
   all_goals exact NY _ _
  exact I1.fpOk hge (I1.hok.fresh hge)
end L2
namespace DL
open PySem PySem.Spec L2
noncomputable def fZ(ds es fs:List D):List D:=List.zipWith (fun a bc=>.tup [a,bc.1,bc.2]) ds (es.zip fs)
theorem sD{ds es fs:List D}{i:Nat}{a b c:D}(h1:ds[i]? = some a)(h2:es[i]? = some b)(h3:fs[i]? = some c):(fZ ds es fs)[i]? = some (.tup [a,b,c]):=by
 unfold fZ
 rw[PL,h1]
 have:(es.zip fs)[i]? = some (b,c):=by
  rw[List.getElem?_zip_eq_some]
  exact⟨h2,h3⟩
 rw[this]
theorem fY{ds es fs:List D}(h2:ds.length≤es.length)(h3:ds.length≤fs.length):(fZ ds es fs).length=ds.length:=by
 unfold fZ
 rw[List.length_zipWith,QR]
 omega
theorem sF{K:Ms}{H1:Hp}{x y z:D}{l1 l2 l3:Addr}{ds es fs:List D}(g2:ds.length≤es.length)(g3:ds.length≤fs.length)(h1:Has K H1 (.ref l1) x)(h2:Has K H1 (.ref l2) y)(h3:Has K H1 (.ref l3) z) :
  kU K H1 (It3 K (aX x) (aX y) (aX z) l1 l2 l3) (fZ ds es fs) (fun M'=>m6 M' x ds∧m6 M' y es∧m6 M' z fs) where
 go:=fun i H' M' hi k am ⟨s1,s2,s3⟩=>by
  rw[fY g2 g3]at hi
  obtain⟨a,xs,e1,q1,m1⟩:=j7 s1 am (h1.mono k)
  obtain⟨b,ys,e2,q2,m2⟩:=j7 s2 am (h2.mono k)
  obtain⟨c,zs,e3,q3,m3⟩:=j7 s3 am (h3.mono k)
  cases e1;cases e2;cases e3
  exact⟨xs,ys,zs,_,_,_,q1,q2,q3,MS (by rw[m1.length];omega),MS (by rw[m2.length];omega),MS (by rw[m3.length];omega)⟩
 yld:=fun i H' M' v H'' hi k am ⟨s1,s2,s3⟩ ⟨T,a,b,c,hT,ev,eH,u1,u2,u3⟩=>by
  subst ev;subst eH
  obtain⟨a',xs,e1,q1,m1⟩:=j7 s1 am (h1.mono k)
  obtain⟨b',ys,e2,q2,m2⟩:=j7 s2 am (h2.mono k)
  obtain⟨c',zs,e3,q3,m3⟩:=j7 s3 am (h3.mono k)
  cases e1;cases e2;cases e3
  obtain⟨d1,g1,r1⟩:=m1.getV (u1 xs q1)
  obtain⟨d2,g2,r2⟩:=m2.getV (u2 ys q2)
  obtain⟨d3,g3,r3⟩:=m3.getV (u3 zs q3)
  have kt:KT H' (upd H' T (.tup [a,b,c])):=KT.alloc hT
  exact⟨_,sD g1 g2 g3,kt,am.alloc hT,.tup (SqT.of i7) (.cons (r1.mono kt) (.cons (r2.mono kt) (.cons (r3.mono kt) .nil)))⟩
 stop:=fun i H' M' hi k am ⟨s1,s2,s3⟩=>by
  rw[fY g2 g3]at hi
  obtain⟨a,xs,e1,q1,m1⟩:=j7 s1 am (h1.mono k)
  cases e1
  exact⟨xs,q1,by rw[m1.length];omega⟩
 up:=fun _ _ _ st hq=>⟨G9 st.1 hq,G9 st.2.1 hq,G9 st.2.2 hq⟩
def DA(xs:List D)(M:Mem)(Q:List D→(Mem→Prop)→Mem→Prop):Prop:=∃ x y z ds es fs,xs=[x,y,z]∧m6 M x ds∧m6 M y es∧m6 M z fs∧ds.length≤es.length∧ds.length≤fs.length∧Q (fZ ds es fs) (fun M'=>m6 M' x ds∧m6 M' y es∧m6 M' z fs) M
def xR(ta:DTA):DTI:=fun e M R=>ta e M fun xs M1=>DA xs M1 R
theorem lW{ta:DTA}{e:Ev}{M:Mem}{R:List D→(Mem→Prop)→Mem→Prop}:xR ta e M R=ta e M fun xs M1=>DA xs M1 R:=rfl
theorem xi{X:Cx}{ta:DTA}{elts:List Expr}{kx:Nat}{tp:Pos}{a b c:Expr}{p pos:Pos}(hg:Gl X "zip")(hm:X.mg "zip" = none)(ha:JA X [a,b,c] ta)
  (hs:starEach [a,b,c] X.env=[(false,eval a X.env),(false,eval b X.env),(false,eval c X.env)]:=by rfl) (hs2:starEach [b,c] X.env=[(false,eval b X.env),(false,eval c X.env)]:=by rfl):JI X (.Tuple elts kx tp) (.Call (.Name "zip" p) [a,b,c] [] pos) (xR ta):=⟨have ha:=ha.out;PI.imp (AD hg hm ha hs hs2) fun σ H R ⟨e,M,R',ok,am,t,f⟩=>⟨e,M,_,ok,am,t,fun xs M1 ⟨x,y,z,ds,es,fs,z',s1,s2,s3,g2,g3,r⟩ vs H1 k1 a1 r1=>by
  subst z'
  cases r1 with
  | cons hv rr =>
  cases rr with
  | cons hv' rr =>
  cases rr with
  | cons hv'' rr =>
  cases rr
  obtain⟨a,zs,rfl,q1,m1⟩:=j7 s1 a1 hv
  obtain⟨b,ws,rfl,q2,m2⟩:=j7 s2 a1 hv'
  obtain⟨c,us,rfl,q3,m3⟩:=j7 s3 a1 hv''
  exact⟨_,_,_,a,b,c,rfl,⟨zs,q1⟩,⟨ws,q2⟩,⟨us,q3⟩,f _ _ M1 r H1 k1 a1 _ (sF g2 g3 hv hv' hv'')⟩⟩⟩
end DL
namespace GM
noncomputable abbrev T3:=Rat × Rat × Rat
noncomputable def ve(a b:T3):Rat:=a.1*b.2.1 - a.2.1*b.1
noncomputable def tn(a b c:T3):Rat:=a.2.2*ve b c - b.2.2*ve a c+c.2.2*ve a b
noncomputable def dt(a:T3)(z:Rat × Rat):Rat:=a.1*z.1+a.2.1*z.2
noncomputable def ry(a b:T3):Rat × Rat:=((a.2.2*b.2.1 - b.2.2*a.2.1) / ve a b,(a.1*b.2.2 - b.1*a.2.2) / ve a b)
noncomputable def ng(a:T3):T3:=(-a.1,-a.2.1,a.2.2)
noncomputable def ngZ(z:Rat × Rat):Rat × Rat:=(-z.1,-z.2)
def Sup(ss:List T3)(z:Rat × Rat):Prop:=∀ s∈ss,dt s z≤s.2.2
structure FR(ss:List T3)(a b:T3):Prop where
 ve:0<ve a b
 mem:b∈ss
 hull:∀ s∈ss,0<GM.ve a s→0≤tn a b s
theorem CU{a b:T3}(h:ve a b≠0):ve a b*(ry a b).1=a.2.2*b.2.1 - b.2.2*a.2.1∧ve a b*(ry a b).2=a.1*b.2.2 - b.1*a.2.2:=by
 unfold ry
 constructor
 ·show ve a b*((a.2.2*b.2.1 - b.2.2*a.2.1) / ve a b)=_
  rw[Ow,Nk h]
 ·show ve a b*((a.1*b.2.2 - b.1*a.2.2) / ve a b)=_
  rw[Ow,Nk h]
theorem D6{x:Rat}(h:0<x):x≠0:=by grind
theorem Q5{x:Rat}(h:0<x):0≤x:=by grind
theorem tot(x y:Rat):x≤y∨y≤x:=by grind
theorem ck{v x y:Rat}(hv:v≠0)(h:v*x=v*y):x=y:=by grind
theorem vZ{a b:T3}(h:ve a b≠0)(s:T3):ve a b*(s.2.2 - dt s (ry a b))=tn a b s:=by
 obtain⟨e1,e2⟩:=CU h
 unfold dt tn
 have:ve a b*(s.2.2 - (s.1*(ry a b).1+s.2.1*(ry a b).2))=ve a b*s.2.2 - s.1*(ve a b*(ry a b).1) - s.2.1*(ve a b*(ry a b).2):=by grind
 rw[this,e1,e2]
 unfold ve
 grind
theorem Am{a b:T3}(h:ve a b≠0):dt a (ry a b)=a.2.2:=by
 have:=vZ h a
 have e:tn a b a=0:=by unfold tn ve;grind
 rw[e]at this
 grind
theorem wc{a b:T3}(h:ve a b≠0):dt b (ry a b)=b.2.2:=by
 have:=vZ h b
 have e:tn a b b=0:=by unfold tn ve;grind
 rw[e]at this
 grind
theorem Al{a b:T3}{z:Rat × Rat}(h:ve a b≠0)(h1:dt a z=a.2.2)(h2:dt b z=b.2.2):z=ry a b:=by
 obtain⟨e1,e2⟩:=CU h
 have z1:ve a b*z.1=ve a b*(ry a b).1:=by
  rw[e1,← h1,← h2];unfold ve dt;grind
 have z2:ve a b*z.2=ve a b*(ry a b).2:=by
  rw[e2,← h1,← h2];unfold ve dt;grind
 exact Prod.ext (ck h z1) (ck h z2)
theorem wa(a b:T3):ry (ng a) (ng b)=ngZ (ry a b):=by
 have e:ve (ng a) (ng b)=ve a b:=by unfold ve ng;grind
 unfold ry ngZ
 rw[e]
 show((a.2.2*(-b.2.1) - b.2.2*(-a.2.1)) / ve a b,((-a.1)*b.2.2 - (-b.1)*a.2.2) / ve a b)=_
 exact Prod.ext (by show _ / _ = -(_ / _);grind) (by show _ / _ = -(_ / _);grind)
theorem GC(a b s:T3)(z:Rat × Rat):tn a b s=(a.2.2 - dt a z)*ve b s - (b.2.2 - dt b z)*ve a s+(s.2.2 - dt s z)*ve a b:=by
 unfold tn ve dt;grind
theorem K3{v x:Rat}(hv:0<v)(h:0≤v*x):0≤x:=by
 rcases tot 0 x with z|z
 ·exact z
 ·by_cases e:x=0
  ·grind
  ·have:0<v * -x:=NW hv (by grind)
   grind
theorem DZ{a b:T3}{ss:List T3}(h:0<ve a b)(ht:∀ s∈ss,0≤tn a b s):Sup ss (ry a b):=fun s hs=>by
 have:=vZ (D6 h) s
 have h2:=ht s hs
 rw[← this]at h2
 have:=K3 h h2
 grind
theorem mj{ss:List T3}{a b:T3}{z:Rat × Rat}(hz:Sup ss z)(ha:dt a z=a.2.2)(e:FR ss a b):Sup ss (ry a b):=by
 refine DZ e.ve fun s hs=>?_
 by_cases h:0<ve a s
 ·exact e.hull s hs h
 ·rw[GC a b s z,ha]
  have h1:0≤(b.2.2 - dt b z)*(-ve a s):=MQ (by have:=hz b e.mem;grind) (by grind)
  have h2:0≤(s.2.2 - dt s z)*ve a b:=MQ (by have:=hz s hs;grind) (by have:=e.ve;grind)
  grind
theorem iU{ss:List T3}(sy:∀ s∈ss,ng s∈ss){z:Rat × Rat}(h:Sup ss z):Sup ss (ngZ z):=fun s hs=>by
 have:=h _ (sy s hs)
 have e:dt (ng s) z=dt s (ngZ z):=by unfold dt ng ngZ;grind
 rw[← e];exact this
theorem X1{a b w:T3}(h:0<ve a b)(z:Rat × Rat):ve a b*dt w z=ve w b*dt a z+ve a w*dt b z:=by
 unfold ve dt;grind
theorem oh{w:T3}:∀(x:T3) (l:List T3) (y:T3),0≤ve x w→0<ve w y→∃ ab∈(x :: l).zip (l++[y]),0≤ve ab.1 w∧0<ve w ab.2
 | x,[],y,h1,h2=>⟨(x,y),Mz,h1,h2⟩
 | x,x' :: l,y,h1,h2=>by
  by_cases h:0<ve w x'
  ·exact⟨(x,x'),Mz,h1,h⟩
  ·have e:ve x' w = -ve w x':=by unfold ve;grind
   obtain⟨ab,hm,q⟩:=oh x' l y (by rw[e];grind) h2
   exact⟨ab,Mx _ hm,q⟩
structure Rim(ss:List T3)(h0:T3)(l:List T3):Prop where
 ne:l≠[]
 sy:∀ s∈ss,ng s∈ss
 pos:∀ s∈ss,0<s.2.2
 all:∀ ab∈(h0 :: l).zip (l++[ng h0]),ab.1∈ss∧ab.2∈ss∧0<ve ab.1 ab.2∧Sup ss (ry ab.1 ab.2)
noncomputable def eQ(h0:T3)(l:List T3):List (T3 × T3):=(h0 :: l).zip (l++[ng h0])
noncomputable def fW(h0:T3)(l:List T3):List (Rat × Rat):=(eQ h0 l).map (fun ab=>ry ab.1 ab.2)++(eQ h0 l).map (fun ab=>ngZ (ry ab.1 ab.2))
theorem J6{α β:Type}(f:α→β):∀(l m:List α),(l.map f).zip (m.map f)=(l.zip m).map fun p=>(f p.1,f p.2)
 | [],_=>rfl
 | _ :: _,[]=>rfl
 | a :: l,b :: m=>by rw[Ni,Ni,List.zip_cons_cons,J6 f l m];rfl
theorem CZ(a:T3):ng (ng a)=a:=by
 obtain⟨p,q,r⟩:=a
 unfold ng
 show(- -p,- -q,r)=(p,q,r)
 rw[QS,QS]
theorem Rim.around{ss:List T3}{h0:T3}{l:List T3}(R:Rim ss h0 l)(w:T3)(hw:¬ (w.1=0∧w.2.1=0)) :
  ∃ a b,a∈ss∧b∈ss∧0<ve a b∧Sup ss (ry a b)∧ry a b∈fW h0 l∧0≤ve a w∧0<ve w b:=by
 have fromE:∀ ab∈eQ h0 l,0≤ve ab.1 w→0<ve w ab.2→∃ a b,a∈ss∧b∈ss∧0<ve a b∧Sup ss (ry a b)∧ry a b∈fW h0 l∧0≤ve a w∧0<ve w b:=fun ab hm h1 h2=>by
  obtain⟨q1,q2,q3,q4⟩:=R.all ab hm
  exact⟨ab.1,ab.2,q1,q2,q3,q4,NB _ (MD.mpr ⟨ab,hm,rfl⟩),h1,h2⟩
 have fromN:∀ ab∈eQ h0 l,0≤ve (ng ab.1) w→0<ve w (ng ab.2)→∃ a b,a∈ss∧b∈ss∧0<ve a b∧Sup ss (ry a b)∧ry a b∈fW h0 l∧0≤ve a w∧0<ve w b:=fun ab hm h1 h2=>by
  obtain⟨q1,q2,q3,q4⟩:=R.all ab hm
  refine⟨ng ab.1,ng ab.2,R.sy _ q1,R.sy _ q2,?_,?_,?_,h1,h2⟩
  ·have:ve (ng ab.1) (ng ab.2)=ve ab.1 ab.2:=by unfold ve ng;grind
   rw[this];exact q3
  ·rw[wa];exact iU R.sy q4
  ·rw[wa];exact MT _ (MD.mpr ⟨ab,hm,rfl⟩)
 have e0:ve w (ng h0)=ve h0 w:=by unfold ve ng;grind
 have e1:ve (ng h0) w = -ve h0 w:=by unfold ve ng;grind
 by_cases c1:0<ve h0 w
 ·obtain⟨ab,hm,k1,k2⟩:=oh h0 l (ng h0) (Q5 c1) (by rw[e0];exact c1)
  exact fromE ab hm k1 k2
 by_cases c2:ve h0 w<0
 ·have e2:ve w h0 = -ve h0 w:=by unfold ve;grind
  obtain⟨ab,hm,k1,k2⟩:=oh (w:=w) (ng h0) (l.map ng) h0 (by rw[e1];clear fromE fromN;grind) (by rw[e2];clear fromE fromN;grind)
  have em:ab∈((h0 :: l).map ng).zip ((l++[ng h0]).map ng):=by
   rw[MR,Ni,Ni,Od,CZ];exact hm
  rw[J6]at em
  obtain⟨cd,hcd,rfl⟩:=MD.mp em
  exact fromN cd hcd k1 k2
 ·have c0:ve h0 w=0:=by clear fromE fromN;grind
  cases l with
  | nil=>exact absurd rfl R.ne
  | cons x l =>
   have hm:(h0,x)∈eQ h0 (x :: l):=Mz
   obtain⟨q1,q2,q3,q4⟩:=R.all _ hm
   have q3:0<ve h0 x:=q3
   by_cases k:0<ve w x
   ·exact fromE _ hm (by show 0≤ve h0 w;rw[c0];exact Pa) k
   ·refine fromN _ hm (by show 0≤ve (ng h0) w;rw[e1,c0];exact Pa) ?_
    show 0<ve w (ng x)
    have ex:ve w (ng x) = -ve w x:=by unfold ve ng;grind
    rw[ex]
    clear fromE fromN
    have hne:ve w x≠0:=fun z=>hw (by
     unfold ve at c0 z q3
     have i1:w.1*(h0.1*x.2.1 - h0.2.1*x.1)=0:=by
      have:w.1*(h0.1*x.2.1 - h0.2.1*x.1)=h0.1*(w.1*x.2.1 - w.2.1*x.1)+x.1*(h0.1*w.2.1 - h0.2.1*w.1):=by grind
      rw[this,z,c0];grind
     have i2:w.2.1*(h0.1*x.2.1 - h0.2.1*x.1)=0:=by
      have:w.2.1*(h0.1*x.2.1 - h0.2.1*x.1)=h0.2.1*(w.1*x.2.1 - w.2.1*x.1)+x.2.1*(h0.1*w.2.1 - h0.2.1*w.1):=by grind
      rw[this,z,c0];grind
     have hv:h0.1*x.2.1 - h0.2.1*x.1≠0:=by grind
     exact⟨by grind,by grind⟩)
    grind
theorem Rim.most{ss:List T3}{h0:T3}{l:List T3}(R:Rim ss h0 l)(w:T3)(hw:¬ (w.1=0∧w.2.1=0)):∃ c∈fW h0 l,Sup ss c∧∀ z,Sup ss z→dt w z≤dt w c:=by
 obtain⟨a,b,ha,hb,hv,hs,hc,k1,k2⟩:=R.around w hw
 refine⟨_,hc,hs,fun z hz=>?_⟩
 have e1:=X1 (w:=w) hv z
 have e2:=X1 (w:=w) hv (ry a b)
 rw[Am (D6 hv),wc (D6 hv)]at e2
 have h1:0≤ve w b*(a.2.2 - dt a z):=MQ (Q5 k2) (by have:=hz a ha;grind)
 have h2:0≤ve a w*(b.2.2 - dt b z):=MQ k1 (by have:=hz b hb;grind)
 have h3:0≤ve a b*(dt w (ry a b) - dt w z):=by grind
 have:=K3 hv h3
 grind
theorem Dw{ss:List T3}{h0 hm f:T3}{z0 z:Rat × Rat}(sy:∀ s∈ss,ng s∈ss)(m0:h0∈ss)(mm:hm∈ss)(s0:Sup ss z0)(t0:dt h0 z0=h0.2.2)(sz:Sup ss z)(tz:dt hm z=hm.2.2)(e:FR ss hm f)(h1:0<ve h0 hm)(h2:ve h0 f≤0) :
  Sup ss (ry hm (ng h0)):=by
 have sf:=mj sz tz e
 have v1:0<ve hm (ng h0):=by
  have:ve hm (ng h0)=ve h0 hm:=by unfold ve ng;grind
  rw[this];exact h1
 have v2:0≤ve (ng h0) f:=by
  have:ve (ng h0) f = -ve h0 f:=by unfold ve ng;grind
  rw[this];grind
 have tf:=Am (a:=hm) (b:=f) (D6 e.ve)
 have tg:=wc (a:=hm) (b:=f) (D6 e.ve)
 have e1:=X1 (w:=ng h0) e.ve (ngZ z0)
 have e2:=X1 (w:=ng h0) e.ve (ry hm f)
 rw[tf,tg]at e2
 have sn:=iU sy s0
 have q1:=sn hm mm
 have q2:=sn f e.mem
 have g0:dt (ng h0) (ngZ z0)=(ng h0).2.2:=by
  have:dt (ng h0) (ngZ z0)=dt h0 z0:=by unfold dt ng ngZ;grind
  rw[this,t0];rfl
 rw[g0]at e1
 have q3:=sf (ng h0) (sy h0 m0)
 have p1:0≤ve (ng h0) f*(hm.2.2 - dt hm (ngZ z0)):=MQ v2 (by grind)
 have p2:0≤ve hm (ng h0)*(f.2.2 - dt f (ngZ z0)):=MQ (by grind) (by grind)
 have p3:0≤ve hm f*(dt (ng h0) (ry hm f) - (ng h0).2.2):=by grind
 have p4:=K3 e.ve p3
 have t3:dt (ng h0) (ry hm f)=(ng h0).2.2:=by grind
 rw[← Al (a:=hm) (b:=ng h0) (D6 v1) tf t3]
 exact sf
end GM
namespace GM
open PySem PySem.Spec L2 DL
open RM (sz)
noncomputable abbrev Sd:=Int × Int × Int × Int × Int
noncomputable def sdD(s:Sd):D:=.tup [.int s.1,.int s.2.1,.int s.2.2.1,.int s.2.2.2.1,.int s.2.2.2.2]
noncomputable def tri(s:Sd):T3:=((s.1:Rat),(s.2.1:Rat),(s.2.2.1:Rat))
noncomputable def veZ(a b:Sd):Int:=a.1*b.2.1 - a.2.1*b.1
noncomputable def tnZ(a b c:Sd):Int:=a.2.2.1*veZ b c - b.2.2.1*veZ a c+c.2.2.1*veZ a b
noncomputable def i9(s:Sd):Sd:=(-s.1,-s.2.1,s.2.2.1,s.2.2.2.1,-s.2.2.2.2)
noncomputable def D9(a b:Sd):Bool:=if a.1*b.2.2.1 - b.1*a.2.2.1=0 then decide (0<a.2.1*b.2.2.1 - b.2.1*a.2.2.1)else decide (0<a.1*b.2.2.1 - b.1*a.2.2.1)
noncomputable def C6(ss:List Sd)(f:Sd):Sd:=ss.foldl (fun f s=>if D9 s f=true then s else f) f
noncomputable def BL(h:Sd)(f:Option Sd)(s:Sd):Bool:=match f with
 | none=>true
 | some g=>decide (tnZ h g s<0) || (decide (tnZ h g s=0) && decide (0<veZ g s))
noncomputable def Q4(h:Sd)(f:Option Sd)(s:Sd):Option Sd:=if 0<veZ h s then(if BL h f s=true then some s else f)else f
noncomputable def K5(h:Sd)(ss:List Sd):Option Sd:=ss.foldl (Q4 h) none
noncomputable def Q3(h0:Sd)(ss:List Sd):Nat→Option Sd→List Sd
 | 0,_=>[]
 | _+1,none=>[]
 | k+1,some h=>if 0<veZ h0 h then h :: Q3 h0 ss k (K5 h ss)else[]
noncomputable def G7:List Sd→List Sd
 | []=>[]
 | s :: r=>C6 (s :: r) s :: Q3 (C6 (s :: r) s) (s :: r) (s :: r).length (K5 (C6 (s :: r) s) (s :: r))
theorem v6(a b:Sd):ve (tri a) (tri b)=(veZ a b:Rat):=by
 unfold ve tri veZ
 rw[NU,ML,ML]
theorem DU(a b c:Sd):tn (tri a) (tri b) (tri c)=(tnZ a b c:Rat):=by
 unfold tn tnZ
 rw[v6,v6,v6,OD,NU,ML,ML,ML]
 rfl
theorem u9{n:Int}:(0:Rat)<(n:Rat)↔0<n:=by
 have:=Rat.intCast_lt_intCast (a:=0) (b:=n)
 rw[← this];rfl
theorem nR{n:Int}:(0:Rat)≤(n:Rat)↔0≤n:=by
 have:=PD (a:=0) (b:=n)
 rw[← this];rfl
theorem B1(s:Sd):tri (i9 s)=ng (tri s):=by
 unfold tri i9 ng
 rw[OE,OE]
theorem Z9{a b:Int}(ha:0<a)(h:0≤a*b):0≤b:=by
 rcases QF b 0 with z|z
 ·have:=Int.mul_lt_mul_of_pos_left z ha
  omega
 ·exact z
theorem nq{a b:Int}(ha:0<a)(h:0<a*b):0<b:=by
 rcases QF 0 b with z|z
 ·exact z
 ·have:=Int.mul_le_mul_of_nonneg_left z (QG ha)
  omega
theorem plu(h g s t:Sd):veZ h g*tnZ h s t=veZ h s*tnZ h g t - veZ h t*tnZ h g s:=by unfold tnZ veZ;grind
theorem IY(h g s t:Sd):veZ h g*tnZ g s t=tnZ h g s*veZ t g - tnZ h g t*veZ s g:=by unfold tnZ veZ;grind
theorem IX(o h g s:Sd):veZ o g*veZ h s=veZ o h*veZ g s+veZ o s*veZ h g:=by unfold veZ;grind
structure yv(h:Sd)(pre:List Sd)(f:Option Sd):Prop where
 no:f=none→∀ s∈pre,¬ 0<veZ h s
 yes:∀ g,f=some g→g∈pre∧0<veZ h g∧∀ s∈pre,0<veZ h s→0≤tnZ h g s∧(tnZ h g s=0→veZ g s≤0)
theorem wR{h:Sd}{pre:List Sd}{f:Option Sd}{s:Sd}(hp:∀ s∈pre,0<s.2.2.1)(hs:0<s.2.2.1)(I:yv h pre f):yv h (pre++[s]) (Q4 h f s):=by
 unfold Q4
 by_cases c:0<veZ h s
 ·rw[if_pos c]
  by_cases b:BL h f s=true
  ·rw[if_pos b]
   refine⟨fun z=>(by cases z),fun g e=>?_⟩
   cases e
   refine⟨by simp,c,fun t ht hv=>?_⟩
   have self:tnZ h s s=0∧veZ s s=0:=by unfold tnZ veZ;grind
   rcases MX.mp ht with ht|ht
   ·cases f with
    | none=>exact absurd hv (I.no rfl t ht)
    | some g =>
     obtain⟨g1,g2,g3⟩:=I.yes g rfl
     obtain⟨k1,k2⟩:=g3 t ht hv
     have b':tnZ h g s<0∨(tnZ h g s=0∧0<veZ g s):=by
      have b:(decide (tnZ h g s<0) || (decide (tnZ h g s=0) && decide (0<veZ g s)))=true:=b
      simpa using b
     have pl:=plu h g s t
     have n1:0≤veZ h s*tnZ h g t:=OI (by omega) k1
     have n2:0≤veZ h t * -tnZ h g s:=OI (by omega) (by omega)
     rw[QT]at n2
     refine⟨Z9 g2 (by omega),fun z=>?_⟩
     rw[z,Int.mul_zero]at pl
     have m1:veZ h s*tnZ h g t=0:=by omega
     have m2:veZ h t*tnZ h g s=0:=by omega
     have e1:tnZ h g t=0:=(Pb.mp m1).resolve_left (by omega)
     have e2:tnZ h g s=0:=(Pb.mp m2).resolve_left (by omega)
     have gs:0<veZ g s:=by omega
     have gt:=k2 e1
     have p2:=IY h g s t
     rw[e1,e2,PN,PN]at p2
     have e3:tnZ g s t=0:=(Pb.mp (by omega:veZ h g*tnZ g s t=0)).resolve_left (by omega)
     have e4:g.2.2.1*veZ s t - s.2.2.1*veZ g t+t.2.2.1*veZ g s=0:=e3
     have rg:=hp g g1
     have rt:=hp t ht
     have q1:0≤s.2.2.1 * -veZ g t:=OI (by omega) (by omega)
     have q2:0≤t.2.2.1*veZ g s:=OI (by omega) (by omega)
     rw[QT]at q1
     have q3:0≤g.2.2.1 * -veZ s t:=by rw[QT];omega
     have:=Z9 rg q3
     omega
   ·rw[Nc.mp ht,self.1,self.2]
    exact⟨Int.le_refl _,fun _=>Int.le_refl _⟩
  ·rw[if_neg b]
   cases f with
   | none=>exact absurd rfl b
   | some g =>
    obtain⟨g1,g2,g3⟩:=I.yes g rfl
    refine⟨fun z=>(by cases z),fun g' e=>?_⟩
    cases e
    refine⟨NB _ g1,g2,fun t ht hv=>?_⟩
    rcases MX.mp ht with ht|ht
    ·exact g3 t ht hv
    ·rw[Nc.mp ht]
     have b':¬ (tnZ h g s<0∨(tnZ h g s=0∧0<veZ g s)):=by
      intro z
      apply b
      show(decide (tnZ h g s<0) || (decide (tnZ h g s=0) && decide (0<veZ g s)))=true
      simpa using z
     exact⟨by omega,fun z=>by omega⟩
 ·rw[if_neg c]
  refine⟨fun z t ht=>?_,fun g e=>?_⟩
  ·rcases MX.mp ht with ht|ht
   ·exact I.no z t ht
   ·rw[Nc.mp ht];exact c
  ·obtain⟨g1,g2,g3⟩:=I.yes g e
   refine⟨NB _ g1,g2,fun t ht hv=>?_⟩
   rcases MX.mp ht with ht|ht
   ·exact g3 t ht hv
   ·rw[Nc.mp ht]at hv;exact absurd hv c
theorem nc{h:Sd}:∀(l pre:List Sd) (f:Option Sd),(∀ s∈pre,0<s.2.2.1)→(∀ s∈l,0<s.2.2.1)→yv h pre f→yv h (pre++l) (l.foldl (Q4 h) f)
 | [],pre,f,_,_,I=>by rw[OA];exact I
 | s :: l,pre,f,h1,h2,I=>by
  have h3:=h2 s Mz
  have:=nc l (pre++[s]) (Q4 h f s) (fun t ht=>by
   rcases MX.mp ht with ht|ht
   ·exact h1 t ht
   ·rw[Nc.mp ht];exact h3) (fun t ht=>h2 t (Mx _ ht)) (wR h1 h3 I)
  rwa [Pm]at this
theorem cZ{h:Sd}{ss:List Sd}(hp:∀ s∈ss,0<s.2.2.1):yv h ss (K5 h ss):=by
 have:=nc (h:=h) ss [] none (fun _ z=>nomatch z) hp ⟨fun _ _ z=>(nomatch z),fun _ z=>(nomatch z)⟩
 rwa [QU]at this
theorem J3{h f:Sd}{ss:List Sd}(hp:∀ s∈ss,0<s.2.2.1)(e:K5 h ss=some f):f∈ss∧0<veZ h f∧FR (ss.map tri) (tri h) (tri f):=by
 obtain⟨h1,h2,h3⟩:=(cZ hp).yes f e
 refine⟨h1,h2,by rw[v6];exact u9.mpr h2,MD.mpr ⟨f,h1,rfl⟩,fun s hs hv=>?_⟩
 obtain⟨t,ht,rfl⟩:=MD.mp hs
 rw[v6]at hv
 rw[DU]
 exact nR.mpr (h3 t ht (u9.mp hv)).1
theorem aS:∀(ss:List Sd) (f:Sd),C6 ss f=f∨C6 ss f∈ss
 | [],f=>.inl rfl
 | s :: r,f=>by
  show C6 r (if D9 s f=true then s else f)=f∨_
  rcases aS r (if D9 s f=true then s else f)with h|h
  ·rw[h]
   split
   ·rename_i c;right;show C6 r (if D9 s f=true then s else f)∈_;rw[h,if_pos c];exact Mz
   ·exact .inl rfl
  ·exact .inr (Mx _ h)
theorem Bn{s f:Sd}(h:D9 s f=true):f.1*s.2.2.1≤s.1*f.2.2.1:=by
 unfold D9 at h
 split at h
 ·omega
 ·have:=of_decide_eq_true h;omega
theorem Bo{s f:Sd}(h:¬ D9 s f=true):s.1*f.2.2.1≤f.1*s.2.2.1:=by
 unfold D9 at h
 split at h
 ·omega
 ·have:¬ 0<s.1*f.2.2.1 - f.1*s.2.2.1:=fun z=>h (decide_eq_true z)
  omega
theorem Hu{a b c x y z:Int}(hy:0<y)(hx:0<x)(hz:0<z)(h1:a*y≤b*x)(h2:b*z≤c*y):a*z≤c*x:=by
 have e1:=OL h1 (QG hz)
 have e2:=OL h2 (QG hx)
 have e3:0≤y*(c*x - a*z):=by
  have:y*(c*x - a*z)=c*y*x - a*y*z:=by grind
  have e4:b*x*z=b*z*x:=by grind
  omega
 have:=Z9 hy e3
 omega
theorem rn:∀(ss:List Sd) (f:Sd) (t:Sd),(∀ s∈ss,0<s.2.2.1)→0<f.2.2.1→0<t.2.2.1→(t∈ss∨t.1*f.2.2.1≤f.1*t.2.2.1)→t.1*(C6 ss f).2.2.1≤(C6 ss f).1*t.2.2.1
 | [],f,t,_,_,_,h=>by
  rcases h with h|h
  ·cases h
  ·exact h
 | s :: r,f,t,hp,hf,ht,h=>by
  have hs:=hp s Mz
  show t.1*(C6 r (if D9 s f=true then s else f)).2.2.1≤(C6 r (if D9 s f=true then s else f)).1*t.2.2.1
  refine rn r _ t (fun s hs=>hp s (Mx _ hs)) (by split<;>assumption) ht ?_
  rcases h with h|h
  ·rcases Mv.mp h with rfl|h
   ·right
    split
    ·omega
    ·rename_i c;exact Bo c
   ·exact .inl h
  ·right
   split
   ·rename_i c
    exact Hu hf ht hs h (Bn c)
   ·exact h
theorem nM{α:Type}{p q:α→Bool}{x:α}:∀{l:List α},(∀ y∈l,q y=true→p y=true)→x∈l→p x=true→q x=false→(l.filter q).length<(l.filter p).length
 | [],_,h,_,_=>nomatch h
 | y :: l,h1,h2,h3,h4=>by
  have le:∀(l:List α),(∀ y∈l,q y=true→p y=true)→(l.filter q).length≤(l.filter p).length:=fun l=>by
   induction l with
   | nil=>intro _;exact MM _
   | cons a l ih =>
    intro h
    have:=ih fun y hy=>h y (Mx _ hy)
    by_cases qa:q a=true
    ·rw[Nh qa,Nh (h a Mz qa),Ng,Ng];omega
    ·rw[Nx qa]
     by_cases pa:p a=true
     ·rw[Nh pa,Ng];omega
     ·rw[Nx pa];exact this
  have hl:=le l fun y hy=>h1 y (Mx _ hy)
  rcases Mv.mp h2 with rfl|h2
  ·rw[Nh h3,Nx (by rw[h4];decide),Ng];omega
  ·have ih:=nM (fun y hy=>h1 y (Mx _ hy)) h2 h3 h4
   by_cases qa:q y=true
   ·rw[Nh qa,Nh (h1 y Mz qa),Ng,Ng];omega
   ·rw[Nx qa]
    by_cases pa:p y=true
    ·rw[Nh pa,Ng];omega
    ·rw[Nx pa];exact ih
noncomputable def tM(h0:Sd)(ss:List Sd)(h:Sd):Nat:=(ss.filter fun s=>decide (0<veZ h s) && decide (0<veZ h0 s)).length
theorem ye(h0:Sd)(ss:List Sd)(h:Sd):tM h0 ss h≤ss.length:=Of _ _
theorem bg{h0 h f:Sd}{ss:List Sd}(hp:∀ s∈ss,0<s.2.2.1)(e:K5 h ss=some f)(h1:h=h0∨0<veZ h0 h)(h2:0<veZ h0 f):tM h0 ss f<tM h0 ss h:=by
 obtain⟨m,v,_⟩:=J3 hp e
 unfold tM
 refine nM (x:=f) (fun s _ hq=>?_) m (by rw[decide_eq_true v,decide_eq_true h2];rfl) ?_
 ·rw[Na,decide_eq_true_eq,decide_eq_true_eq]at hq ⊢
  refine⟨?_,hq.2⟩
  rcases h1 with rfl|h1
  ·exact hq.2
  ·have i:=IX h0 h f s
   have a1:=NR h1 hq.1
   have a2:=NR hq.2 v
   exact nq h2 (by omega)
 ·have:veZ f f=0:=by unfold veZ;grind
  rw[this];rfl
theorem Ar{h0:Sd}{ss:List Sd}(hp:∀ s∈ss,0<s.2.2.1)(sy:∀ s∈ss,i9 s∈ss)(m0:h0∈ss){z0:Rat × Rat}(s0:Sup (ss.map tri) z0)(t0:dt (tri h0) z0=(tri h0).2.2):∀(k:Nat) (a:Sd) (z:Rat × Rat),a∈ss→Sup (ss.map tri) z→dt (tri a) z=(tri a).2.2 →
  (a=h0∨0<veZ h0 a)→(a=h0→∃ f,K5 h0 ss=some f)→(∀ f,K5 a ss=some f→0<veZ h0 f→tM h0 ss f<k) →
  ∀ ab∈(a :: Q3 h0 ss k (K5 a ss)).zip (Q3 h0 ss k (K5 a ss)++[i9 h0]),ab.1∈ss∧ab.2∈ss∧0<veZ ab.1 ab.2∧Sup (ss.map tri) (ry (tri ab.1) (tri ab.2)):=by
 have syT:∀ s∈ss.map tri,ng s∈ss.map tri:=fun s hs=>by
  obtain⟨t,ht,rfl⟩:=MD.mp hs
  rw[← B1];exact MD.mpr ⟨_,sy t ht,rfl⟩
 intro k
 induction k with
 | zero =>
  intro a z ha hz ta h1 h2 h3 ab hab
  cases e:K5 a ss with
  | none =>
   exfalso
   rcases h1 with rfl|h1
   ·obtain⟨f,hf⟩:=h2 rfl;rw[e]at hf;cases hf
   ·have:=(cZ (h:=a) hp).no e (i9 h0) (sy h0 m0)
    exact this (by rw[show veZ a (i9 h0)=veZ h0 a by unfold veZ i9;grind];exact h1)
  | some f =>
   obtain⟨mf,vf,ef⟩:=J3 hp e
   by_cases c:0<veZ h0 f
   ·exact absurd (h3 f e c) (QV _)
   ·rw[e]at hab
    have hab:ab∈[(a,i9 h0)]:=hab
    rw[Nc.mp hab]
    have hv:0<veZ h0 a:=by
     rcases h1 with rfl|h1
     ·exact absurd vf c
     ·exact h1
    have ev:veZ a (i9 h0)=veZ h0 a:=by unfold veZ i9;grind
    refine⟨ha,sy h0 m0,by show 0<veZ a (i9 h0);rw[ev];exact hv,?_⟩
    show Sup _ (ry (tri a) (tri (i9 h0)))
    rw[B1]
    exact Dw syT (MD.mpr ⟨h0,m0,rfl⟩) (MD.mpr ⟨a,ha,rfl⟩) s0 t0 hz ta ef (by rw[v6];exact u9.mpr hv) (by rw[v6];have:=u9 (n:=veZ h0 f);grind)
 | succ k ih =>
  intro a z ha hz ta h1 h2 h3 ab hab
  cases e:K5 a ss with
  | none =>
   exfalso
   rcases h1 with rfl|h1
   ·obtain⟨f,hf⟩:=h2 rfl;rw[e]at hf;cases hf
   ·have:=(cZ (h:=a) hp).no e (i9 h0) (sy h0 m0)
    exact this (by rw[show veZ a (i9 h0)=veZ h0 a by unfold veZ i9;grind];exact h1)
  | some f =>
   obtain⟨mf,vf,ef⟩:=J3 hp e
   rw[e]at hab
   by_cases c:0<veZ h0 f
   ·have er:Q3 h0 ss (k+1) (some f)=f :: Q3 h0 ss k (K5 f ss):=if_pos c
    rw[er]at hab
    have sf:=mj hz ta ef
    rcases Mv.mp hab with rfl|hab
    ·exact⟨ha,mf,vf,sf⟩
    ·refine ih f (ry (tri a) (tri f)) mf sf (wc (D6 ef.ve)) (.inr c) (fun z=>?_) (fun g hg hc=>?_) ab hab
     ·subst z
      have:veZ f f=0:=by unfold veZ;grind
      omega
     ·have:=bg hp hg (.inr c) hc
      have:=h3 f e c
      omega
   ·have er:Q3 h0 ss (k+1) (some f)=[]:=if_neg c
    rw[er]at hab
    have hab:ab∈[(a,i9 h0)]:=hab
    rw[Nc.mp hab]
    have hv:0<veZ h0 a:=by
     rcases h1 with rfl|h1
     ·exact absurd vf c
     ·exact h1
    have ev:veZ a (i9 h0)=veZ h0 a:=by unfold veZ i9;grind
    refine⟨ha,sy h0 m0,by show 0<veZ a (i9 h0);rw[ev];exact hv,?_⟩
    show Sup _ (ry (tri a) (tri (i9 h0)))
    rw[B1]
    exact Dw syT (MD.mpr ⟨h0,m0,rfl⟩) (MD.mpr ⟨a,ha,rfl⟩) s0 t0 hz ta ef (by rw[v6];exact u9.mpr hv) (by rw[v6];have:=u9 (n:=veZ h0 f);grind)
noncomputable def A3(c d:Nat):Nat:=c / NH c d*d
theorem Q6(c d:Nat):A3 c d=Rc c d:=by
 unfold A3 Rc
 rw[Oh,← Nat.mul_div_assoc _ (Nat.gcd_dvd_left c d),Oh]
noncomputable def cbL(l:T3):Nat:=A3 (A3 (A3 1 l.1.den) l.2.1.den) l.2.2.den
theorem kI(l:T3):cbL l=Rc (Rc l.1.den l.2.1.den) l.2.2.den:=by
 unfold cbL
 rw[Q6,Q6,Q6,Nat.lcm_one_left]
theorem BF(l:T3):0<cbL l:=by
 rw[kI]
 exact Pr (Pr l.1.den_pos l.2.1.den_pos) l.2.2.den_pos
theorem Ik(l:T3):l.1.den ∣ cbL l:=by rw[kI];exact Nat.dvd_trans (OO _ _) (OO _ _)
theorem Ij(l:T3):l.2.1.den ∣ cbL l:=by rw[kI];exact Nat.dvd_trans (Pn _ _) (OO _ _)
theorem Ii(l:T3):l.2.2.den ∣ cbL l:=by rw[kI];exact Pn _ _
noncomputable def O5(q:Rat)(c:Nat):Int:=q.num*((c / q.den:Nat):Int)
theorem aj{q:Rat}{c:Nat}(h:q.den ∣ c):(O5 q c:Rat)=q*(c:Rat):=by
 obtain⟨k,rfl⟩:=h
 unfold O5
 rw[Nat.mul_div_cancel_left _ q.den_pos,ML,← L3 q,Rat.natCast_mul,Nq]
 grind
noncomputable def g6(l:T3)(i:Nat):Sd:=(O5 l.1 (cbL l),O5 l.2.1 (cbL l),O5 l.2.2 (cbL l),(i:Int),(cbL l:Int))
noncomputable def L6:Nat→List T3→List Sd
 | _,[]=>[]
 | i,l :: r=>g6 l i :: i9 (g6 l i) :: L6 (i+1) r
noncomputable abbrev f6(ls:List T3):List Sd:=L6 0 ls
theorem C2(l:T3)(i:Nat):tri (g6 l i)=(l.1*(cbL l:Rat),l.2.1*(cbL l:Rat),l.2.2*(cbL l:Rat)):=by
 unfold tri g6
 rw[aj (Ik l),aj (Ij l),aj (Ii l)]
theorem rO(s:Sd):i9 (i9 s)=s:=by
 obtain⟨a,b,c,d,e⟩:=s
 unfold i9
 show(- -a,- -b,c,d,- -e)=_
 rw[QW,QW,QW]
theorem C4{s:Sd}:∀{ls:List T3} {i:Nat},s∈L6 i ls→∃ l∈ls,∃ j,s=g6 l j∨s=i9 (g6 l j)
 | [],_,h=>nomatch h
 | l :: r,i,h=>by
  rcases Mv.mp h with h|h
  ·exact⟨l,Mz,i,.inl h⟩
  ·rcases Mv.mp h with h|h
   ·exact⟨l,Mz,i,.inr h⟩
   ·obtain⟨l',h1,j,h2⟩:=C4 h
    exact⟨l',Mx _ h1,j,h2⟩
theorem cL{l:T3}:∀{ls:List T3} {i:Nat},l∈ls→∃ j,g6 l j∈L6 i ls∧i9 (g6 l j)∈L6 i ls
 | [],_,h=>nomatch h
 | m :: r,i,h=>by
  rcases Mv.mp h with rfl|h
  ·exact⟨i,Mz,Mx _ Mz⟩
  ·obtain⟨j,h1,h2⟩:=cL (i:=i+1) h
   exact⟨j,Mx _ (Mx _ h1),Mx _ (Mx _ h2)⟩
theorem iZ:∀{ls:List T3} {i:Nat},∀ s∈L6 i ls,i9 s∈L6 i ls
 | [],_,_,h=>nomatch h
 | l :: r,i,s,h=>by
  rcases Mv.mp h with rfl|h
  ·exact Mx _ Mz
  ·rcases Mv.mp h with rfl|h
   ·rw[rO];exact Mz
   ·exact Mx _ (Mx _ (iZ s h))
structure LineOk(l:T3):Prop where
 ne:¬ (l.1=0∧l.2.1=0)
 pos:0<l.2.2
theorem E3(l:T3):(0:Rat)<(cbL l:Rat):=by
 exact Rat.natCast_pos.mpr (BF l)
theorem cI{ls:List T3}(h:∀ l∈ls,LineOk l){i:Nat}:∀ s∈L6 i ls,0<s.2.2.1:=fun s hs=>by
 obtain⟨l,hl,j,e⟩:=C4 hs
 have hr:s.2.2.1=(g6 l j).2.2.1:=by rcases e with rfl|rfl<;>rfl
 rw[hr]
 have e2:((g6 l j).2.2.1:Rat)=l.2.2*(cbL l:Rat):=congrArg (fun t:T3=>t.2.2) (C2 l j)
 refine u9.mp ?_
 rw[e2]
 exact NW (h l hl).pos (E3 l)
theorem K8(l:T3)(y u:Rat):N8 l y u=true↔l.1*y+l.2.1*u≤l.2.2∧-(l.1*y+l.2.1*u)≤l.2.2:=by
 unfold N8 j4
 rw[decide_eq_true_iff]
 split<;>grind
theorem aW{c x r:Rat}(hc:0<c):x*c≤r*c↔x≤r:=by
 constructor
 ·intro h
  have:0≤c*(r - x):=by grind
  have:=K3 hc this
  grind
 ·intro h
  have:0≤(r - x)*c:=MQ (by grind) (Q5 hc)
  grind
theorem df(l:T3)(j:Nat)(z:Rat × Rat):dt (tri (g6 l j)) z=(l.1*z.1+l.2.1*z.2)*(cbL l:Rat):=by
 rw[C2];unfold dt;grind
theorem pL(s:Sd)(z:Rat × Rat):dt (tri (i9 s)) z = -dt (tri s) z:=by rw[B1];unfold dt ng;grind
theorem cH(ls:List T3)(z:Rat × Rat):Sup ((f6 ls).map tri) z↔E6 ls z.1 z.2=true:=by
 unfold E6
 rw[NG]
 constructor
 ·intro h l hl
  obtain⟨j,h1,h2⟩:=cL (i:=0) hl
  have a1:=h _ (MD.mpr ⟨_,h1,rfl⟩)
  have a2:=h _ (MD.mpr ⟨_,h2,rfl⟩)
  rw[pL]at a2
  have e:(tri (i9 (g6 l j))).2.2=(tri (g6 l j)).2.2:=rfl
  rw[e]at a2
  rw[df,C2]at a1 a2
  rw[K8]
  refine⟨(aW (E3 l)).mp a1,(aW (E3 l)).mp ?_⟩
  rw[Pc];exact a2
 ·intro h s hs
  obtain⟨t,ht,rfl⟩:=MD.mp hs
  obtain⟨l,hl,j,e⟩:=C4 ht
  obtain⟨b1,b2⟩:=(K8 l z.1 z.2).mp (h l hl)
  rcases e with rfl|rfl
  ·rw[df,C2];exact(aW (E3 l)).mpr b1
  ·rw[pL]
   show -dt (tri (g6 l j)) z≤(tri (g6 l j)).2.2
   rw[df,C2,← Pc]
   exact(aW (E3 l)).mpr b2
theorem F5{ls:List T3}(hok:∀ l∈ls,LineOk l)(hne:ls≠[]):∃ h0 l,G7 (f6 ls)=h0 :: l∧h0∈f6 ls ∧
  ((l=[]∧∀ s∈f6 ls,veZ h0 s=0)∨(l≠[]∧Rim ((f6 ls).map tri) (tri h0) (l.map tri)∧∀ ab∈(h0 :: l).zip (l++[i9 h0]),ab.1∈f6 ls∧ab.2∈f6 ls∧0<veZ ab.1 ab.2)):=by
 have hp:∀ s∈f6 ls,0<s.2.2.1:=cI hok (i:=0)
 have sy:∀ s∈f6 ls,i9 s∈f6 ls:=iZ (ls:=ls) (i:=0)
 have nn:f6 ls≠[]:=by
  cases ls with
  | nil=>exact absurd rfl hne
  | cons a b=>exact fun z=>nomatch z
 generalize f6 ls=ss at *
 obtain⟨s1,r,rfl⟩:∃ s1 r,ss=s1 :: r:=by
  cases ss with
  | nil=>exact absurd rfl nn
  | cons a b=>exact⟨_,_,rfl⟩
 refine⟨C6 (s1 :: r) s1,_,rfl,?_⟩
 have m0:C6 (s1 :: r) s1∈s1 :: r:=by
  rcases aS (s1 :: r) s1 with h|h
  ·rw[h];exact Mz
  ·exact h
 have le:=fun t ht=>rn (s1 :: r) s1 t hp (hp s1 Mz) (hp t ht) (.inl ht)
 generalize C6 (s1 :: r) s1=h0 at *
 generalize s1 :: r=ss at *
 refine⟨m0,?_⟩
 cases e:K5 h0 ss with
 | none =>
  left
  have no:=(cZ (h:=h0) hp).no e
  refine⟨by cases ss.length<;>rfl,fun s hs=>?_⟩
  have a1:=no s hs
  have a2:=no _ (sy s hs)
  have:veZ h0 (i9 s) = -veZ h0 s:=by unfold veZ i9;grind
  omega
 | some f =>
  right
  obtain⟨mf,vf,ef⟩:=J3 hp e
  have hl:ss.length≠0:=fun z=>by rw[OP z]at m0;cases m0
  have r0:=hp h0 m0
  have p0:0<h0.1:=by
   rcases QF 0 h0.1 with z|z
   ·exact z
   ·exfalso
    have U9:∀ s∈ss,s.1=0:=fun s hs=>by
     have q1:=le s hs
     have q2:=le _ (sy s hs)
     have rs:=hp s hs
     have q2:-s.1*h0.2.2.1≤h0.1*s.2.2.1:=q2
     have q3:0 ≤ -h0.1*s.2.2.1:=OI (by omega) (by omega)
     rw[Int.neg_mul]at q2 q3
     have q4:s.1*h0.2.2.1=0:=by omega
     exact(Pb.mp q4).resolve_right (by omega)
    have:veZ h0 f=0:=by
     unfold veZ;rw[U9 h0 m0,U9 f mf,PN,Int.mul_zero];rfl
    omega
  have p0R:(0:Rat)<(h0.1:Rat):=u9.mpr p0
  have s0:Sup (ss.map tri) ((h0.2.2.1:Rat) / (h0.1:Rat),0):=fun s hs=>by
   obtain⟨t,ht,rfl⟩:=MD.mp hs
   have q:=le t ht
   have q':((t.1*h0.2.2.1:Int):Rat)≤((h0.1*t.2.2.1:Int):Rat):=PD.mpr q
   rw[ML,ML]at q'
   unfold dt tri
   show(t.1:Rat)*((h0.2.2.1:Rat) / (h0.1:Rat))+(t.2.1:Rat)*0≤(t.2.2.1:Rat)
   have e1:(h0.1:Rat)*((h0.2.2.1:Rat) / (h0.1:Rat))=(h0.2.2.1:Rat):=by rw[Ow,Nk (D6 p0R)]
   have:0≤(h0.1:Rat)*((t.2.2.1:Rat) - (t.1:Rat)*((h0.2.2.1:Rat) / (h0.1:Rat))):=by
    generalize (h0.2.2.1:Rat) / (h0.1:Rat)=w at *
    generalize (h0.1:Rat)=A at *
    generalize (h0.2.2.1:Rat)=B at *
    generalize (t.1:Rat)=C at *
    generalize (t.2.2.1:Rat)=E at *
    subst e1
    clear le hp sy
    grind
   have:=K3 p0R this
   rw[PQ,Pf]
   generalize (t.1:Rat)*((h0.2.2.1:Rat) / (h0.1:Rat))=w at *
   generalize (t.2.2.1:Rat)=E at *
   clear le hp sy
   grind
  have t0:dt (tri h0) ((h0.2.2.1:Rat) / (h0.1:Rat),0)=(tri h0).2.2:=by
   unfold dt tri
   show(h0.1:Rat)*((h0.2.2.1:Rat) / (h0.1:Rat))+(h0.2.1:Rat)*0=(h0.2.2.1:Rat)
   rw[Ow,Nk (D6 p0R),PQ,Pf]
  have all:=Ar hp sy m0 s0 t0 ss.length h0 _ m0 s0 t0 (.inl rfl) (fun _=>⟨f,e⟩) (fun g hg hv=>Mt (bg hp hg (.inl rfl) hv) (ye h0 ss h0))
  rw[e]at all
  refine⟨?_,⟨?_,fun s hs=>?_,fun s hs=>?_,fun ab hab=>?_⟩,fun ab hab=>?_⟩
  ·obtain⟨k,hk⟩:∃ k,ss.length=k+1:=⟨ss.length - 1,by omega⟩
   rw[hk]
   show(if 0<veZ h0 f then _ else _)≠[]
   rw[if_pos vf];exact fun z=>nomatch z
  ·obtain⟨k,hk⟩:∃ k,ss.length=k+1:=⟨ss.length - 1,by omega⟩
   rw[hk]
   show(if 0<veZ h0 f then _ else _:List Sd).map tri≠[]
   rw[if_pos vf];exact fun z=>nomatch z
  ·obtain⟨t,ht,rfl⟩:=MD.mp hs
   rw[← B1];exact MD.mpr ⟨_,sy t ht,rfl⟩
  ·obtain⟨t,ht,rfl⟩:=MD.mp hs
   exact u9.mpr (hp t ht)
  ·have em:ab∈((h0 :: Q3 h0 ss ss.length (some f)).map tri).zip ((Q3 h0 ss ss.length (some f)++[i9 h0]).map tri):=by
    rw[MR,Ni,Ni,Od,B1];exact hab
   rw[J6]at em
   obtain⟨cd,hcd,rfl⟩:=MD.mp em
   obtain⟨q1,q2,q3,q4⟩:=all cd hcd
   exact⟨MD.mpr ⟨_,q1,rfl⟩,MD.mpr ⟨_,q2,rfl⟩,by show 0<ve (tri cd.1) (tri cd.2);rw[v6];exact u9.mpr q3,q4⟩
  ·obtain⟨q1,q2,q3,q4⟩:=all ab hab
   exact⟨q1,q2,q3⟩
noncomputable def Je(a b:Rat × Rat):Bool:=if a.1=b.1 then decide (a.2<b.2)else decide (a.1<b.1)
noncomputable def AB(rs:List (Rat × Rat)):Nat→Nat
 | 0=>0
 | i+1=>if Je (rs.getD i (0,0)) (rs.getD (AB rs i) (0,0))=true then i else AB rs i
noncomputable def Ek(rs:List (Rat × Rat)):List (Rat × Rat):=rs.drop (AB rs rs.length)++rs.take (AB rs rs.length)
noncomputable def mM(h0:Sd)(l:List Sd):List (Rat × Rat):=((h0 :: l).zip (l++[i9 h0])).map fun ab=>ry (tri ab.1) (tri ab.2)
noncomputable def yd(ls:List T3):Option (List (Rat × Rat)):=match G7 (f6 ls)with
 | []=>none
 | [_]=>none
 | h0 :: x :: l=>some (Ek (mM h0 (x :: l)++(mM h0 (x :: l)).map ngZ))
theorem An{rs:List (Rat × Rat)}{z:Rat × Rat}:z∈Ek rs↔z∈rs:=by
 unfold Ek
 rw[MX,Or.comm,← MX,List.take_append_drop]
theorem wd(h0:Sd)(l:List Sd):mM h0 l++(mM h0 l).map ngZ=fW (tri h0) (l.map tri):=by
 unfold mM fW eQ
 have e:(tri h0 :: l.map tri).zip (l.map tri++[ng (tri h0)])=((h0 :: l).zip (l++[i9 h0])).map fun ab=>(tri ab.1,tri ab.2):=by
  rw[← J6,Ni,MR,Ni,Od,B1]
 rw[e,NL,NL,NL]
 rfl
def G3(ls:List T3):Prop:=∀ a∈ls,∀ b∈ls,a.1*b.2.1=b.1*a.2.1
theorem dO(a b:T3)(i j:Nat):ve (tri (g6 a i)) (tri (g6 b j))=(a.1*b.2.1 - b.1*a.2.1)*((cbL a:Rat)*(cbL b:Rat)):=by
 rw[C2,C2];unfold ve;grind
theorem yc{ls:List T3}(hok:∀ l∈ls,LineOk l) :
  (yd ls=none∧G3 ls) ∨ ∃ cs,yd ls=some cs∧¬ G3 ls∧(∃ h0 l,Rim ((f6 ls).map tri) h0 l∧∀ z,z∈cs↔z∈fW h0 l):=by
 by_cases hne:ls=[]
 ·subst hne
  exact .inl ⟨rfl,fun a ha=>nomatch ha⟩
 obtain⟨h0,l,e,m0,h⟩:=F5 hok hne
 rcases h with⟨rfl,h⟩|⟨hl,R,h⟩
 ·left
  refine⟨by unfold yd;rw[e],fun a ha b hb=>?_⟩
  obtain⟨i,ha,_⟩:=cL (i:=0) ha
  obtain⟨j,hb,_⟩:=cL (i:=0) hb
  have e1:=h _ ha
  have e2:=h _ hb
  obtain⟨c,hc,k,ec⟩:=C4 m0
  have hc0:¬ ((tri h0).1=0∧(tri h0).2.1=0):=fun⟨z1,z2⟩=>by
   have cp:=E3 c
   have:(tri (g6 c k)).1=0∧(tri (g6 c k)).2.1=0:=by
    rcases ec with rfl|rfl
    ·exact⟨z1,z2⟩
    ·rw[B1]at z1 z2
     unfold ng at z1 z2
     exact⟨by grind,by grind⟩
   rw[C2]at this
   have t1:c.1*(cbL c:Rat)=0:=this.1
   have t2:c.2.1*(cbL c:Rat)=0:=this.2
   exact(hok c hc).ne ⟨by grind,by grind⟩
  have f1:ve (tri h0) (tri (g6 a i))=0:=by rw[v6,e1];rfl
  have f2:ve (tri h0) (tri (g6 b j))=0:=by rw[v6,e2];rfl
  have f3:ve (tri (g6 a i)) (tri (g6 b j))=0:=by
   generalize tri (g6 a i)=x at *
   generalize tri (g6 b j)=y at *
   generalize tri h0=w at *
   unfold ve at *
   have i1:w.1*(x.1*y.2.1 - x.2.1*y.1)=0:=by
    have:w.1*(x.1*y.2.1 - x.2.1*y.1)=x.1*(w.1*y.2.1 - w.2.1*y.1) - y.1*(w.1*x.2.1 - w.2.1*x.1):=by grind
    rw[this,f1,f2];grind
   have i2:w.2.1*(x.1*y.2.1 - x.2.1*y.1)=0:=by
    have:w.2.1*(x.1*y.2.1 - x.2.1*y.1)=x.2.1*(w.1*y.2.1 - w.2.1*y.1) - y.2.1*(w.1*x.2.1 - w.2.1*x.1):=by grind
    rw[this,f1,f2];grind
   by_cases c1:w.1=0
   ·have c2:w.2.1≠0:=fun z=>hc0 ⟨c1,z⟩
    grind
   ·grind
  rw[dO]at f3
  have q1:=D6 (NW (E3 a) (E3 b))
  generalize (cbL a:Rat)*(cbL b:Rat)=k at *
  generalize a.1*b.2.1=u at *
  generalize b.1*a.2.1=v at *
  clear h e m0 hc0 f1 f2 e1 e2 hok
  grind
 ·right
  obtain⟨x,l,rfl⟩:∃ x l',l=x :: l':=by
   cases l with
   | nil=>exact absurd rfl hl
   | cons x l=>exact⟨x,l,rfl⟩
  refine⟨_,by unfold yd;rw[e],fun al=>?_,_,_,R,fun z=>?_⟩
  ·obtain⟨q1,q2,q3⟩:=h (h0,x) Mz
   obtain⟨a,ha,i,ea⟩:=C4 q1
   obtain⟨b,hb,j,eb⟩:=C4 q2
   have hv:=al a ha b hb
   have z0:ve (tri (g6 a i)) (tri (g6 b j))=0:=by rw[dO,hv];grind
   have q3:0<veZ h0 x:=q3
   have q4:(0:Rat)<ve (tri h0) (tri x):=by rw[v6];exact u9.mpr q3
   have ea':tri h0=tri (g6 a i)∨tri h0=ng (tri (g6 a i)):=by
    rcases ea with h|h
    ·have h:h0=_:=h;left;rw[h]
    ·have h:h0=_:=h;right;rw[h,B1]
   have eb':tri x=tri (g6 b j)∨tri x=ng (tri (g6 b j)):=by
    rcases eb with h|h
    ·have h:x=_:=h;left;rw[h]
    ·have h:x=_:=h;right;rw[h,B1]
   have z1:ve (tri h0) (tri x)=0:=by
    rcases ea' with h|h<;>rcases eb' with h'|h'<;>(rw[h,h'];clear q4;generalize tri (g6 a i)=A at *;generalize tri (g6 b j)=B at *;unfold ve at *;first|exact z0|(unfold ng;grind))
   grind
  ·rw[An,wd]
theorem C5{a b:Sd}:sdD a=sdD b↔a=b:=by
 constructor
 ·intro h
  unfold sdD at h
  injection h with h
  injection h with h1 h
  injection h with h2 h
  injection h with h3 h
  injection h with h4 h
  injection h with h5 h
  injection h1 with h1;injection h2 with h2;injection h3 with h3;injection h4 with h4;injection h5 with h5
  exact Prod.ext h1 (Prod.ext h2 (Prod.ext h3 (Prod.ext h4 h5)))
 ·rintro rfl;rfl
theorem B4{xs ys:List Sd}:xs.map sdD=ys.map sdD↔xs=ys:=Nv (fun _ _ h=>C5.mp h)
theorem F3{a b:Rat × Rat}:rD a=rD b↔a=b:=by
 constructor
 ·intro h
  unfold rD r9 at h
  injection h with h
  injection h with h1 h
  injection h with h2 h
  exact Prod.ext (i3.mp h1) (i3.mp h2)
 ·rintro rfl;rfl
theorem D5{xs ys:List (Rat × Rat)}:xs.map rD=ys.map rD↔xs=ys:=Nv (fun _ _ h=>F3.mp h)
structure SzS(s:Sd):Prop where
 p:s.1.natAbs<2 ^ 1200
 q:s.2.1.natAbs<2 ^ 1200
 r:s.2.2.1.natAbs<2 ^ 1200
noncomputable def mP:Option Sd→D
 | none=>.non
 | some s=>sdD s
structure LnOk(l:T3):Prop extends LineOk l where
 p:sz l.1≤1300
 q:sz l.2.1≤1300
 r:sz l.2.2≤1300
 s:SzS (g6 l 0)
def BR(ls:List T3):Prop:=ls.length≤12∧∀ l∈ls,LnOk l
local macro_rules|`(tactic| walk_at "inj")=>`(tactic| (rename_i e h;simp only[List.cons.injEq,GM.C5,GM.B4,GM.F3,GM.D5,and_true,true_and,GM.i3,GM.i5,GM.h8,GM.i6,GM.h9,D.tup.injEq,D.ref.injEq,D.int.injEq,D.str.injEq,D.bl.injEq,D.vl.injEq,MU,and_assoc]at e;(repeat(obtain⟨e1,e⟩:=e;subst e1));subst e;exact h))
local macro_rules|`(tactic| walk_at "injs")=>`(tactic| (rename_i e o h;rcases o with o|o<;>(subst o;first|(exfalso;simp only[D.tup.injEq,List.cons.injEq,reduceCtorEq,false_and,and_false]at e;done)|(simp only[List.cons.injEq,GM.C5,GM.B4,GM.F3,GM.D5,and_true,true_and,GM.i3,GM.i5,GM.h8,GM.i6,GM.h9,D.tup.injEq,D.ref.injEq,D.int.injEq,D.str.injEq,D.bl.injEq,D.vl.injEq,MU,and_assoc]at e;(repeat(obtain⟨e1,e⟩:=e;subst e1));subst e;exact h))))
abbrev jM(l:T3)(M:Mem)(R:DK)(Y:DXK):Prop:=LnOk l∧R (.int ((cbL l:Nat):Int)) M
def Eg:DSp:=fun ds M R Y=>∃(l:T3),ds=[f8 l]∧jM l M R Y
theorem ud{l:T3}{M:Mem}{R:DK}{Y:DXK}:Eg [f8 l] M R Y=(jM l M R Y):=propext ⟨fun z=>by obtain⟨_,_,_⟩:=z;walk_at "inj",fun h=>⟨l,rfl,h⟩⟩
abbrev az(l:T3)(c:Int)(M:Mem)(R:DK)(Y:DXK):Prop:=(LnOk l∧c=((cbL l:Nat):Int))∧R (.vl [.int (g6 l 0).1,.int (g6 l 0).2.1,.int (g6 l 0).2.2.1]) M
def oR:DSp:=fun ds M R Y=>∃(l:T3) (c:Int),ds=[f8 l,.int c]∧az l c M R Y
theorem lr{l:T3}{c:Int}{M:Mem}{R:DK}{Y:DXK}:oR [f8 l,.int c] M R Y=(az l c M R Y):=propext ⟨fun z=>by obtain⟨_,_,_,_⟩:=z;walk_at "inj",fun h=>⟨l,c,rfl,h⟩⟩
abbrev T5(ls:List T3)(M:Mem)(R:DK)(Y:DXK):Prop:=BR ls∧R (.vl ((f6 ls).map sdD)) M
def jz:DSp:=fun ds M R Y=>∃(x0:D) (ls:List T3),ds=[x0]∧(x0 = .vl (ls.map f8)∨x0 = .tup (ls.map f8))∧T5 ls M R Y
theorem lA{ls:List T3}{M:Mem}{R:DK}{Y:DXK}:jz [.vl (ls.map f8)] M R Y=(T5 ls M R Y):=propext ⟨fun z=>by obtain⟨_,_,_,_,_⟩:=z;walk_at "injs",fun h=>⟨_,ls,rfl,.inl rfl,h⟩⟩
theorem di{ls:List T3}{M:Mem}{R:DK}{Y:DXK}:jz [.tup (ls.map f8)] M R Y=(T5 ls M R Y):=propext ⟨fun z=>by obtain⟨_,_,_,_,_⟩:=z;walk_at "injs",fun h=>⟨_,ls,rfl,.inr rfl,h⟩⟩
abbrev jJ(a:Sd)(M:Mem)(R:DK)(Y:DXK):Prop:=R (sdD (i9 a)) M
def Ak:DSp:=fun ds M R Y=>∃(a:Sd),ds=[sdD a]∧jJ a M R Y
theorem uc{a:Sd}{M:Mem}{R:DK}{Y:DXK}:Ak [sdD a] M R Y=(jJ a M R Y):=propext ⟨fun z=>by obtain⟨_,_,_⟩:=z;walk_at "inj",fun h=>⟨a,rfl,h⟩⟩
abbrev cO(a b:Sd)(M:Mem)(R:DK)(Y:DXK):Prop:=(SzS a∧SzS b)∧R (.int (veZ a b)) M
def eu:DSp:=fun ds M R Y=>∃(a b:Sd),ds=[sdD a,sdD b]∧cO a b M R Y
theorem qf{a b:Sd}{M:Mem}{R:DK}{Y:DXK}:eu [sdD a,sdD b] M R Y=(cO a b M R Y):=propext ⟨fun z=>by obtain⟨_,_,_,_⟩:=z;walk_at "inj",fun h=>⟨a,b,rfl,h⟩⟩
abbrev cQ(a b c:Sd)(M:Mem)(R:DK)(Y:DXK):Prop:=(SzS a∧SzS b∧SzS c)∧R (.int (tnZ a b c)) M
def vS:DSp:=fun ds M R Y=>∃(a b c:Sd),ds=[sdD a,sdD b,sdD c]∧cQ a b c M R Y
theorem qh{a b c:Sd}{M:Mem}{R:DK}{Y:DXK}:vS [sdD a,sdD b,sdD c] M R Y=(cQ a b c M R Y):=propext ⟨fun z=>by obtain⟨_,_,_,_,_⟩:=z;walk_at "inj",fun h=>⟨a,b,c,rfl,h⟩⟩
abbrev cT(a b:Sd)(M:Mem)(R:DK)(Y:DXK):Prop:=(SzS a∧SzS b)∧R (.bl (D9 a b)) M
def vV:DSp:=fun ds M R Y=>∃(a b:Sd),ds=[sdD a,sdD b]∧cT a b M R Y
theorem qk{a b:Sd}{M:Mem}{R:DK}{Y:DXK}:vV [sdD a,sdD b] M R Y=(cT a b M R Y):=propext ⟨fun z=>by obtain⟨_,_,_,_⟩:=z;walk_at "inj",fun h=>⟨a,b,rfl,h⟩⟩
abbrev cR(ss:List Sd)(M:Mem)(R:DK)(Y:DXK):Prop:=(∃ s r,ss=s :: r)∧(∀ s∈ss,SzS s)∧R (sdD (C6 ss (ss.headD (0,0,0,0,0)))) M
def vT:DSp:=fun ds M R Y=>∃(ss:List Sd),ds=[.vl (ss.map sdD)]∧cR ss M R Y
theorem qi{ss:List Sd}{M:Mem}{R:DK}{Y:DXK}:vT [.vl (ss.map sdD)] M R Y=(cR ss M R Y):=propext ⟨fun z=>by obtain⟨_,_,_⟩:=z;walk_at "inj",fun h=>⟨ss,rfl,h⟩⟩
abbrev jB(ss:List Sd)(g:Sd)(M:Mem)(R:DK)(Y:DXK):Prop:=(SzS g∧∀ s∈ss,SzS s)∧R (mP (K5 g ss)) M
def Ed:DSp:=fun ds M R Y=>∃(ss:List Sd) (g:Sd),ds=[.vl (ss.map sdD),sdD g]∧jB ss g M R Y
theorem tZ{ss:List Sd}{g:Sd}{M:Mem}{R:DK}{Y:DXK}:Ed [.vl (ss.map sdD),sdD g] M R Y=(jB ss g M R Y):=propext ⟨fun z=>by obtain⟨_,_,_,_⟩:=z;walk_at "inj",fun h=>⟨ss,g,rfl,h⟩⟩
abbrev aK(ls:List T3)(M:Mem)(R:DK)(Y:DXK):Prop:=BR ls∧R (.vl ((G7 (f6 ls)).map sdD)) M
def rf:DSp:=fun ds M R Y=>∃(x0:D) (ls:List T3),ds=[x0]∧(x0 = .vl (ls.map f8)∨x0 = .tup (ls.map f8))∧aK ls M R Y
theorem qm{ls:List T3}{M:Mem}{R:DK}{Y:DXK}:rf [.vl (ls.map f8)] M R Y=(aK ls M R Y):=propext ⟨fun z=>by obtain⟨_,_,_,_,_⟩:=z;walk_at "injs",fun h=>⟨_,ls,rfl,.inl rfl,h⟩⟩
theorem gv{ls:List T3}{M:Mem}{R:DK}{Y:DXK}:rf [.tup (ls.map f8)] M R Y=(aK ls M R Y):=propext ⟨fun z=>by obtain⟨_,_,_,_,_⟩:=z;walk_at "injs",fun h=>⟨_,ls,rfl,.inr rfl,h⟩⟩
abbrev jD(a b:Sd)(M:Mem)(R:DK)(Y:DXK):Prop:=(SzS a∧SzS b∧veZ a b≠0)∧R (rD (ry (tri a) (tri b))) M
def Ee:DSp:=fun ds M R Y=>∃(a b:Sd),ds=[sdD a,sdD b]∧jD a b M R Y
theorem ua{a b:Sd}{M:Mem}{R:DK}{Y:DXK}:Ee [sdD a,sdD b] M R Y=(jD a b M R Y):=propext ⟨fun z=>by obtain⟨_,_,_,_⟩:=z;walk_at "inj",fun h=>⟨a,b,rfl,h⟩⟩
theorem tW{a:Sd}{M:Mem}{R:DK}:gIx (sdD a) (.int 0) M R=R (.int a.1) M:=Y4
theorem tV{a:Sd}{M:Mem}{R:DK}:gIx (sdD a) (.int 1) M R=R (.int a.2.1) M:=Y3
theorem tU{a:Sd}{M:Mem}{R:DK}:gIx (sdD a) (.int 2) M R=R (.int a.2.2.1) M:=iN
theorem tY{a:Rat × Rat}{M:Mem}{R:DK}:gIx (rD a) (.int 0) M R=R (e7 a.1) M:=Y4
theorem tX{a:Rat × Rat}{M:Mem}{R:DK}:gIx (rD a) (.int 1) M R=R (e7 a.2) M:=Y3
theorem SzS.ve{a b:Sd}(ha:SzS a)(hb:SzS b):(veZ a b).natAbs<2 ^ 2401:=by
 have h1:=B2 ha.p hb.q
 have h2:=B2 ha.q hb.p
 unfold veZ
 have:=Oj (a.1*b.2.1) (a.2.1*b.1)
 rw[show 2401=1200+1200+1 from rfl,NJ]
 omega
theorem C7(c d:Nat):A3 c d≤c*d:=by
 unfold A3
 exact Nm _ (Oe _ _)
theorem kH:∀(xs:List Rat) (c m:Nat),(∀ x∈xs,sz x≤1300)→c<2 ^ m→xs.foldl (fun c q=>A3 c q.den) c<2 ^ (m+1300*xs.length)
 | [],c,m,_,h=>by simpa using h
 | x :: xs,c,m,hx,h=>by
  have h1:A3 c x.den<2 ^ (m+1300):=MP (C7 c x.den) (eK h (o8 x (hx x Mz)))
  have:=kH xs _ _ (fun y hy=>hx y (Mx _ hy)) h1
  rw[QX,Ng]
  rwa [show m+1300*(xs.length+1)=m+1300+1300*xs.length by omega]
theorem LnOk.all{l:T3}(h:LnOk l):∀ x∈[l.1,l.2.1,l.2.2],sz x≤1300:=fun x hx=>by
 simp only[Mv,MG,or_false]at hx
 rcases hx with rfl|rfl|rfl
 ·exact h.p
 ·exact h.q
 ·exact h.r
theorem LnOk.cb{l:T3}(h:LnOk l):cbL l<2 ^ 3901:=kH [l.1,l.2.1,l.2.2] 1 1 h.all (by decide)
theorem sN{ls:List T3}(h:BR ls){i:Nat}:∀ s∈L6 i ls,SzS s:=fun s hs=>by
 obtain⟨l,hl,j,e⟩:=C4 hs
 obtain⟨a,b,c⟩:=(h.2 l hl).s
 rcases e with rfl|rfl
 ·exact⟨a,b,c⟩
 ·exact⟨by show(-(g6 l j).1).natAbs<_;rw[Nz];exact a,by show(-(g6 l j).2.1).natAbs<_;rw[Nz];exact b,c⟩
theorem my:∀(ls:List T3) (i j:Nat) (l:T3),ls[j]? = some l→L6 i (ls.take (j+1))=L6 i (ls.take j)++[g6 l (i+j),i9 (g6 l (i+j))]
 | [],_,_,_,h=>nomatch h
 | a :: r,i,0,l,h=>by
  obtain rfl:=Option.some.inj h
  rfl
 | a :: r,i,j+1,l,h=>by
  have:=my r (i+1) j l h
  rw[OZ,OZ]
  show _ :: _ :: L6 (i+1) (r.take (j+1))=_ :: _ :: (L6 (i+1) (r.take j)++_)
  rw[this,show i+1+j=i+(j+1)by omega]
theorem cJ:∀(ls:List T3) (i:Nat),(L6 i ls).length=2*ls.length
 | [],_=>rfl
 | a :: r,i=>by
  show(L6 (i+1) r).length+1+1=2*(r.length+1)
  rw[cJ r (i+1)];omega
theorem t4(a b:Int):MZ a b=(a:Rat) / (b:Rat):=Qy a b
theorem wb(a b:Sd):(MZ (a.2.2.1*b.2.1 - b.2.2.1*a.2.1) (veZ a b),MZ (a.1*b.2.2.1 - b.1*a.2.2.1) (veZ a b))=ry (tri a) (tri b):=by
 unfold ry
 rw[v6,t4,t4,NU,NU,ML,ML,ML,ML]
 rfl
theorem GU{n:Nat}{a b:Sd}(ha:a.1.natAbs<2 ^ n∧a.2.1.natAbs<2 ^ n∧a.2.2.1.natAbs<2 ^ n)(hb:b.1.natAbs<2 ^ n∧b.2.1.natAbs<2 ^ n∧b.2.2.1.natAbs<2 ^ n)(hv:veZ a b≠0):sz (ry (tri a) (tri b)).1≤2*n+1∧sz (ry (tri a) (tri b)).2≤2*n+1:=by
 have sub:∀{x y z w:Int},x.natAbs<2 ^ n→y.natAbs<2 ^ n→z.natAbs<2 ^ n→w.natAbs<2 ^ n→(x*y - z*w).natAbs<2 ^ (2*n+1):=fun{x y z w} h1 h2 h3 h4=>by
  have e1:=B2 h1 h2
  have e2:=B2 h3 h4
  have:=Oj (x*y) (z*w)
  rw[show 2*n+1=n+n+1 by omega,NJ]
  omega
 rw[← wb]
 have hve:(veZ a b).natAbs<2 ^ (2*n+1):=sub ha.1 hb.2.1 ha.2.1 hb.1
 exact⟨M0 (by omega) (sub ha.2.2 hb.2.1 hb.2.2 ha.2.1) hve hv,M0 (by omega) (sub ha.1 hb.2.2 hb.1 ha.2.2) hve hv⟩
theorem xw{ls:List T3}(hok:∀ l∈ls,LineOk l):(G7 (f6 ls)).length≤2*ls.length+1:=by
 have:∀(h0:Sd) (ss:List Sd) (k:Nat) (o:Option Sd),(Q3 h0 ss k o).length≤k:=fun h0 ss k=>by
  induction k with
  | zero=>intro o;exact MM _
  | succ k ih =>
   intro o
   cases o with
   | none=>exact Np _
   | some h =>
    show(if 0<veZ h0 h then h :: Q3 h0 ss k (K5 h ss)else[]).length≤k+1
    split
    ·rw[Ng];have:=ih (K5 h ss);omega
    ·exact Np _
 have e:=cJ ls 0
 unfold f6
 cases es:L6 0 ls with
 | nil=>exact Np _
 | cons s r =>
  rw[es]at e
  show(Q3 _ _ _ _).length+1≤_
  have:=this (C6 (s :: r) s) (s :: r) (s :: r).length (K5 (C6 (s :: r) s) (s :: r))
  omega
theorem BE{ds:List D}{n:Nat}:DL.O2 ds (some (n:Int)) none=ds.drop n:=by
 unfold DL.O2 HT.sIx
 have h1:¬ ((n:Int)<0):=by omega
 simp only[h1,if_false]
 rw[show((n:Int)).toNat=n from rfl]
 by_cases h:n≤ds.length
 ·rw[Nat.min_eq_left h,Oa (by rw[Oq];exact MM _)]
 ·rw[Nat.min_eq_right (by omega),PF (MM _),PF (by omega)]
  simp
theorem tS:∀(a b:List Sd),bq (a.map sdD) (b.map sdD)=(a.zip b).map fun ab=>D.tup [sdD ab.1,sdD ab.2]
 | [],_=>rfl
 | _ :: _,[]=>rfl
 | x :: a,y :: b=>by
  show D.tup [sdD x,sdD y] :: bq (a.map sdD) (b.map sdD)=_
  rw[tS a b];rfl
end GM
namespace GM
open PySem PySem.Spec L2 DL
open RM (sz)
theorem HN{a q:Rat}(h:q≠0):a / q*q=a:=Nk h
theorem Rim.neg{ss:List T3}{h0:T3}{l:List T3}{z:Rat × Rat}(h:z∈fW h0 l):ngZ z∈fW h0 l:=by
 have nn:∀ z:Rat × Rat,ngZ (ngZ z)=z:=fun z=>by
  unfold ngZ;exact Prod.ext (by show - -z.1=z.1;grind) (by show - -z.2=z.2;grind)
 rcases MX.mp h with h|h
 ·obtain⟨ab,hab,rfl⟩:=MD.mp h
  exact MT _ (MD.mpr ⟨ab,hab,rfl⟩)
 ·obtain⟨ab,hab,rfl⟩:=MD.mp h
  rw[nn]
  exact NB _ (MD.mpr ⟨ab,hab,rfl⟩)
theorem above{ls:List T3}{h0:T3}{r:List T3}(R:Rim ((f6 ls).map tri) h0 r)(hok:∀ l∈ls,LineOk l):∃ z∈fW h0 r,0<z.1:=by
 have eps:∀(l:List T3),(∀ x∈l,LineOk x)→∃ e:Rat,0<e∧∀ x∈l,N8 x e 0=true:=fun l=>by
  induction l with
  | nil=>exact fun _=>⟨1,by decide,fun _ h=>nomatch h⟩
  | cons x l ih =>
   intro h
   obtain⟨e,e0,he⟩:=ih fun y hy=>h y (Mx _ hy)
   have hr:=(h x Mz).pos
   have small:∀{y:T3} {e e':Rat},N8 y e 0=true→0≤e'→e'≤e→0<e→N8 y e' 0=true:=fun{y e e'} k z1 z2 z3=>by
    rw[K8]at k ⊢
    rw[PQ,Pf]at k ⊢
    obtain⟨k1,k2⟩:=k
    have m1:0≤e'*(y.2.2 - y.1*e):=MQ z1 (by grind)
    have m2:0≤e'*(y.2.2+y.1*e):=MQ z1 (by grind)
    have r0:0≤y.2.2:=by grind
    have m3:0≤y.2.2*(e - e'):=MQ r0 (by grind)
    have u1:0≤e*(y.2.2 - y.1*e'):=by grind
    have u2:=K3 z3 u1
    have u3:0≤e*(y.2.2+y.1*e'):=by grind
    have u4:=K3 z3 u3
    exact⟨by grind,by grind⟩
   by_cases p0:x.1=0
   ·refine⟨e,e0,fun y hy=>?_⟩
    rcases Mv.mp hy with rfl|hy
    ·rw[K8,p0];exact⟨by grind,by grind⟩
    ·exact he y hy
   ·have ap:0<j4 x.1:=BO p0
    have dd:=HN (a:=x.2.2) (D6 ap)
    have t0:0<x.2.2 / j4 x.1:=by
     rcases tot (x.2.2 / j4 x.1) 0 with z|z
     ·have:=MQ (show 0 ≤ -(x.2.2 / j4 x.1)by grind) (Q5 ap)
      grind
     ·by_cases z0:x.2.2 / j4 x.1=0
      ·rw[z0]at dd;grind
      ·grind
    have lx:N8 x (x.2.2 / j4 x.1) 0=true:=by
     rw[K8,PQ,Pf]
     generalize x.2.2 / j4 x.1=t at *
     unfold j4 at dd
     have x0:0≤x.2.2:=by grind
     split at dd
     ·exact⟨by grind,by grind⟩
     ·exact⟨by grind,by grind⟩
    by_cases c:x.2.2 / j4 x.1≤e
    ·refine⟨_,t0,fun y hy=>?_⟩
     rcases Mv.mp hy with rfl|hy
     ·exact lx
     ·exact small (he y hy) (Q5 t0) c e0
    ·refine⟨e,e0,fun y hy=>?_⟩
     rcases Mv.mp hy with rfl|hy
     ·exact small lx (Q5 e0) (by grind) t0
     ·exact he y hy
 obtain⟨e,e0,he⟩:=eps ls hok
 obtain⟨c,hc,_,hm⟩:=R.most (1,0,0) (fun z=>by have:=z.1;revert this;decide)
 have:=hm (e,0) ((cH ls (e,0)).mpr (by unfold E6;rw[NG];exact he))
 unfold dt at this
 exact⟨c,hc,by grind⟩
def yJ(n:Nat)(s:Sd):Prop:=s.1.natAbs<2 ^ n∧s.2.1.natAbs<2 ^ n∧s.2.2.1.natAbs<2 ^ n
theorem hJ{xs ys:List Rat}:xs.map e7=ys.map e7↔xs=ys:=Nv (fun _ _ h=>i3.mp h)
local macro_rules|`(tactic| walk_at "inj")=>`(tactic| (rename_i e h;simp only[List.cons.injEq,GM.hJ,and_true,true_and,GM.i3,GM.i5,GM.h8,GM.i6,GM.h9,D.tup.injEq,D.ref.injEq,D.int.injEq,D.str.injEq,D.bl.injEq,D.vl.injEq,MU,and_assoc]at e;(repeat(obtain⟨e1,e⟩:=e;subst e1));subst e;exact h))
local macro_rules|`(tactic| walk_at "injs")=>`(tactic| (rename_i e o h;rcases o with o|o<;>(subst o;first|(exfalso;simp only[D.tup.injEq,List.cons.injEq,reduceCtorEq,false_and,and_false]at e;done)|(simp only[List.cons.injEq,GM.hJ,and_true,true_and,GM.i3,GM.i5,GM.h8,GM.i6,GM.h9,D.tup.injEq,D.ref.injEq,D.int.injEq,D.str.injEq,D.bl.injEq,D.vl.injEq,MU,and_assoc]at e;(repeat(obtain⟨e1,e⟩:=e;subst e1));subst e;exact h))))
theorem tw{a b:Nat × Rat × Rat × Rat}:nr a=nr b↔a=b:=by
 constructor
 ·intro h
  unfold nr at h
  injection h with h
  injection h with h1 h
  injection h with h2 h
  injection h with h3 h
  injection h with h4 h
  injection h1 with h1
  exact Prod.ext (by omega) (Prod.ext (i3.mp h2) (Prod.ext (i3.mp h3) (i3.mp h4)))
 ·rintro rfl;rfl
theorem eN{xs ys:List (Nat × Rat × Rat × Rat)}:xs.map nr=ys.map nr↔xs=ys:=Nv (fun _ _ h=>tw.mp h)
end GM
namespace GM
open PySem PySem.Spec L2 DL
open RM (sz)
local macro_rules|`(tactic| walk_at "inj")=>`(tactic| (rename_i e h;simp only[List.cons.injEq,GM.eN,and_true,true_and,GM.i3,GM.i5,GM.h8,GM.i6,GM.h9,D.tup.injEq,D.ref.injEq,D.int.injEq,D.str.injEq,D.bl.injEq,D.vl.injEq,MU,and_assoc]at e;(repeat(obtain⟨e1,e⟩:=e;subst e1));subst e;exact h))
local macro_rules|`(tactic| walk_at "injs")=>`(tactic| (rename_i e o h;rcases o with o|o<;>(subst o;first|(exfalso;simp only[D.tup.injEq,List.cons.injEq,reduceCtorEq,false_and,and_false]at e;done)|(simp only[List.cons.injEq,GM.eN,and_true,true_and,GM.i3,GM.i5,GM.h8,GM.i6,GM.h9,D.tup.injEq,D.ref.injEq,D.int.injEq,D.str.injEq,D.bl.injEq,D.vl.injEq,MU,and_assoc]at e;(repeat(obtain⟨e1,e⟩:=e;subst e1));subst e;exact h))))
end GM
namespace L2
open PySem PySem.Spec PyProof.Rows
section
variable {X:Cx} {pins:List (Addr × Obj)} {σ:St} {H:Hp} {s:Shared} {h':Heap}
theorem Inv.keptL{t':Nat}(I:Inv X pins σ H s)(k:∀ b o,b≠X.env.locals→s.heap.get? b=some o→h'.get? b=some o)(ns:∀ m,s.heap.Ns X.env.locals m→h'.Ns X.env.locals m):Inv X pins σ H { s with heap:=h',toks:=t' }:=by
 have ne:∀{b:Addr} {o:Obj},X.s₀.heap.get? b=some o→b≠X.env.locals:=fun{b o} e z=>by
  have h1:=MB e
  rw[z]at h1
  exact absurd h1 (Nat.not_lt.mpr I.ok.above)
 have nL:∀{b:Addr} {u:HO},H b=some u→b≠X.env.locals:=fun{b u} e z=>by rw[z,I.free]at e;cases e
 obtain⟨m,hn,hl⟩:=I.loc
 have cel:∀{c:Addr} {v:Option Value},s.heap.IsCell c v→h'.IsCell c v:=fun{c v} d=>by
  obtain⟨o,e1,e2⟩:=d
  refine⟨o,k c o (fun z=>?_) e1,e2⟩
  obtain⟨o2,es,ep,e3,e4,_⟩:=hn
  rw[← z,e1]at e3
  cases e3
  rw[e2]at e4;cases e4
 refine⟨I.ok,I.os,I.bare,⟨fun b o q n hb hx=>k b o (ne q) (I.base.keep b o q n hb hx),fun b o q n hb hx=>?_,I.base.free,fun b o q hx=>?_,I.base.tups,I.base.frzs,I.base.tbls⟩,⟨m,ns m hn,fun i x v e1 e2 e3=>?_⟩,fun x c e=>?_,I.free,I.freeC,fun p hp=>?_,fun b u e=>?_,I.len⟩
 ·obtain⟨sl,z⟩:=I.base.slot b o q n hb hx
  exact⟨sl,k b _ (ne q) z⟩
 ·obtain⟨o',z⟩:=I.base.there b o q hx
  exact⟨o',k b _ (ne q) z⟩
 ·obtain⟨u,r,lk⟩:=hl i x v e1 e2 e3
  exact⟨u,r,lk.imp id fun⟨a,c,b,d⟩=>⟨a,c,b,cel d⟩⟩
 ·obtain⟨v,d⟩:=I.cell x c e
  exact⟨v,cel d⟩
 ·obtain⟨a,b,c,d⟩:=I.pin p hp
  exact⟨k _ _ c a,b,c,d⟩
 ·refine(I.hok b u e).stay (fun c v hc q=>k c v ?_ q) (fun _ q=>q) fun _ _ q=>q
  rcases hc with rfl|hc
  ·exact nL e
  ·exact nL hc
theorem eI{P:Program}{w:World}{h:Heap}{a:Addr}{o:HO}(x:B0 P w H h a o):∃ u,h.get? a=some u:=DL.ik x
theorem Inv.laidL{t':Nat}{a:Addr}{o:HO}(I:Inv X pins σ H s)(k:∀ b o,b≠X.env.locals→s.heap.get? b=some o→h'.get? b=some o)(ns:∀ m,s.heap.Ns X.env.locals m→h'.Ns X.env.locals m)(hn:s.heap.get? a=none)(hL:a≠X.env.locals)(nt:∀ xs,o ≠ .tup xs)(new:B0 X.prog X.w (upd H a o) h' a o):Inv X pins σ (upd H a o) { s with heap:=h',toks:=t' }:=by
 have J:=I.keptL (t':=t') k ns
 have nH:H a=none:=by
  cases e:H a with
  | none=>rfl
  | some u=>obtain⟨x,hx⟩:=eI (I.hok a u e);rw[hn]at hx;cases hx
 have ne:∀{b:Addr} {u:HO},H b=some u→b≠a:=fun{b u} e z=>by rw[z,nH]at e;cases e
 refine⟨J.ok,J.os,J.bare,⟨J.base.keep,J.base.slot,fun b o' q n hx=>?_,J.base.there,fun b xs q=>?_,fun b o' u q=>?_,fun b ps q=>?_⟩,J.loc,J.cell,?_,fun x c e=>?_,fun p hp=>?_,fun b u e=>?_,J.len⟩
 ·have hb:b≠a:=fun z=>by
   obtain⟨o2,e2⟩:=I.base.there b o' q hx
   rw[z,hn]at e2;cases e2
  rw[g5 hb];exact J.base.free b o' q n hx
 ·have:=J.base.tups b xs q
  rw[g5 (ne this)];exact this
 ·have:=J.base.frzs b o' u q
  rw[g5 (ne this)];exact this
 ·obtain⟨more,this⟩:=J.base.tbls b ps q
  exact⟨more,by rw[g5 (ne this)];exact this⟩
 ·rw[g5 (Ne.symm hL)];exact J.free
 ·have hb:c≠a:=fun z=>by
   obtain⟨v,o2,e2,_⟩:=I.cell x c e
   rw[z,hn]at e2;cases e2
  rw[g5 hb];exact J.freeC x c e
 ·obtain⟨p1,p2,p3⟩:=J.pin p hp
  have hb:p.1≠a:=fun z=>by
   have:=(I.pin p hp).1
   rw[z,hn]at this;cases this
  exact⟨p1,by rw[g5 hb];exact p2,p3⟩
 ·by_cases hb:b=a
  ·subst hb
   rw[i7]at e
   cases e
   exact new
  ·rw[g5 hb]at e
   refine(J.hok b u e).stay (fun _ _ _ q=>q) (fun c q=>?_) fun c xs q=>?_
   ·rw[g5 (ne q)];exact q
   ·rw[g5 (ne q)];exact q
theorem Bl{prog:Program}{w:World}{A:Around}{κ:SortKind}{vs:List Value}{G:Array Nat→Shared→Prop}{s:Shared}(h:wpAny (model prog w) A (keyLt' κ (vs.getD 1 Value.none) (vs.getD 0 Value.none)) (fun b s'=>(b=true→G #[1,0] s')∧(b=false→G #[0,1] s')) (fun _ _=>False) s) :
  (PySem.W.kas_sort 2).kasWp (PySem.W.kas_ask prog w A κ vs) G s:=by
 show PySem.W.kas_ask prog w A κ vs 1 0 (fun b s'=>PySem.W.KasT.kasWp (PySem.W.kas_ask prog w A κ vs) _ G s') s
 unfold PySem.W.kas_ask
 refine wpAny_mono h (fun b s' hb=>?_) fun _ _ z=>z
 cases b with
 | true=>exact hb.1 rfl
 | false=>exact hb.2 rfl
theorem pR:v9 X (.builtin "sorted") (fun xs H Q=>∃ l a b i j xa xb,xs=[.ref l]∧SqL X.K H l [.ref a,.ref b]∧SqT X.K H a (.int i :: xa)∧SqT X.K H b (.int j :: xb)∧i≠j ∧
  ∀ p,H p=none→Q (.ref p) (upd H p (.lst (if j<i then[.ref b,.ref a]else[.ref a,.ref b])))):=by
 intro pins s σ H xs us Q I rv h
 obtain⟨l,a,b,i,j,xa,xb,rfl,hl,ha,hb,ne,q⟩:=h
 obtain⟨u,rfl,ru⟩:=j6.one rv
 obtain rfl:u=Value.ref l:=ru
 obtain⟨its,rl,isl,_⟩:=I.list hl
 obtain⟨ia,ra,⟨oa,ha1,ha2,na,ha3⟩,_⟩:=I.tuple ha
 obtain⟨ib,rb,⟨ob,hb1,hb2,nb,hb3⟩,_⟩:=I.tuple hb
 obtain rfl:its=[Value.ref a,Value.ref b]:=by
  obtain⟨u1,u2,e,r1,r2⟩:=j6.two rl
  rw[e,show u1=Value.ref a from r1,show u2=Value.ref b from r2]
 cases ra with
 | cons ra1 ra2 =>
 cases rb with
 | cons rb1 rb2 =>
 obtain⟨ta,rfl⟩:=ra1
 obtain⟨tb,rfl⟩:=rb1
 rename_i va vb
 obtain⟨m,F⟩:=I.fr
 obtain⟨ol,nl,hl1,hl2,_,hl3⟩:=isl
 refine PySem.W.kat_sorted (vs:=[Value.ref a,Value.ref b]) F (wW (g:=X.base)) ⟨ol,hl1,hl2,nl,hl3⟩ (by show 2≤2;decide) (by show 2<64;decide) fun Dl e1 h1 F1 N1 lt1=>?_
 have keep:∀ c o,c≠X.env.locals→s.heap.get? c=some o→h1.get? c=some o:=fun c o n e=>by
  cases q:X.base.get? c with
  | some u =>
   have:=I.bk c u q
   rw[e]at this;cases this
   exact F1.keep c _ q
  | none=>exact(N1 (c,o) (.tail _ (T9 n q e))).1
 have nL:∀{c:Addr} {o:Obj},s.heap.get? c=some o→o.cls = .type "tuple" → (∃ xs n,o.data = .seq xs n)→c≠X.env.locals:=fun{c o} e1 _ ⟨xs,n,e2⟩ z=>by
  obtain⟨o2,es,ep,e3,e4,_⟩:=F.ns
  rw[← z,e1]at e3
  cases e3
  rw[e2]at e4;cases e4
 have nLa:a≠X.env.locals:=nL ha1 ha2 ⟨_,_,ha3⟩
 have nLb:b≠X.env.locals:=nL hb1 hb2 ⟨_,_,hb3⟩
 have ha4:=keep a oa nLa ha1
 have hb4:=keep b ob nLb hb1
 refine PySem.W.kat_kind (fs:=[.int i ta,.int j tb]) (T:=.type "int") (.cons ha4 ha2 ha3 rfl (.cons hb4 hb2 hb3 rfl .nil)) (by show 0<2;decide) (fun v hv=>?_) rfl ?_
 ·simp only[Mv,MG,or_false]at hv
  rcases hv with rfl|rfl
  ·exact .now
  ·exact .now
 ·refine Bl (PySem.W.kat_lt hb4 hb3 ha4 ha3 (PySem.W.kat_cons (wpAny_eqBool_int ?_)))
  rw[show(j == i)=false from beq_eq_false_iff_ne.mpr (Ne.symm ne)]
  refine PySem.W.kat_no (oneLt_int ?_)
  have fin:∀(vs':List Value) (xs':List V),j6 xs' vs'→xs'=(if j<i then[V.ref b,V.ref a]else[V.ref a,V.ref b])→PySem.W.KasFin X.base X.env.locals m Dl e1 vs' (fun s3=>EP X pins σ Q (Value.ref Dl) s3) { s with heap:=h1 }:=fun vs' xs' rv' ex=>by
   have hD0:=N1 (Dl,seqObj "list" #[] e1) (.head _)
   have hDn:s.heap.get? Dl=none:=by
    cases e:s.heap.get? Dl with
    | none=>rfl
    | some u=>exact absurd (lt1 (Dl,u) (T9 hD0.2.1 hD0.2.2 e)) (NP _)
   refine PySem.W.KasFin.intro F1 N1 (.head fun p hp=>MN (lt1 p hp)) fun h2 c2 F2 N2=>?_
   have keep2:∀ c o,c≠X.env.locals→s.heap.get? c=some o→h2.get? c=some o:=fun c o n e=>by
    cases q:X.base.get? c with
    | some u =>
     have:=I.bk c u q
     rw[e]at this;cases this
     exact F2.keep c _ q
    | none=>exact(N2 (c,o) (.tail _ (T9 n q e))).1
   have hD2:=N2 (Dl,PySem.W.listOf (List.toArray vs') c2) (.head _)
   have I2:Inv X pins σ (upd H Dl (.lst xs')) { s with heap:=h2,toks:=s.toks }:=I.laidL keep2 (fun m' hm=>by
    obtain⟨o1,es1,ep1,a1,a2,_,a4⟩:=hm
    obtain⟨o2,es2,ep2,b1,b2,_,b4⟩:=F.ns
    rw[a1]at b1;cases b1
    rw[a2]at b2;cases b2
    have:m'=m:=funext fun x=>(a4 x).symm.trans (b4 x)
    rw[this];exact F2.ns) hDn hD0.2.1 (fun _ z=>nomatch z) ⟨?_,vs',c2,rv',hD2.1⟩
   ·refine⟨.ref Dl,_,I2,rfl,?_⟩
    rw[ex]
    exact q Dl (by
     cases e:H Dl with
     | none=>rfl
     | some u=>obtain⟨x,hx⟩:=eI (I.hok Dl u e);rw[hDn]at hx;cases hx)
   ·have:xs'.length≤2:=by rw[ex];split<;>exact MM _
    exact ME this (by decide)
  refine⟨fun z=>fin _ [V.ref b,V.ref a] (.cons rfl (.cons rfl .nil)) (by rw[if_pos (of_decide_eq_true z)]),fun z=>fin _ [V.ref a,V.ref b] (.cons rfl (.cons rfl .nil)) (by rw[if_neg (of_decide_eq_false z)])⟩
end
section
variable {prog:Program} {w:World} {A:Around} {E:Value→Shared→Prop} {s:Shared}
theorem vD{a:Addr}{ws:List Value}{k:Nat}{P:PySem.Fin→Shared→Prop}(there:s.heap.get? a=some (seqObj "list" ws.toArray k))(few:ws.length<2)
  (go:P (.done (.ret .none)) { s with heap:=sortedHeap s.heap a ws ws.toArray }):wpAny (model prog w) A (Builtin.«list.sort» ⟨[.ref a],[]⟩) P E s:=by
 have inb:=MB there
 obtain⟨ep,bare⟩:∃ ep,(s.heap.update a (Obj.mapSeq fun _=>#[])).get? a=some (seqObj "list" #[] ep):=⟨_,get?_update_seq there _⟩
 have bare2:(((s.heap.update a (Obj.mapSeq fun _=>#[])).push (seqObj "tuple" ws.toArray 0)).push (seqObj "list" #[] 0)).get? a=some (seqObj "list" #[] ep) :=
  Mr _ (Mr _ bare)
 have small:ws.toArray.size<2:=by rw[MJ];exact few
 have line:ws.length≤sizeLine:=ME (NC few) (by decide)
 rw[list_sort_plain]
 refine Mq (listItems_at there rfl
  (Mq (listUpdate_at there rfl
   (Mq (seqEpoch_at bare rfl
    (Mq (wpAny_newTuple
     (Mq (wpAny_newList
      (wpAny_holding ?_) (Np _))) line)))) (by rw[MJ];omega) (Np _))))
 show wpAny (model prog w) A _ P E { s with heap:=((s.heap.update a (Obj.mapSeq fun _=>#[])).push (seqObj "tuple" ws.toArray 0)).push (seqObj "list" #[] 0) }
 dsimp only
 rw[if_pos small]
 refine Mq (Mu ?_)
 rw[if_pos small,StateT.run_pure]
 refine Mq (Mu ?_)
 have same:Array.map (fun x=>x.snd) (ws.toArray.zip ws.toArray)=ws.toArray:=by
  match ws,few with
  | [],_=>simp
  | [_],_=>simp
 show wpAny (model prog w) A (do
  let __do_lift ← seqEpoch a
  Builtin.List.listUpdate (Value.ref a) fun _=>Array.map (fun x=>x.snd) (ws.toArray.zip ws.toArray)
  if (__do_lift != ep)=true then _ else ret Value.none) P E _
 rw[same]
 refine Mq (seqEpoch_at bare2 rfl
  (Mq (listUpdate_at bare2 rfl ?_ (Np _) (by rw[MJ];omega))))
 rw[bne_self_eq_false,if_neg MF]
 exact Mu go
theorem oH{l:Addr}{ws:List Value}{Q:Value→Shared→Prop}(hl:s.heap.IsList l ws.toArray)(few:ws.length<2)
  (go:Q (.ref (s.heap.objs.size+1)) { s with heap:=sortedAll s.heap ws ws.toArray }):wpAny (model prog w) A (call (.builtin "sorted") [.ref l]) Q E s:=by
 have line:ws.length≤sizeLine:=ME (NC few) (by decide)
 refine Calls.call_function_entry kind_sorted plain_sorted entry_sorted (args_sorted1 _) ?_
 unfold Builtin.«sorted»
 refine Mq (m:=checkCount "sorted" 1 1 _) (Mu (Mq (collect_list hl (Mq (wpAny_newList ?_ line)) line)))
 have sz:((s.heap.push (seqObj "list" #[] 0)).update s.heap.objs.size (Obj.mapSeq (· ++ ws.toArray))).objs.size=s.heap.objs.size+1:=by rw[Px,size_push']
 have at1:(((s.heap.push (seqObj "list" #[] 0)).update s.heap.objs.size (Obj.mapSeq (· ++ ws.toArray))).push (seqObj "list" ws.toArray 0)).get? (s.heap.objs.size+1)=some (seqObj "list" ws.toArray 0):=by
  rw[← sz]
  exact Mw _ rfl
 show wpAny _ _ _ _ _ { s with heap:=((s.heap.push (seqObj "list" #[] 0)).update s.heap.objs.size (Obj.mapSeq (· ++ ws.toArray))).push (seqObj "list" ws.toArray 0) }
 rw[sz]
 exact Mq (wpAny_holding (wpAny_call_entry slot_list_sort ⟨_,at1,rfl⟩ entry_list_sort
  (vD at1 few ⟨_,rfl,Mu ⟨_,rfl,go⟩⟩) (args_list_sort _)))
end
theorem cq{h:Heap}{ws:List Value}{out:Array Value}:∀ b o,h.get? b=some o→(sortedAll h ws out).get? b=some o:=fun b o e=>by
 have hb:=MB e
 have sz:((h.push (seqObj "list" #[] 0)).update h.objs.size (Obj.mapSeq (· ++ ws.toArray))).objs.size=h.objs.size+1:=by rw[Px,size_push']
 have e1:(((h.push (seqObj "list" #[] 0)).update h.objs.size (Obj.mapSeq (· ++ ws.toArray))).push (seqObj "list" ws.toArray 0)).get? b=some o :=
  Mr _ (by rw[NX _ _ _ _ (MN hb)];exact Mr _ e)
 unfold sortedAll sortedHeap
 have nb:b≠h.objs.size+1:=MN (Po hb)
 rw[NX _ _ _ _ nb]
 refine Mr _ (Mr _ ?_)
 rw[NX _ _ _ _ nb]
 exact e1
theorem ff{h:Heap}{ws:List Value}{out:Array Value}:∃ n,(sortedAll h ws out).get? (h.objs.size+1)=some (seqObj "list" out n):=by
 have sz:((h.push (seqObj "list" #[] 0)).update h.objs.size (Obj.mapSeq (· ++ ws.toArray))).objs.size=h.objs.size+1:=by rw[Px,size_push']
 have at1:(((h.push (seqObj "list" #[] 0)).update h.objs.size (Obj.mapSeq (· ++ ws.toArray))).push (seqObj "list" ws.toArray 0)).get? (h.objs.size+1)=some (seqObj "list" ws.toArray 0):=by
  rw[← sz]
  exact Mw _ rfl
 obtain⟨ep,bare⟩:∃ ep,((((h.push (seqObj "list" #[] 0)).update h.objs.size (Obj.mapSeq (· ++ ws.toArray))).push (seqObj "list" ws.toArray 0)).update (h.objs.size+1) (Obj.mapSeq fun _=>#[])).get? (h.objs.size+1)=some (seqObj "list" #[] ep):=⟨_,get?_update_seq at1 _⟩
 unfold sortedAll sortedHeap
 exact⟨_,get?_update_seq (Mr _ (Mr _ bare)) _⟩
theorem pS{X:Cx}:v9 X (.builtin "sorted") (fun xs H Q=>∃ l ys,xs=[.ref l]∧SqL X.K H l ys∧ys.length<2∧∀ p,H p=none→Q (.ref p) (upd H p (.lst ys))):=by
 intro pins s σ H xs us Q I rv h
 obtain⟨l,ys,rfl,hl,few,q⟩:=h
 obtain⟨u,rfl,ru⟩:=j6.one rv
 obtain rfl:u=Value.ref l:=ru
 obtain⟨its,rl,⟨ol,nl,hl1,hl2,_,hl3⟩,hz⟩:=I.list hl
 refine oH (ws:=its) ⟨ol,hl1,hl2,nl,hl3⟩ (by rw[← rl.length];exact few) ?_
 obtain⟨n,hn⟩:=ff (h:=s.heap) (ws:=its) (out:=its.toArray)
 exact⟨.ref (s.heap.objs.size+1),_,I.laid (t':=s.toks) (o:=.lst ys) cq (Ou _) ⟨hz,its,n,rl,hn⟩,rfl,q _ (I.hok.fresh (Ou _))⟩
end L2
namespace DL
open PySem PySem.Spec L2
open PyProof.Rows hiding St
def HF:DRC:=fun ds M R=>∃ x xs,ds=[x]∧G5 M x=some xs∧((xs.length<2∧∀ p,M p=none→R (.ref p) (B5 M p (.lst xs))) ∨
 ∃ i j ra rb,xs=[.tup (.int i :: ra),.tup (.int j :: rb)]∧i≠j∧∀ p,M p=none→R (.ref p) (B5 M p (.lst (if j<i then[.tup (.int j :: rb),.tup (.int i :: ra)]else[.tup (.int i :: ra),.tup (.int j :: rb)]))))
theorem ym{X:Cx}:V2 X (.builtin "sorted") HF:=v9.imp (v9.or pS pR) fun xs H Q ⟨ds,M,R,hl,am,⟨x,ys,z,hi,h⟩,f⟩=>by
 subst z
 obtain⟨v,rfl,hv⟩:=hl.one
 obtain⟨a,us,rfl,sq,lx⟩:=w6 am hv hi
 rcases h with⟨few,r⟩|⟨i,j,ra,rb,rfl,ne,r⟩
 ·refine .inl ⟨a,us,rfl,sq,by rw[lx.length];exact few,fun p hp=>f _ _ (r p (am.fresh hp)) _ _ (KT.alloc hp) (am.new hp lx) (.ref p)⟩
 ·cases lx with
  | cons h1 t1 =>
  cases t1 with
  | cons h2 t2 =>
  cases t2
  cases h1 with
  | tup s1 l1 =>
  cases h2 with
  | tup s2 l2 =>
  rename_i a1 x1 a2 x2
  cases l1 with
  | cons g1 l1 =>
  cases l2 with
  | cons g2 l2 =>
  cases g1
  cases g2
  refine .inr ⟨a,a1,a2,i,j,_,_,rfl,sq,s1,s2,ne,fun p hp=>?_⟩
  have rr:=r p (am.fresh hp)
  have t1:Has X.K H (.ref a1) (.tup (.int i :: ra)):=.tup s1 (.cons (.int i) l1)
  have t2:Has X.K H (.ref a2) (.tup (.int j :: rb)):=.tup s2 (.cons (.int j) l2)
  by_cases hji:j<i
  ·rw[if_pos hji]at rr ⊢
   exact f _ _ rr _ _ (KT.alloc hp) (am.new hp (.cons t2 (.cons t1 .nil))) (.ref p)
  ·rw[if_neg hji]at rr ⊢
   exact f _ _ rr _ _ (KT.alloc hp) (am.new hp (.cons t1 (.cons t2 .nil))) (.ref p)
theorem iF:bootBuiltins "sorted" = some (.builtin "sorted"):=by decide +kernel
end DL
namespace L2
open PySem PySem.Spec PyProof.Rows
noncomputable def A1(led:Bool)(p:Array Nat):SetTable:={ mask:=7,place:=p,dummies:=#[],finger:=0,led:=led,moves:=0,plain:=true }
theorem O3(i j:Nat):SetTable.below #[i] j=if i<j then 1 else 0:=by
 unfold SetTable.below
 show SetTable.below.go #[i] j 1 0 1=_
 unfold SetTable.below.go
 show(if 0<1 then(let mid:=(0+1) / 2;if (#[i]:Array Nat).getD mid j<j then SetTable.below.go #[i] j 0 (mid+1) 1 else SetTable.below.go #[i] j 0 0 mid)else 0)=_
 rw[if_pos (by decide)]
 show(if i<j then _ else _)=_
 split
 ·rfl
 ·rfl
theorem bM(i k j:Nat)(h:i<k):SetTable.below #[i,k] j=if k<j then 2 else if i<j then 1 else 0:=by
 unfold SetTable.below
 show SetTable.below.go #[i,k] j 2 0 2=_
 unfold SetTable.below.go
 show(if 0<2 then(if k<j then SetTable.below.go #[i,k] j 1 2 2 else SetTable.below.go #[i,k] j 1 0 1)else 0)=_
 rw[if_pos (by decide)]
 by_cases h1:k<j
 ·rw[if_pos h1,if_pos h1];rfl
 ·rw[if_neg h1,if_neg h1]
  unfold SetTable.below.go
  show(if 0<1 then(if i<j then SetTable.below.go #[i,k] j 0 1 1 else SetTable.below.go #[i,k] j 0 0 0)else 0)=_
  rw[if_pos (by decide)]
  split<;>rfl
theorem mw(led:Bool)(i j:Nat):(A1 led #[i]).slot j=if j=i then .live 0 else .empty:=by
 unfold SetTable.slot
 show(let n:=SetTable.below #[i] j;if ((#[i]:Array Nat)[n]? == some j)=true then SetTable.Slot.live n else if SetTable.has #[] j=true then .dummy else .empty)=_
 simp only[O3]
 have hn:SetTable.has #[] j=false:=rfl
 by_cases h:i<j
 ·rw[if_pos h]
  have:¬ j=i:=by omega
  rw[if_neg this,hn]
  rfl
 ·rw[if_neg h]
  by_cases h2:j=i
  ·subst h2
   rw[if_pos rfl]
   simp
  ·rw[if_neg h2,hn]
   have:((#[i]:Array Nat)[0]? == some j)=false:=by simp;omega
   rw[this]
   rfl
theorem hZ(led:Bool)(j:Nat)(h g:Int)(hg:g≠h)(hj:j<8):∀(k fuel:Nat) (p:SetTable.Probe),p.perturb<32 ^ k→k+2≤fuel→p.more=0→p.dummy=none→p.j=p.i→p.i<8 →
  ∃ i,i≠j∧i<8∧SetTable.probe.go (A1 led #[j]) (fun _=>g) h fuel p=some (.empty i none)
 | k,0,_,_,hf,_,_,_,_=>by omega
 | k,fuel+1,p,hp,hf,hm,hd,hji,hi=>by
  unfold SetTable.probe.go
  rw[mw]
  by_cases e:p.j=j
  ·rw[if_pos e]
   show ∃ i,i≠j∧i<8∧(if (g == h)=true then _ else _)=_
   rw[if_neg (by simpa using hg)]
   have ha:(A1 led #[j]).advance p = { p with j:=(p.i*5+1+p.perturb / 32) % 8,more:=0,i:=(p.i*5+1+p.perturb / 32) % 8,perturb:=p.perturb / 32 }:=by
    unfold SetTable.advance
    rw[if_neg (by omega)]
    show(({ p with j:=_,more:=SetTable.runEnd 7 ((p.i*5+1+p.perturb / 32) % 8) - ((p.i*5+1+p.perturb / 32) % 8),i:=_,perturb:=_ }):SetTable.Probe)=_
    have:SetTable.runEnd 7 ((p.i*5+1+p.perturb / 32) % 8)=(p.i*5+1+p.perturb / 32) % 8:=by
     unfold SetTable.runEnd
     rw[if_neg (by omega)]
    rw[this,Nat.sub_self]
    rfl
   rw[ha]
   have lt:(p.i*5+1+p.perturb / 32) % 8<8:=OT _ (by decide)
   cases k with
   | zero =>
    have p0:p.perturb=0:=by simp at hp;omega
    obtain⟨f2,rfl⟩:∃ f2,fuel=f2+1:=⟨fuel - 1,by omega⟩
    refine⟨(p.i*5+1) % 8,by omega,by omega,?_⟩
    unfold SetTable.probe.go
    rw[mw]
    show(match (if (p.i*5+1+p.perturb / 32) % 8=j then SetTable.Slot.live 0 else .empty)with|.empty=>_|.dummy=>_|.live i=>_)=_
    rw[p0,if_neg (by omega)]
    show some (SetTable.Met.empty ((p.i*5+1+0 / 32) % 8) p.dummy)=_
    rw[hd]
   | succ k=>exact hZ led j h g hg hj k fuel _ (by
     show p.perturb / 32<32 ^ k
     rw[Nat.div_lt_iff_lt_mul (by decide)]
     rw[NJ]at hp;exact hp) (by omega) rfl hd rfl lt
  ·rw[if_neg e]
   exact⟨p.j,e,by omega,by show some (SetTable.Met.empty p.j p.dummy)=_;rw[hd]⟩
theorem BI(h:Int):SetTable.bits h<32 ^ 13:=by
 unfold SetTable.bits
 have:=NQ h (show(0:Int)<2 ^ 64 by decide)
 have:=Og h (show(2 ^ 64:Int)≠0 by decide)
 have:(32:Nat) ^ 13=2 ^ 65:=by decide
 omega
theorem ml(led:Bool)(p:Array Nat)(h:Int):(A1 led p).probeStart h = { j:=SetTable.bits h % 8,more:=0,i:=SetTable.bits h % 8,perturb:=SetTable.bits h,dummy:=none }:=by
 unfold SetTable.probeStart
 show(({ j:=SetTable.bits h % 8,more:=SetTable.runEnd 7 (SetTable.bits h % 8) - SetTable.bits h % 8,i:=_,perturb:=_,dummy:=_ }):SetTable.Probe)=_
 have:SetTable.runEnd 7 (SetTable.bits h % 8)=SetTable.bits h % 8:=by
  unfold SetTable.runEnd
  have:=OT (SetTable.bits h) (show 0<8 by decide)
  rw[if_neg (by omega)]
 rw[this,Nat.sub_self]
 rfl
theorem xG(led:Bool)(h:Int):(A1 led #[]).freeSlot h=some (SetTable.bits h % 8,false):=by
 unfold SetTable.freeSlot
 rw[ml]
 rfl
theorem xF(led:Bool)(j:Nat)(hj:j<8)(h:Int):∃ i,i≠j∧i<8∧(A1 led #[j]).freeSlot h=some (i,false):=by
 obtain⟨i,h1,h2,h3⟩:=hZ led j h (h+1) (by omega) hj 13 220 { j:=SetTable.bits h % 8,more:=0,i:=SetTable.bits h % 8,perturb:=SetTable.bits h,dummy:=none } (BI h) (by decide) rfl rfl rfl (OT _ (by decide))
 refine⟨i,h1,h2,?_⟩
 unfold SetTable.freeSlot
 rw[ml]
 show(match SetTable.probe.go (A1 led #[j]) (fun _=>h+1) h 220 _ with|some (.empty j d)=>some (d.getD j,d.isSome)|_=>none)=_
 rw[h3]
 rfl
theorem Bk(led:Bool)(h:Int)(x:Value):∃ i,i<8∧layNew (A1 led #[]) #[] h x=(#[(h,x)],A1 led #[i],false,false):=by
 refine⟨SetTable.bits h % 8,OT _ (by decide),?_⟩
 unfold layNew
 rw[xG]
 rfl
theorem Bj(led:Bool)(j:Nat)(hj:j<8)(e:Int × Value)(h:Int)(x:Value):∃ i k e1 e2,i<k∧(e1=e∧e2=(h,x)∨e1=(h,x)∧e2=e)∧layNew (A1 led #[j]) #[e] h x=(#[e1,e2],A1 led #[i,k],false,false):=by
 obtain⟨i,h1,h2,h3⟩:=xF led j hj h
 by_cases c:j<i
 ·have hb:SetTable.below #[j] i=1:=by rw[O3,if_pos c]
  have hp:(A1 led #[j]).put i=(A1 led #[j,i],1):=by
   unfold SetTable.put
   show(({ (A1 led #[j])with place:=SetTable.insertAt #[j] (SetTable.below #[j] i) i,dummies:=#[] }:SetTable),SetTable.below #[j] i)=_
   rw[hb];rfl
  refine⟨j,i,e,(h,x),c,.inl ⟨rfl,rfl⟩,?_⟩
  unfold layNew
  simp only[h3,hp]
  rfl
 ·have hb:SetTable.below #[j] i=0:=by rw[O3,if_neg c]
  have hp:(A1 led #[j]).put i=(A1 led #[i,j],0):=by
   unfold SetTable.put
   show(({ (A1 led #[j])with place:=SetTable.insertAt #[j] (SetTable.below #[j] i) i,dummies:=#[] }:SetTable),SetTable.below #[j] i)=_
   rw[hb];rfl
  refine⟨i,j,(h,x),e,by omega,.inr ⟨rfl,rfl⟩,?_⟩
  unfold layNew
  simp only[h3,hp]
  rfl
def F7(led:Bool)(es:Array (Int × Value))(t:SetTable):Prop:=(es = #[]∧t=A1 led #[])∨(∃ e j,j<8∧es = #[e]∧t=A1 led #[j])∨(∃ e1 e2 i k,i<k∧es = #[e1,e2]∧t=A1 led #[i,k])
theorem F7.fits{led:Bool}{es:Array (Int × Value)}{t:SetTable}(h:F7 led es t):t.fits es.size=true:=by
 rcases h with⟨rfl,rfl⟩|⟨e,j,_,rfl,rfl⟩|⟨e1,e2,i,k,_,rfl,rfl⟩<;>rfl
theorem F7.plain{led:Bool}{es:Array (Int × Value)}{t:SetTable}(h:F7 led es t):t.plain=true:=by
 rcases h with⟨rfl,rfl⟩|⟨e,j,_,rfl,rfl⟩|⟨e1,e2,i,k,_,rfl,rfl⟩<;>rfl
theorem F7.led{led:Bool}{es:Array (Int × Value)}{t:SetTable}(h:F7 led es t):t.led=led:=by
 rcases h with⟨rfl,rfl⟩|⟨e,j,_,rfl,rfl⟩|⟨e1,e2,i,k,_,rfl,rfl⟩<;>rfl
theorem F7.size{led:Bool}{es:Array (Int × Value)}{t:SetTable}(h:F7 led es t):es.size≤2:=by
 rcases h with⟨rfl,rfl⟩|⟨e,j,_,rfl,rfl⟩|⟨e1,e2,i,k,_,rfl,rfl⟩<;>simp
noncomputable def D2(b:Bool)(ord:Nat→Nat)(es:Array (Int × Value))(t:SetTable)(slot given:Nat):Option (Value × Nat) :=
 if b=true then((pickOrder ord es)[given]?).map fun e=>(e.2,slot)
 else match es[SetTable.below t.place slot]?,t.place[SetTable.below t.place slot]? with
  | some (_,x),some j=>some (x,j+1)
  | _,_=>none
theorem wu(ord:Nat→Nat):pickOrder ord (#[]:Array (Int × Value)) = #[]:=rfl
theorem wt(ord:Nat→Nat)(e:Int × Value):pickOrder ord #[e] = #[e]:=by
 unfold pickOrder
 show pickOrder.go ord 1 0 [e] #[]=_
 unfold pickOrder.go
 rw[show ord 0 % ([e]:List (Int × Value)).length=0 from Nat.mod_one _]
 rfl
theorem wq(ord:Nat→Nat)(e f:Int × Value):pickOrder ord #[e,f] = #[e,f]∨pickOrder ord #[e,f] = #[f,e]:=by
 unfold pickOrder
 show pickOrder.go ord 2 0 [e,f] #[]=_∨pickOrder.go ord 2 0 [e,f] #[]=_
 have h1:∀(x:Int × Value) (out:Array (Int × Value)),pickOrder.go ord 1 1 [x] out=out.push x:=fun x out=>by
  unfold pickOrder.go
  rw[show ord 1 % ([x]:List (Int × Value)).length=0 from Nat.mod_one _]
  rfl
 have hm:ord 0 % ([e,f]:List (Int × Value)).length=0∨ord 0 % ([e,f]:List (Int × Value)).length=1:=by
  show ord 0 % 2=0∨ord 0 % 2=1
  omega
 unfold pickOrder.go
 rcases hm with z|z
 ·rw[z]
  exact .inl (h1 f #[e])
 ·rw[z]
  exact .inr (h1 e #[f])
theorem vd{led b:Bool}{es:Array (Int × Value)}{t:SetTable}(h:F7 led es t)(ord:Nat→Nat):∃ vs:List Value,vs.Perm (es.toList.map (·.2))∧∃ sl:Nat→Nat,sl 0=0 ∧
  (∀ i v,vs[i]? = some v→D2 b ord es t (sl i) i=some (v,sl (i+1)))∧D2 b ord es t (sl es.size) es.size=none:=by
 cases b with
 | true =>
  have key:∀ out:Array (Int × Value),pickOrder ord es=out→out.size=es.size→out.toList.Perm es.toList→∃ vs:List Value,vs.Perm (es.toList.map (·.2))∧∃ sl:Nat→Nat,sl 0=0 ∧
    (∀ i v,vs[i]? = some v→D2 true ord es t (sl i) i=some (v,sl (i+1)))∧D2 true ord es t (sl es.size) es.size=none:=fun out ho hz hp=>by
   refine⟨out.toList.map (·.2),hp.map _,fun _=>0,rfl,fun i v hv=>?_,?_⟩
   ·unfold D2
    rw[if_pos rfl,ho]
    rw[MV,Array.getElem?_toList]at hv
    cases e:out[i]? with
    | none=>rw[e]at hv;cases hv
    | some x=>rw[e]at hv;cases hv;rfl
   ·unfold D2
    rw[if_pos rfl,ho,Array.getElem?_eq_none (by omega)]
    rfl
  rcases h with⟨rfl,rfl⟩|⟨e,j,_,rfl,rfl⟩|⟨e1,e2,i,k,_,rfl,rfl⟩
  ·exact key _ (wu ord) rfl (.refl _)
  ·exact key _ (wt ord e) rfl (.refl _)
  ·rcases wq ord e1 e2 with q|q
   ·exact key _ q rfl (.refl _)
   ·exact key _ q rfl (.swap _ _ _)
 | false =>
  rcases h with⟨rfl,rfl⟩|⟨e,j,_,rfl,rfl⟩|⟨e1,e2,i,k,hik,rfl,rfl⟩
  ·exact⟨[],.refl _,fun _=>0,rfl,fun i v hv=>by simp at hv,rfl⟩
  ·refine⟨[e.2],.refl _,fun n=>if n=0 then 0 else j+1,rfl,fun i v hv=>?_,?_⟩
   ·match i,hv with
    | 0,hv =>
     cases hv
     show D2 false ord #[e] (A1 led #[j]) 0 0=some (e.2,j+1)
     unfold D2
     rw[if_neg MF]
     show(match (#[e]:Array (Int × Value))[SetTable.below #[j] 0]?,(#[j]:Array Nat)[SetTable.below #[j] 0]? with|some (_,x),some j=>some (x,j+1)|_,_=>none)=_
     rw[O3,if_neg (by omega)]
     rfl
    | i+1,hv=>simp at hv
   ·show D2 false ord #[e] (A1 led #[j]) (j+1) 1=none
    unfold D2
    rw[if_neg MF]
    show(match (#[e]:Array (Int × Value))[SetTable.below #[j] (j+1)]?,(#[j]:Array Nat)[SetTable.below #[j] (j+1)]? with|some (_,x),some j=>some (x,j+1)|_,_=>none)=_
    rw[O3,if_pos (by omega)]
    rfl
  ·have st:∀ sl n,D2 false ord #[e1,e2] (A1 led #[i,k]) sl n=(match (#[e1,e2]:Array (Int × Value))[SetTable.below #[i,k] sl]?,(#[i,k]:Array Nat)[SetTable.below #[i,k] sl]? with|some (_,x),some j=>some (x,j+1)|_,_=>none):=fun sl n=>by
    unfold D2
    rw[if_neg MF]
    rfl
   refine⟨[e1.2,e2.2],.refl _,fun n=>if n=0 then 0 else if n=1 then i+1 else k+1,rfl,fun n v hv=>?_,?_⟩
   ·match n,hv with
    | 0,hv =>
     cases hv
     show D2 false ord #[e1,e2] (A1 led #[i,k]) 0 0=some (e1.2,i+1)
     rw[st,bM _ _ _ hik,if_neg (by omega),if_neg (by omega)]
     rfl
    | 1,hv =>
     cases hv
     show D2 false ord #[e1,e2] (A1 led #[i,k]) (i+1) 1=some (e2.2,k+1)
     rw[st,bM _ _ _ hik,if_neg (by omega),if_pos (by omega)]
     rfl
    | n+2,hv=>simp at hv
   ·show D2 false ord #[e1,e2] (A1 led #[i,k]) (k+1) 2=none
    rw[st,bM _ _ _ hik,if_pos (by omega)]
    rfl
noncomputable def C8(w:World):Bool:=w.params.followText "set-order"
theorem N6:Slot "set_iterator" "__next__" "set_iterator.__next__" := .of (owner := "set_iterator") (n := "__next__")
 (by rw[typeLookup_type,builtinLookup_eq_fast];kernel_rfl) (by decide +kernel) (by decide +kernel) (by decide +kernel)
 (by first|exact .inl (by decide +kernel)|exact .inr (by decide +kernel)) (by rw[isSubtype_type];kernel_rfl)
theorem mz:entryFor table "set_iterator.__next__" = some Builtin.«set_iterator.__next__»:=entryFor_of_tree (by kernel_rfl)
theorem mq:Manifest.owners.lookup (String.ofList ['r','o','t','a','r','e','t','i','_','t','e','s'].reverse)=some Manifest.sig_set_iterator:=by kernel_rfl
theorem mK(a:Value):argsOk "set_iterator.__next__" ⟨[a],[]⟩:=by
 unfold argsOk
 rw[signature?_of (id := "set_iterator.__next__") (n:=['_','_','t','x','e','n','_','_']) (o:=['r','o','t','a','r','e','t','i','_','t','e','s']) (by kernel_rfl) mq]
 kernel_rfl
theorem mx:Slot "set_iterator" "__iter__" "set_iterator.__iter__" := .of (owner := "set_iterator") (n := "__iter__")
 (by rw[typeLookup_type,builtinLookup_eq_fast];kernel_rfl) (by decide +kernel) (by decide +kernel) (by decide +kernel)
 (by first|exact .inl (by decide +kernel)|exact .inr (by decide +kernel)) (by rw[isSubtype_type];kernel_rfl)
theorem vP(a:Value):argsOk "set_iterator.__iter__" ⟨[a],[]⟩:=by
 unfold argsOk
 rw[signature?_of (id := "set_iterator.__iter__") (n:=['_','_','r','e','t','i','_','_']) (o:=['r','o','t','a','r','e','t','i','_','t','e','s']) (by kernel_rfl) mq]
 kernel_rfl
theorem vH:entryFor table "set_iterator.__iter__" = some Builtin.«dict_keyiterator.__iter__»:=entryFor_alias (id' := "dict_keyiterator.__iter__")
 (by kernel_rfl) (by first|rfl|decide +kernel|(unfold String.splitOn;simp +decide [String.splitOnAux])) (by decide +kernel) (by kernel_rfl)
theorem sO:entryFor table "set.__iter__" = some Builtin.«frozenset.__iter__»:=entryFor_alias (id' := "frozenset.__iter__")
 (by kernel_rfl) (by first|rfl|decide +kernel|(unfold String.splitOn;simp +decide [String.splitOnAux])) (by decide +kernel) (by kernel_rfl)
noncomputable def S3(slot i:Nat)(a:Addr)(n ep:Nat):Obj:={ cls:=.type "set_iterator",data:=.fields #[rawInt slot,rawInt i,.ref a,rawInt n,rawInt ep] }
def V0(h:Heap)(it:Addr)(slot i:Nat)(a:Addr)(n ep:Nat):Prop:=∃ o,h.get? it=some o∧o.cls = .type "set_iterator" ∧ o.data = .fields #[rawInt slot,rawInt i,.ref a,rawInt n,rawInt ep]
theorem V0.typeIs{s:Shared}{it a:Addr}{slot i n ep:Nat}(x:V0 s.heap it slot i a n ep):s.TypeIs (.ref it) "set_iterator" := let ⟨o,ho,hc,_⟩:=x;⟨o,ho,hc⟩
theorem V0.at{h h':Heap}{it a:Addr}{slot i n ep:Nat}(x:V0 h it slot i a n ep)(e:∀ o,h.get? it=some o→h'.get? it=some o):V0 h' it slot i a n ep:=let ⟨o,ho,r⟩:=x;⟨o,e _ ho,r⟩
def G8(b:Bool)(h:Heap)(a:Addr)(es:Array (Int × Value))(ep:Nat):Prop:=∃ o t,h.get? a=some o∧o.ExactSet∧o.data = .set es ep t∧F7 (!b) es t
theorem G8.at{b:Bool}{h h':Heap}{a:Addr}{es:Array (Int × Value)}{ep:Nat}(x:G8 b h a es ep)(e:∀ o,h.get? a=some o→h'.get? a=some o):G8 b h' a es ep:=let ⟨o,t,ho,r⟩:=x;⟨o,t,e _ ho,r⟩
theorem G8.typeIs{s:Shared}{b:Bool}{a:Addr}{es:Array (Int × Value)}{ep:Nat}(x:G8 b s.heap a es ep):s.TypeIs (.ref a) "set" := let ⟨o,_,ho,hc,_⟩:=x;⟨o,ho,hc.1⟩
section
variable {prog:Program} {w:World} {A:Around} {E:Value→Shared→Prop} {s:Shared}
theorem bZ{a:Addr}{o:Obj}{es:Array (Int × Value)}{ep:Nat}{t:SetTable}{slot i:Nat}{Q:Option (Value × Nat)→Shared→Prop}(ho:s.heap.get? a=some o)(hd:o.data = .set es ep t)(hf:F7 (!(C8 w)) es t)
  (h:Q (D2 (C8 w) (w.params.setOrder a ep) es t slot i) s):wpAny (model prog w) A (setNext a slot i ep) Q E s:=by
 unfold setNext
 refine Mq (wpAny_setState_of ho hd hf.fits ?_)
 dsimp only
 unfold setsByText
 refine Mq (Mq (wpAny_askSetting (Mu ?_)))
 show wpAny _ _ (if C8 w=true then _ else _) _ _ s
 have hl:=hf.led
 have hp:=hf.plain
 unfold D2 at h
 cases hb:C8 w with
 | true =>
  rw[hb,if_pos rfl]at h
  rw[if_pos rfl]
  rw[if_neg (by rw[bne_self_eq_false];exact MF)]
  unfold setWalk
  refine Mq (Mq (wpAny_setState_of ho hd hf.fits ?_))
  dsimp only
  unfold setsByText
  refine Mq (Mq (wpAny_askSetting (Mu ?_)))
  show wpAny _ _ (if C8 w=true then _ else _) _ _ s
  rw[hb,if_pos rfl]
  exact Mq (wpAny_askSetting (Mu (Mu h)))
 | false =>
  rw[hb]at h hl
  rw[if_neg MF]at h ⊢
  obtain⟨m,pl,du,fi,le,mo,pn⟩:=t
  dsimp only at hl hp
  subst hl
  subst hp
  show wpAny _ _ (if (false && decide (es.size > 1))=true then _ else _) _ _ s
  rw[Oo,if_neg MF]
  refine Mq (wpAny_of_eq (a:=()) rfl ?_)
  exact Mu h
theorem wV{it a:Addr}{slot sl2 i n ep:Nat}{es:Array (Int × Value)}{v:Value}{Q:Option Value→Shared→Prop}(hit:V0 s.heap it slot i a n ep)(hs:G8 (C8 w) s.heap a es ep)(hz:n=es.size)
  (hx:∀ t,s.heap.get? a=some t→∀ tb,t.data = .set es ep tb→D2 (C8 w) (w.params.setOrder a ep) es tb slot i=some (v,sl2))
  (hQ:∀ h' t,V0 h' it sl2 (i+1) a n ep→Heap.SameBut it s.heap h'→Q (some v) { s with heap:=h',toks:=t }):wpAny (model prog w) A (pyNext (.ref it)) Q E s:=by
 obtain⟨o,ho,hc,hd⟩:=id hit
 obtain⟨os,tb,hos,hex,hds,hf⟩:=id hs
 unfold pyNext
 refine Mq (wpAny_attempt (wpAny_callSpecial?_slot (name:=Str.ofString "__next__") hit.typeIs N6
  (wpAny_call_entry N6 hit.typeIs mz ?_ (mK _))))
 unfold Builtin.«set_iterator.__next__»
 refine Mq (wpAny_of_eq (a:=(Value.ref it,[])) rfl ?_)
 refine Mq (wpAny_fieldsOf ho hd ?_)
 show wpAny _ _ (setEntries a >>= _) _ _ s
 refine Mq (wpAny_setEntries_of hos hds hf.fits ?_)
 rw[if_neg (by rw[hz];simp)]
 show wpAny _ _ (setNext a (slot:Int).toNat (i:Int).toNat (ep:Int).toNat >>= _) _ _ s
 rw[MY,MY,MY]
 refine Mq (bZ hos hds hf ?_)
 rw[hx os hos tb hds]
 dsimp only
 refine Mq (wpAny_setField ho hd (by simp) ?_)
 have g1:=Nw (Obj.mapFields (·.setIfInBounds 0 (rawInt sl2))) ho (Obj.isFreed_of_fields (Obj.data_mapFields hd _))
 have d1:(Obj.mapFields (·.setIfInBounds 0 (rawInt sl2)) o).data = .fields (#[rawInt slot,rawInt i,.ref a,rawInt n,rawInt ep].setIfInBounds 0 (rawInt sl2)):=Obj.data_mapFields hd _
 refine Mq (wpAny_setField g1 d1 (by simp) ?_)
 refine Mu ⟨v,rfl,Mu (hQ _ _ ?_ ((Heap.SameBut.update ..).trans (Heap.SameBut.update ..)))⟩
 exact⟨_,Nw _ g1 (Obj.isFreed_of_fields (Obj.data_mapFields d1 _)),(Obj.cls_mapFields ..).trans ((Obj.cls_mapFields ..).trans hc),by
  rw[Obj.data_mapFields d1]
  simp⟩
theorem vB{it a:Addr}{slot n ep:Nat}{es:Array (Int × Value)}{Q:Option Value→Shared→Prop}(hh:A.handled=none)(hit:V0 s.heap it slot n a n ep)(hs:G8 (C8 w) s.heap a es ep)(hz:n=es.size)
  (hx:∀ t,s.heap.get? a=some t→∀ tb,t.data = .set es ep tb→D2 (C8 w) (w.params.setOrder a ep) es tb slot n=none)
  (hQ:∀ h',Heap.ExtBut it s.heap h'→Q none { s with heap:=h' }):wpAny (model prog w) A (pyNext (.ref it)) Q E s:=by
 obtain⟨o,ho,hc,hd⟩:=id hit
 obtain⟨os,tb,hos,hex,hds,hf⟩:=id hs
 unfold pyNext
 refine Mq (wpAny_attempt (wpAny_callSpecial?_slot (name:=Str.ofString "__next__") hit.typeIs N6
  (wpAny_call_entry N6 hit.typeIs mz ?_ (mK _))))
 unfold Builtin.«set_iterator.__next__»
 refine Mq (wpAny_of_eq (a:=(Value.ref it,[])) rfl ?_)
 refine Mq (wpAny_fieldsOf ho hd ?_)
 show wpAny _ _ (setEntries a >>= _) _ _ s
 refine Mq (wpAny_setEntries_of hos hds hf.fits ?_)
 rw[if_neg (by rw[hz];simp)]
 show wpAny _ _ (setNext a (slot:Int).toNat (n:Int).toNat (ep:Int).toNat >>= _) _ _ s
 rw[MY,MY,MY]
 refine Mq (bZ hos hds hf ?_)
 rw[hx os hos tb hds]
 dsimp only
 refine Mq (wpAny_setField ho hd (by simp) ?_)
 refine Mq ?_
 simp only[newExc,newTuple]
 refine Mq (wpAny_newObj_type ?_ (by size_fits))
 refine Mq (m:=firstArgMember _ _) (wpAny_of_eq (a:=Value.none) (by first|rfl|(simp only[firstArgMember];rfl)) ?_)
 refine wpAny_newObj_type ?_ (by size_fits)
 simp only[raiseNew]
 refine Mq (wpAny_handled ?_)
 rw[show A.in1.handled=none from hh]
 refine Mq (Mu (wpAny_throw ?_))
 refine Mq (wpAny_isInstance (T := "StopIteration") (b:=true) ⟨_,Mw _ rfl,rfl⟩ isSubtype_stop ?_)
 refine Mu (hQ _ ((Heap.ExtBut.push (Heap.ExtBut.push ?_ _) _)))
 exact fun b o hb e=>by
  rw[NN _ _ (Ne.symm hb)];exact e
theorem vI{it a:Addr}{slot i n ep:Nat}{Q:Value→Shared→Prop}(hit:V0 s.heap it slot i a n ep)(h:Q (.ref it) s):wpAny (model prog w) A (pyIter (.ref it)) Q E s:=by
 refine wpAny_pyIter_slot hit.typeIs mx (wpAny_call_entry mx hit.typeIs vH ?_ (vP _))
 show wpAny _ _ (ret (.ref it)) _ _ s
 exact Mu ⟨_,rfl, "set_iterator",_,hit.typeIs,N6.lookup,h⟩
theorem xq{a:Addr}{es:Array (Int × Value)}{ep:Nat}{Q:Value→Shared→Prop}(hs:G8 (C8 w) s.heap a es ep)
  (h:Q (.ref s.heap.objs.size) { s with heap:=s.heap.push (S3 0 0 a es.size ep) }):wpAny (model prog w) A (pyIter (.ref a)) Q E s:=by
 obtain⟨os,tb,hos,hex,hds,hf⟩:=id hs
 refine wpAny_pyIter_slot hs.typeIs F.slot_set_iter (wpAny_call_entry F.slot_set_iter hs.typeIs sO ?_ (F.args_set_iter_1 _))
 unfold Builtin.«frozenset.__iter__»
 refine Mq (wpAny_of_eq (a:=a) rfl ?_)
 unfold Builtin.Frozenset.sizeOf
 refine Mq (Mq (wpAny_setEntries_of hos hds hf.fits (Mu ?_)))
 unfold setDrawn
 refine Mq (Mq (wpAny_setState_of hos hds hf.fits ?_))
 dsimp only
 unfold setsByText
 refine Mq (Mq (wpAny_askSetting (Mu ?_)))
 have hp:=hf.plain
 refine Mu ?_
 obtain⟨m,pl,du,fi,le,mo,pn⟩:=tb
 dsimp only at hp
 subst hp
 show wpAny _ _ (if (!(C8 w) && (false && decide (es.size > 1)))=true then _ else _) _ _ s
 rw[Oo,NA,if_neg MF]
 refine Mq (Mu ?_)
 refine Mq (wpAny_setEpoch_of hos hds hf.fits ?_)
 unfold newFields
 refine Mq (wpAny_newObj_type ?_)
 refine Mu ⟨_,rfl, "set_iterator",_,⟨_,Mw _ rfl,rfl⟩,N6.lookup,?_⟩
 exact h
theorem sE(hh:A.handled=none)(I a:Addr)(hne:a≠I)(es:Array (Int × Value))(ep:Nat)(vs:List Value)(sl:Nat→Nat)(tb:SetTable)
  (h1:∀ i v,vs[i]? = some v→D2 (C8 w) (w.params.setOrder a ep) es tb (sl i) i=some (v,sl (i+1))) (h2:D2 (C8 w) (w.params.setOrder a ep) es tb (sl es.size) es.size=none) (hf:F7 (!(C8 w)) es tb) (hl:vs.length=es.size) :
  Walks prog w A I [I,a] [I] es.size (fun i v=>vs[i]? = some v) (fun i h=>i≤es.size∧V0 h I (sl i) i a es.size ep∧∃ o,h.get? a=some o∧o.ExactSet∧o.data = .set es ep tb) where
 sub:=fun b hb=>by simp at hb;simp[hb]
 frame:=fun _ _ _ x hk=>⟨x.1,x.2.1.at fun o e=>hk I (by simp) o e,let ⟨o,ho,r⟩:=x.2.2;⟨o,hk a (by simp) o ho,r⟩⟩
 item:=fun i s Q E hi x hQ=>by
  obtain⟨_,hit,o,ho,hex,hd⟩:=x
  have hv:vs[i]? = some (vs[i]'(by omega)):=MS (by omega)
  refine wV (v:=vs[i]'(by omega)) (sl2:=sl (i+1)) hit ⟨o,tb,ho,hex,hd,hf⟩ rfl (fun t ht tb' hd'=>?_) fun h' t hit' hs'=>?_
  ·rw[ht]at ho
   cases ho
   rw[hd']at hd
   cases hd
   exact h1 i _ hv
  ·exact hQ _ h' t hv ⟨hi,hit',o,(hs'.2 a hne).trans ho,hex,hd⟩ fun b o hb eo=>hs'.extBut b o (fun h=>hb (by simp[h])) eo
 done:=fun s Q E x hQ=>by
  obtain⟨_,hit,o,ho,hex,hd⟩:=x
  refine vB hh hit ⟨o,tb,ho,hex,hd,hf⟩ rfl (fun t ht tb' hd'=>?_) fun h' he'=>hQ h' s.toks fun b o hb eo=>he' b o (fun h=>hb (by simp[h])) eo
  rw[ht]at ho
  cases ho
  rw[hd']at hd
  cases hd
  exact h2
 self:=fun _ _ _ _ x hQ=>vI x.2.1 hQ
theorem xu{a:Addr}{Q:Bool→Shared→Prop}(hT:s.TypeIs (.ref a) "set")(h:Q false s):wpAny (model prog w) A (Builtin.List.listLengthHint (.ref a)) Q E s:=by
 unfold Builtin.List.listLengthHint
 refine Mq (wpAny_specialOf hT F.slot_set_len.lookup ?_)
 generalize hv:("set.__len__" : String)=nm
 wp_delta
 rw[show splitId nm=some ("set","__len__")by subst hv;decide +kernel]
 subst hv
 refine Mq (wpAny_isInstance (T := "set") (b:=true) hT (by rw[isSubtype_type];kernel_rfl) ?_)
 refine wpAny_ite_split (fun z=>absurd z (by decide)) (fun _=>?_)
 refine wpAny_ite_split (fun _=>?_) (fun z=>absurd (by decide +kernel) z)
 refine Mq (wpAny_typeOf hT ?_)
 exact Mu h
theorem xI{R:Result→Shared→Prop}{a S:Addr}{rv:Value}{es:Array (Int × Value)}{ep c₀:Nat}(hh:A.handled=none)(hs:G8 (C8 w) s.heap a es ep)(hj:S≠a)
  (hS:s.heap.get? S=some { cls:=.type "list",data:=.seq #[] c₀ })
  (fin:∀ h' tk acc c1,(∀ b o,b≠S→s.heap.get? b=some o→h'.get? b=some o)→h'.get? S=some { cls:=.type "list",dict:=none,data:=.seq acc c1,slots:=#[] }→acc.toList.Perm (es.toList.map (·.2))→R (.ok (.ret rv)) { s with heap:=h',toks:=tk }) :
  wpAny (model prog w) A.in1 (Builtin.List.listExtendWith (.ref S) (.ref a) rv) (Ju prog w A R) (fun e s'=>R (.error e) s') s:=by
 obtain⟨os,tb,hos,hex,hds,hf⟩:=id hs
 obtain⟨vs,hp,sl,sl0,w1,w2⟩:=vd (b:=C8 w) hf (w.params.setOrder a ep)
 have hl:vs.length=es.size:=by rw[hp.length_eq,MA,Array.length_toList]
 have hz:es.size≤sizeLine:=ME hf.size (by decide)
 have lta:a<s.heap.objs.size:=MB hos
 have ltS:S<s.heap.objs.size:=MB hS
 have V:=(sE (prog:=prog) (w:=w) (A:=A.in1) hh s.heap.objs.size a (MN lta) es ep vs sl tb w1 w2 hf hl).toS
 have nf:S∉[s.heap.objs.size,a]:=fun q=>by
  rcases Mv.mp q with q|q
  ·exact MN ltS q
  ·exact hj (Nc.mp q)
 unfold Builtin.List.listExtendWith
 refine Mq (wpAny_typeOf hs.typeIs ?_)
 have n1:Builtin.List.listSameRef (.ref S) (.ref a)=false:=by simp[Builtin.List.listSameRef,hj]
 have n2:(Value.type "set" == Value.type "list")=false:=by decide
 have n3:(Value.type "set" == Value.type "tuple")=false:=by decide
 simp only[n1,n2,n3,Rb,Ob,if_false]
 refine Mq (xq hs (Mq (wpAny_holding (xu (s:={ s with heap:=s.heap.push (S3 0 0 a es.size ep) }) (G8.typeIs (s:={ s with heap:=s.heap.push (S3 0 0 a es.size ep) }) (hs.at fun o e=>Mr _ e)) ?_))))
 have gS:(s.heap.push (S3 0 0 a es.size ep)).get? S=some { cls:=.type "list",data:=.seq #[] c₀ }:=Mr _ hS
 have ga:(s.heap.push (S3 0 0 a es.size ep)).get? a=some os:=Mr _ hos
 have gi:V0 (s.heap.push (S3 0 0 a es.size ep)) s.heap.objs.size (sl 0) 0 a es.size ep:=by
  rw[sl0]
  exact⟨_,Mw _ rfl,rfl,rfl⟩
 have up:∀ b o,s.heap.get? b=some o→(s.heap.push (S3 0 0 a es.size ep)).get? b=some o:=fun b o e=>Mr _ e
 generalize s.heap.push (S3 0 0 a es.size ep)=h1 at *
 refine wpAny_ite_split (fun _=>?_) (fun z=>absurd (by decide +kernel) z)
 refine Mq (wpAny_rule ?_)
 refine Mq ?_
 show wpAny _ A.in1 (updateSeq S (·.push .none) >>= fun _=>updateSeq S (·.pop)) _ _ _
 refine Mq (wpAny_updateSeq gS rfl ?_)
 have g2:=Nw (Obj.mapSeq (·.push Value.none)) gS rfl
 refine wpAny_updateSeq (hz:=by seq_fits) g2 rfl ?_
 have g3:=Nw (Obj.mapSeq (·.pop)) g2 rfl
 have oth:∀ b o,b≠S→h1.get? b=some o→((h1.update S (Obj.mapSeq (·.push Value.none))).update S (Obj.mapSeq (·.pop))).get? b=some o :=
  fun b o q1 q2=>(NN _ _ (Ne.symm q1)).trans ((NN _ _ (Ne.symm q1)).trans q2)
 refine Mu ⟨plainId_quiet F.plain_extend_loop _,?_⟩
 refine codeAny_extend_loopS V hz S nf rv es.size 0 _ #[] _ rfl (Np _) ⟨Np _,gi.at fun o e=>oth _ o (Ne.symm (MN ltS)) e,os,oth a os (Ne.symm hj) ga,hex,hds⟩ g3 (ItemsOf.nil _) fun s2 acc c1 mv g1 g2=>?_
 rw[Moved.eq_with mv]
 refine fin s2.heap s2.toks acc c1 (fun b o q1 q3=>mv.heap b o (fun q=>(Mv.mp q).elim q1 fun q'=>MN (MB q3) (Nc.mp q')) (oth b o q1 (up b o q3))) g1 ?_
 have:acc.toList=vs:=by
  refine List.ext_getElem? fun i=>?_
  by_cases hi:i<es.size
  ·have hv:acc[i]? = some (acc[i]'(by rw[g2.1];exact hi)):=Array.getElem?_eq_getElem _
   rw[Array.getElem?_toList,g2.2 i _ hv,hv]
  ·rw[PR (by rw[Array.length_toList,g2.1];omega),PR (by omega)]
 rw[this]
 exact hp
theorem xt{R:Result→Shared→Prop}{a S:Addr}{es:Array (Int × Value)}{ep c₀:Nat}(hh:A.handled=none)(hs:G8 (C8 w) s.heap a es ep)(hj:S≠a)
  (hS:s.heap.get? S=some { cls:=.type "list",data:=.seq #[] c₀ })
  (fin:∀ h' tk acc c1,(∀ b o,b≠S→s.heap.get? b=some o→h'.get? b=some o)→h'.get? S=some { cls:=.type "list",dict:=none,data:=.seq acc c1,slots:=#[] }→acc.toList.Perm (es.toList.map (·.2))→R (.ok (.ret (.ref S))) { s with heap:=h',toks:=tk }) :
  codeAny (model prog w) A (.builtin "list.__iadd__" ⟨[.ref S,.ref a],[]⟩) R s:=by
 refine codeAny_builtin F.entry_list_iadd ?_
 rw[Around.under_plainId F.plain_list_iadd _]
 exact xI (rv:=.ref S) hh hs hj hS fin
theorem nO{a:Addr}{es:Array (Int × Value)}{ep:Nat}{Q:List Value→Shared→Prop}(hh:A.handled=none)(hs:G8 (C8 w) s.heap a es ep)
  (fin:∀ h' tk vs,(∀ b o,s.heap.get? b=some o→h'.get? b=some o)→vs.Perm (es.toList.map (·.2))→Q vs { s with heap:=h',toks:=tk }):wpAny (model prog w) A (collect (.ref a)) Q E s:=by
 obtain⟨os,tb,hos,_⟩:=id hs
 have i2:s.heap.objs.size≠a:=Nl (MB hos)
 unfold collect
 refine Mq (wpAny_runValue (codeAny_builtin F.entry_proto_collect ?_));rw[Around.under_plainId F.plain_proto_collect _]
 show wpAny _ A.in1 (newList [] >>= fun S=>again (.builtin "list.__iadd__" ⟨[S,.ref a],[]⟩)) _ _ s
 have up:∀ b o,s.heap.get? b=some o→(s.heap.push { cls:=.type "list",data:=.seq ([]:List Value).toArray }).get? b=some o:=fun b o e=>Mr _ e
 have gS:(s.heap.push { cls:=.type "list",data:=.seq ([]:List Value).toArray }).get? s.heap.objs.size=some { cls:=.type "list",data:=.seq #[] }:=Mw _ rfl
 refine Mq (wpAny_newObj_type (Mu ⟨plainId_quiet F.plain_list_iadd _,xt (s:={ s with heap:=s.heap.push { cls:=.type "list",data:=.seq ([]:List Value).toArray } }) hh (hs.at fun o e=>up a o e) i2 gS fun h' tk acc c1 q1 q2 q3=>?_⟩))
 show wpAny _ A (load s.heap.objs.size >>= _) _ _ _
 refine Mq (wpAny_load q2 (Mu (fin h' tk acc.toList (fun b o e=>q1 b o (MN (MB e)) (up b o e)) q3)))
end
noncomputable def dP(es:Array (Int × Value)):List Value:=es.toList.map (·.2)
def iM(es:Array (Int × Value))(ms:List Int):Prop:=IntsAre (dP es) ms∧∀ e∈es.toList,∃ m t,e=(hashInt m,Value.int m t)
theorem ix:∀{vs:List Value} {ms:List Int} {k:Int} {t:Tok},IntsAre vs ms→IntsAre (vs++[.int k t]) (ms++[k])
 | _,_,_,_,.nil=>.cons _ _ .nil
 | _,_,_,_,.cons n t hr=>.cons n t (ix hr)
theorem iy{vs ws:List Value}(h:vs.Perm ws):∀{ms:List Int},IntsAre ws ms→∃ ms',IntsAre vs ms'∧ms'.Perm ms:=by
 induction h with
 | nil=>exact fun h=>⟨_,h,.refl _⟩
 | cons x p ih =>
  intro ms h
  cases h with
  | cons n t hr =>
   obtain⟨ms',a,b⟩:=ih hr
   exact⟨n :: ms',.cons n t a,b.cons n⟩
 | swap x y l =>
  intro ms h
  cases h with
  | cons n t hr =>
   cases hr with
   | cons m u hr=>exact⟨m :: n :: _,.cons m u (.cons n t hr),.swap _ _ _⟩
 | trans p q ih1 ih2 =>
  intro ms h
  obtain⟨m1,a,b⟩:=ih2 h
  obtain⟨m2,c,d⟩:=ih1 a
  exact⟨m2,c,d.trans b⟩
section
variable {prog:Program} {w:World} {A:Around} {E:Value→Shared→Prop} {s:Shared}
theorem iM.elems{es:Array (Int × Value)}{ms:List Int}(h:iM es ms):ElemsOf (intKind prog w) es.toList:=fun e he=>by
 obtain⟨m,t,rfl⟩:=h.2 e he
 exact⟨⟨m,intKind_is _ _ _ _,rfl⟩,rfl⟩
theorem iC{k:Int}:∀{l:List (Int × Value)} {ms:List Int},IntsAre (l.map (·.2)) ms→((l.findIdx? fun e=>(intKind prog w).is k e.2).isSome=true↔k∈ms)
 | [],ms,h=>by cases h;simp
 | (hh,x) :: l,ms,h=>by
  cases h with
  | cons n t hr =>
   have ih:=iC (k:=k) hr
   rw[List.findIdx?_cons]
   have e:(intKind prog w).is k (Value.int n t)=(n == k):=by
    show Value.isInt k (Value.int n t)=_
    unfold Value.isInt
    rfl
   show(if (intKind prog w).is k (Value.int n t)=true then some 0 else _).isSome=true↔_
   rw[e]
   by_cases c:n=k
   ·subst c;simp
   ·have:(n == k)=false:=by simpa using c
    rw[this,if_neg MF,Option.isSome_map,ih,Mv]
    exact⟨.inr,fun z=>z.elim (fun q=>absurd q.symm c) id⟩
theorem BN{a:Addr}{es:Array (Int × Value)}{ep:Nat}{ms:List Int}{k:Int}{tk:Tok}{Q:Bool→Shared→Prop}(hs:G8 (C8 w) s.heap a es ep)(hi:iM es ms)(h1:es.size≤1)
  (fin:∀ b h' es' ep' ms',Heap.SameBut a s.heap h'→G8 (C8 w) h' a es' ep'→iM es' ms'→ms'.Perm (if k∈ms then ms else ms++[k])→Q b { s with heap:=h' }) :
  wpAny (model prog w) A (setAddHashed a (.int k tk) (hashInt k)) Q E s:=by
 obtain⟨o,t,ho,hex,hd,hf⟩:=id hs
 have hel:ElemsOf (intKind prog w) es.toList:=hi.elems
 have room:es.size<scanBound:=MP h1 (by decide)
 unfold setAddHashed setAddHashedIn
 refine wpAny_holding (Mq (wpAny_setState_of ho hd hf.fits ?_))
 show wpAny _ _ (if byScan (Value.int k tk) es=true then _ else _) _ _ s
 rw[byScan_of rfl room hel,if_pos rfl]
 unfold setAddByScan
 refine Mq (Mq (wpAny_rule (Mq (wpAny_setScan_of (knd:=intKind prog w) (k:=k) (intKind_is _ _ _ _) ho hd hf.fits hel ?_))))
 have fi:=iC (prog:=prog) (w:=w) (k:=k) hi.1
 cases hr:List.findIdx? (fun e=>(intKind prog w).is k e.2) es.toList with
 | some j =>
  rw[hr]at fi
  have hk:k∈ms:=fi.mp rfl
  refine Mu (Mu ?_)
  have:=fin false s.heap es ep ms (Heap.SameBut.refl a s.heap) hs hi (by rw[if_pos hk])
  exact this
 | none =>
  rw[hr]at fi
  have hk:¬ k∈ms:=fun z=>by have:=fi.mpr z;cases this
  have lay:∃ es' t' ,layNew t es (hashInt k) (Value.int k tk)=(es',t',false,false)∧F7 (!(C8 w)) es' t'∧es'.toList.Perm (es.toList++[(hashInt k,Value.int k tk)])∧t'.tooFull=false:=by
   rcases hf with⟨rfl,rfl⟩|⟨e,j,hj,rfl,rfl⟩|⟨e1,e2,i,k,_,rfl,rfl⟩
   ·obtain⟨i,i8,e⟩:=Bk (!(C8 w)) (hashInt k) (Value.int k tk)
    exact⟨_,_,e,.inr (.inl ⟨_,i,i8,rfl,rfl⟩),.refl _,rfl⟩
   ·obtain⟨i,k',e1,e2,lt,he,q⟩:=Bj (!(C8 w)) j hj e (hashInt k) (Value.int k tk)
    refine⟨_,_,q,.inr (.inr ⟨e1,e2,i,k',lt,rfl,rfl⟩),?_,rfl⟩
    rcases he with⟨rfl,rfl⟩|⟨rfl,rfl⟩
    ·exact .refl _
    ·exact .swap _ _ _
   ·simp at h1
  obtain⟨es',t',el,f',p',tf⟩:=lay
  have hpl:=f'.plain
  have hsz:es'.size≤sizeLine:=ME f'.size (by decide)
  dsimp only
  rw[el]
  dsimp only
  refine Mq (wpAny_of_eq (a:=()) rfl ?_)
  rw[if_pos hpl,hashByValue_scannable 8 rfl]
  refine Mq (Mu ?_)
  show wpAny _ _ (storeSet a es' t' >>= _) _ _ s
  refine Mq (wpAny_storeSet_of ho hd ?_ hsz)
  show wpAny _ _ (if (!false && t'.tooFull)=true then _ else _) _ _ _
  rw[tf,NA,if_neg MF]
  refine Mu (Mu ?_)
  have g:(s.heap.update a (Obj.putSet es' t')).get? a=some { o with data:=.set es' (ep+1) t' }:=by
   have:=Nw (Obj.putSet es' t') ho (by rw[putSet_of es' t' hd];rfl)
   rw[putSet_of es' t' hd]at this
   exact this
  have hp2:(dP es').Perm (dP es++[Value.int k tk]):=by
   have:=p'.map (·.2)
   rw[MR]at this
   exact this
  obtain⟨ms',m1,m2⟩:∃ ms',IntsAre (dP es') ms'∧ms'.Perm (ms++[k]):=iy hp2 (ix hi.1)
  refine fin true _ es' (ep+1) ms' (Heap.SameBut.update ..) ⟨_,t',g,hex,rfl,f'⟩ ⟨m1,fun e he=>?_⟩ (by rw[if_neg hk];exact m2)
  rcases MX.mp (p'.mem_iff.mp he)with z|z
  ·exact hi.2 e z
  ·rw[Nc]at z
   exact⟨k,tk,z⟩
end
section
variable {prog:Program} {w:World} {A:Around} {E:Value→Shared→Prop} {s:Shared}
noncomputable def O8(b:Bool):Obj:={ cls:=.type "set",dict:=none,data:=.set #[] 0 (A1 (!b) #[]) }
theorem Bd(x:Value){Q:Value→Shared→Prop}(fin:Q (.ref s.heap.objs.size) { s with heap:=s.heap.push (O8 (C8 w)) }) :
  codeAny (model prog w) A (.call (.builtin "set.__new__") ⟨[.type "set",x],[]⟩) (wants Q E) s:=by
 refine codeAny_of_tree ?_
 show wpAny _ A.in1 (checkBuiltinCall "set.__new__" ⟨[.type "set",x],[]⟩ >>= fun _=>again (.builtin "set.__new__" ⟨[.type "set",x],[]⟩)) _ _ s
 refine Mq (wpAny_of_eq (F.newCall_set_1 x) (Mu ⟨plainId_quiet F.plain_set_new _,?_⟩))
 refine codeAny_builtin F.entry_set_new ?_
 rw[Around.under_plainId F.plain_set_new _]
 have sub:=sub_set_self
 unfold Builtin.«set.__new__» Builtin.Frozenset.newClass
 obtain⟨hp,g,d,tk,os⟩:=s
 dsimp only
 wp_walk
 refine wpAny_askSetting (Mu ?_)
 dsimp only
 simp only[newObj]
 exact Mq (wpAny_alloc (Mu (Mu fin)))
variable {R:Result→Shared→Prop} {I:Addr} {fp wr:List Addr} {G:Array GenState→Array GenState→Prop} {n:Nat} {P:Nat→Value→Prop} {St:Nat→Shared→Prop}
def cn(w:World)(h:Heap)(S:Addr)(val:Nat→Int)(i:Nat):Prop:=∃ es ep ms,G8 (C8 w) h S es ep∧iM es ms∧ms.Perm (firstMet val i)
theorem cn.at{h h':Heap}{S:Addr}{val:Nat→Int}{i:Nat}(x:cn w h S val i)(e:∀ o,h.get? S=some o→h'.get? S=some o):cn w h' S val i:=let ⟨es,ep,ms,f,r⟩:=x;⟨es,ep,ms,f.at e,r⟩
theorem wY(V:WalksS prog w A.in1 I fp wr G n P St)(S:Addr)(out:S∉fp)(val:Nat→Int)(isv:∀ i v,P i v→∃ t,v = .int (val i) t)(h2:n≤2) :
  ∀(k i:Nat) (s:Shared),n - i=k→i≤n→St i s→cn w s.heap S val i→(∀ s',Moved (S :: wr) G s s'→cn w s'.heap S val n→R (.ok (.ret .none)) s') →
   codeAny (model prog w) A (.builtin "set.update.loop" ⟨[.ref S,.ref I],[]⟩) R s:=by
 have nw:S∉wr:=fun z=>out (V.sub _ z)
 have sub:∀ b∈wr,b∈S :: wr:=fun b z=>.tail _ z
 intro k
 induction k with
 | zero =>
  intro i s e1 e2 st fw r
  obtain rfl:i=n:=by omega
  refine codeAny_builtin PyProof.Rows.F.entry_set_update_loop ?_
  rw[Around.under_plainId PyProof.Rows.F.plain_set_update_loop _]
  show wpAny _ A.in1 (pyNext (.ref I) >>= _) _ _ s
  refine Mq (V.done s _ _ st fun s' mv=>?_)
  exact Mu (r s' (mv.mono sub) (fw.at fun o e=>mv.heap S _ nw e))
 | succ k ih =>
  intro i s e1 e2 st fw r
  have lt:i<n:=by omega
  refine codeAny_builtin PyProof.Rows.F.entry_set_update_loop ?_
  rw[Around.under_plainId PyProof.Rows.F.plain_set_update_loop _]
  show wpAny _ A.in1 (pyNext (.ref I) >>= _) _ _ s
  refine Mq (V.item i s _ _ lt st fun v s' pv st' mv=>?_)
  obtain⟨t,rfl⟩:=isv i v pv
  obtain⟨es,ep,ms,fw1,fw2,fw3⟩:cn w s'.heap S val i:=fw.at fun o e=>mv.heap S _ nw e
  show wpAny _ A.in1 (holding [Value.int (val i) t] (setAdd S (.int (val i) t)) >>= _) _ _ s'
  refine Mq (wpAny_holding ?_)
  unfold setAdd
  refine wpAny_holding (Mq ((intKind prog w).pyHash (k:=val i) (intKind_is _ _ _ _) ?_))
  have len:es.size=ms.length:=by
   have:=fw2.1.length
   unfold dP at this
   rw[MA,Array.length_toList]at this
   exact this
  have few:es.size≤1:=by
   have a1:=firstMet_length_le val i
   have a2:=fw3.length_eq
   omega
  refine BN (s:={ s' with toks:=s'.toks+1 }) fw1 fw2 few fun b h' es' ep' ms' sb g1 g2 g3=>?_
  have g4:ms'.Perm (firstMet val (i+1)):=by
   rw[firstMet_succ]
   unfold step_dedup
   refine g3.trans ?_
   by_cases c:val i∈ms
   ·have c2:(firstMet val i).any (· == val i)=true:=Py.mpr ⟨val i,fw3.mem_iff.mp c,by simp⟩
    rw[if_pos c,if_pos c2]
    exact fw3
   ·have c2:¬ (firstMet val i).any (· == val i)=true:=fun z=>by
     obtain⟨y,y1,y2⟩:=Py.mp z
     rw[beq_iff_eq]at y2
     subst y2
     exact c (fw3.mem_iff.mpr y1)
    rw[if_neg c,if_neg c2]
    exact fw3.append_right _
  refine Mu ⟨plainId_quiet PyProof.Rows.F.plain_set_update_loop _,ih (i+1) _ (by omega) lt (V.frame _ s' _ _ st' (Ou _) fun b hb o e=>?_) ⟨es',ep',ms',g1,g2,g4⟩ fun s2 mv2 f2=>?_⟩
  ·rw[sb.2 b fun z=>out (by rw[← z];exact hb)]
   exact e
  ·refine r s2 (Moved.trans V.gtrans ((mv.mono sub).then_heap (Ou _) fun b o hb e=>?_) mv2) f2
   rw[sb.2 b fun z=>hb (by rw[z];exact Mz)]
   exact e
set_option maxHeartbeats 3200000 in
theorem kL{l:Addr}{items:Array Value}{ns:List Int}{Q:Value→Shared→Prop}(hh:A.handled=none)(hl:s.heap.IsList l items)(hi:IntsAre items.toList ns)(h2:items.size≤2)
  (fin:∀ h' tk,cn w h' s.heap.objs.size (fun i=>ns.getD i 0) items.size→(∀ b o,s.heap.get? b=some o→h'.get? b=some o)→Q (.ref s.heap.objs.size) { s with heap:=h',toks:=tk }) :
  wpAny (model prog w) A (call (.type "set") [.ref l]) Q E s:=by
 obtain⟨c,tl,hmro⟩:=F.called_set.mro
 have hmade:=F.called_set.made
 have hsub:=F.called_set.sub
 refine wpAny_call (codeAny_of_tree ?_)
 show wpAny _ _ (callAny (.type "set") _) _ _ _
 refine Mu ⟨Code.quiet_builtin _ (by decide +kernel),codeAny_builtin F.entry_type_call ?_⟩
 rw[Around.under_plain (weight_type_call_type "set" [.ref l] []) rfl]
 have h1:=F.called_set.notType
 have h2':=F.called_set.canCreate
 have hct:=F.typeCall_set_1 (.ref l)
 repeat(any_goals (first|assumption|wp_step))
 refine codeAny_mono (Bd (.ref l) (E:=E) (Q:=fun v z=>v = .ref s.heap.objs.size∧z = { s with heap:=s.heap.push (O8 (C8 w)) }) ⟨rfl,rfl⟩) fun r z hr=>?_
 cases r with
 | error e=>exact hr
 | ok fl =>
 cases fl with
 | ret obj =>
  obtain⟨rfl,rfl⟩:=hr
  have gS:(s.heap.push (O8 (C8 w))).get? s.heap.objs.size=some (O8 (C8 w)):=Mw _ rfl
  have hT:Shared.TypeIs { s with heap:=s.heap.push (O8 (C8 w)) } (.ref s.heap.objs.size) "set" := ⟨_,gS,rfl⟩
  have up:∀ b o,s.heap.get? b=some o→(s.heap.push (O8 (C8 w))).get? b=some o:=fun b o e=>Mr _ e
  have sz:(s.heap.push (O8 (C8 w))).objs.size=s.heap.objs.size+1:=size_push' _ _
  have hli:=F.called_set.init.lookup
  have hbi:=F.called_set.init.bind (.ref s.heap.objs.size)
  repeat(any_goals (first|assumption|wp_step))
  refine codeAny_mono (codeAny_call_builtin (R:=wants (fun r z=>r = .none∧∃ h' tk,z = { s with heap:=h',toks:=tk }∧cn w h' s.heap.objs.size (fun i=>ns.getD i 0) items.size∧∀ b o,s.heap.get? b=some o→h'.get? b=some o) E)
   F.called_set.init.plain F.entry_set_init (check_set_init_1 hT ?_)) fun r z hr=>?_
  ·have ltl:l<s.heap.objs.size:=let ⟨o,e,_⟩:=hl;MB e
   have hl1:(s.heap.push (O8 (C8 w))).IsList l items:=hl.at fun o e=>up l o e
   obtain⟨ol,hol,hcl,nl,hdl⟩:=id hl1
   have hTl:Shared.TypeIs { s with heap:=s.heap.push (O8 (C8 w)) } (.ref l) "list" := ⟨_,hol,hcl⟩
   have y1:=F.sub_list_set
   have y2:=F.sub_list_frozenset
   have y3:(Value.type "list" == Value.type "dict")=false:=by decide
   obtain⟨ocls,odict,odata,oslots⟩:=ol
   dsimp only at hcl hdl
   subst hcl
   subst hdl
   unfold Builtin.«set.__init__» noKeywords Builtin.Frozenset.updateFrom
   generalize hPI:pyIter=PI
   wp_walk
   subst hPI
   refine wpAny_pyIter_list hl1 (Mq (wpAny_runValue ?_))
   have h3:A.in1.in1.in1.handled=none:=by simp[hh]
   refine wY ((Walks.list h3 _ l (by rw[sz];exact MN (Po ltl)) items).toS) s.heap.objs.size ?out (fun i=>ns.getD i 0) (fun i v hv=>hi.int_at i v (by rw[Array.getElem?_toList];exact hv)) h2 (items.size - 0) 0 _ (by omega) (Np _)
    ⟨⟨_,Mw _ rfl,rfl,rfl⟩,hl1.push _⟩ ?start ?fin
   case out =>
    rw[sz]
    simp only[Mv,MG,or_false,not_or]
    exact⟨MN (Pu _),Nl ltl⟩
   case start=>exact⟨#[],0,[],⟨_,_,Mr _ gS,⟨rfl,rfl,rfl⟩,rfl,.inl ⟨rfl,rfl⟩⟩,⟨.nil,fun e he=>by simp at he⟩,.refl _⟩
   case fin =>
    intro s' mv fw
    obtain⟨h',g',d',tk',os'⟩:=s'
    have eg:g'=s.gens:=mv.gens
    have ed:d'=s.drawn:=mv.drawn
    have eo:os'=s.os:=mv.os
    subst eg;subst ed;subst eo
    show wpAny _ _ _ _ _ _
    refine Mu ?_
    show wpAny _ _ (ret Value.none) _ _ _
    refine Mu ⟨rfl,h',tk',rfl,fw,fun b o e=>?_⟩
    have lb:=MB e
    refine mv.heap b o ?_ (Mr _ (up b o e))
    rw[sz]
    simp only[Mv,MG,or_false,not_or]
    exact⟨MN lb,MN (Po lb)⟩
  ·cases r with
   | error e=>exact hr
   | ok fl2 =>
   cases fl2 with
   | ret r =>
    obtain⟨rfl,h',tk,rfl,f1,f2⟩:=hr
    repeat(any_goals (first|assumption|wp_step))
    exact fin _ _ f1 f2
   | _=>exact hr.elim
 | _=>exact hr.elim
end
noncomputable def sd2:List Int→List Int
 | [a,b]=>if a=b then[a]else if a<b then[a,b]else[b,a]
 | ns=>ns
theorem Eb{ns ms ks:List Int}(h2:ns.length≤2)(p:ms.Perm (firstMet (fun i=>ns.getD i 0) ns.length))(q:ks.Perm ms)(r:ks.Pairwise (· ≤ ·)):ks=sd2 ns:=by
 have p:=q.trans p
 match ns,h2 with
 | [],_=>exact p.eq_nil
 | [a],_ =>
  have:ks.Perm [a]:=p
  exact Ql.mp this
 | [a,b],_ =>
  have e:firstMet (fun i=>([a,b]:List Int).getD i 0) ([a,b]:List Int).length=if a=b then[a]else[a,b]:=by
   show step_dedup (step_dedup [] a) b=_
   show(if ([a]:List Int).any (· == b)=true then[a]else[a]++[b])=_
   by_cases c:a=b
   ·rw[if_pos c,if_pos (by simp[c])]
   ·rw[if_neg c,if_neg (by simpa using c)];rfl
  rw[e]at p
  show ks=if a=b then[a]else if a<b then[a,b]else[b,a]
  by_cases c:a=b
  ·rw[if_pos c]at p ⊢
   exact Ql.mp p
  ·rw[if_neg c]at p ⊢
   have l:=p.length_eq
   match ks,l with
   | [x,y],_ =>
    have m1:x∈[a,b]:=p.mem_iff.mp (by simp)
    have m2:y∈[a,b]:=p.mem_iff.mp (by simp)
    have m3:a∈[x,y]:=p.mem_iff.mpr (by simp)
    have m4:b∈[x,y]:=p.mem_iff.mpr (by simp)
    have le:x≤y:=by
     have:=List.pairwise_cons.mp r
     exact this.1 y (by simp)
    simp only[Mv,MG,or_false]at m1 m2 m3 m4
    by_cases d:a<b
    ·rw[if_pos d]
     have:x=a:=by omega
     have:y=b:=by omega
     subst x;subst y;rfl
    ·rw[if_neg d]
     have:x=b:=by omega
     have:y=a:=by omega
     subst x;subst y;rfl
section
variable {prog:Program} {w:World} {A:Around} {E:Value→Shared→Prop} {s:Shared}
theorem mr{a:Addr}{es:Array (Int × Value)}{ep:Nat}{ms:List Int}{Q:Value→Shared→Prop}(hh:A.handled=none)(hs:G8 (C8 w) s.heap a es ep)(hi:iM es ms)
  (fin:∀ h' tk p out c ks,(∀ b o,s.heap.get? b=some o→h'.get? b=some o)→s.heap.get? p=none→h'.get? p=some (seqObj "list" out c)→IntsAre out.toList ks→ks.Perm ms→ks.Pairwise (· ≤ ·)→Q (.ref p) { s with heap:=h',toks:=tk }) :
  wpAny (model prog w) A (call (.builtin "sorted") [.ref a]) Q E s:=by
 obtain⟨o1,t1,_,_,_,hf⟩:=id hs
 refine Calls.call_function_entry kind_sorted plain_sorted entry_sorted (args_sorted1 _) ?_
 unfold Builtin.«sorted»
 refine Mq (m:=checkCount "sorted" 1 1 _) (Mu (Mq (nO (A:=A.in1) hh hs fun h1 tk vs k1 p1=>?_)))
 obtain⟨ns,i1,i2⟩:=iy p1 hi.1
 have len:vs.length≤2:=by
  rw[p1.length_eq,MA,Array.length_toList]
  exact hf.size
 refine Mq (wpAny_newList ?_ (ME len (by decide)))
 have at1:(h1.push (seqObj "list" vs.toArray 0)).get? h1.objs.size=some (seqObj "list" vs.toArray 0):=Mw _ rfl
 have up:∀ b o,s.heap.get? b=some o→b≠h1.objs.size∧(h1.push (seqObj "list" vs.toArray 0)).get? b=some o:=fun b o e=>⟨MN (MB (k1 b o e)),Mr _ (k1 b o e)⟩
 show wpAny _ _ _ _ _ { s with heap:=h1.push (seqObj "list" vs.toArray 0),toks:=tk }
 generalize hp:h1.objs.size=p at *
 generalize h1.push (seqObj "list" vs.toArray 0)=h2 at *
 refine Mq (wpAny_holding (wpAny_call_entry (s:={ s with heap:=h2,toks:=tk }) slot_list_sort ⟨_,at1,rfl⟩ entry_list_sort (list_sort_tree (s:={ s with heap:=h2,toks:=tk }) at1 i1 (by omega) fun out ks a1 a2 a3=>⟨_,rfl,?_⟩) (args_list_sort _)))
 refine Mu ⟨_,rfl,?_⟩
 obtain⟨e0,b0⟩:∃ n,(h2.update p (Obj.mapSeq fun _=>#[])).get? p=some (seqObj "list" #[] n):=⟨_,get?_update_seq at1 _⟩
 refine fin (sortedHeap h2 p vs out) tk p out _ ks (fun b o e=>?_) ?_ (get?_update_seq (Mr _ (Mr _ b0)) _) a1 (a2.trans i2) a3
 ·obtain⟨nb,eb⟩:=up b o e
  unfold sortedHeap
  rw[NX _ _ _ _ nb]
  refine Mr _ (Mr _ ?_)
  rw[NX _ _ _ _ nb]
  exact eb
 ·cases e:s.heap.get? p with
  | none=>rfl
  | some o=>exact absurd rfl (up p o e).1
end
theorem iw:∀{vs:List Value} {ns:List Int},j6 (ns.map V.int) vs→IntsAre vs ns
 | [],[],_=>.nil
 | _ :: _,[],h=>by cases h
 | [],_ :: _,h=>by cases h
 | _ :: _,n :: ns,h=>by
  cases h with
  | cons r t =>
   obtain⟨tk,rfl⟩:=r
   exact .cons n tk (iw t)
def tSs(K:Ms)(ta:TA):TE:=fun σ H Q=>ta σ H fun vs H1=>∃ l ns,vs=[.ref l]∧SqL K H1 l (ns.map V.int)∧ns.length≤2∧∀ p,H1 p=none→Q (.ref p) (upd H1 p (.lst ((sd2 ns).map V.int)))
theorem Ad{ns:List Int}(h:ns.length≤2):(sd2 ns).length≤2:=by
 match ns,h with
 | [],_=>decide
 | [a],_=>exact Ou 1
 | [a,b],_ =>
  show(if a=b then[a]else if a<b then[a,b]else[b,a]).length≤2
  by_cases c:a=b
  ·rw[if_pos c];exact Ou 1
  ·rw[if_neg c]
   by_cases d:a<b
   ·rw[if_pos d];exact MM 2
   ·rw[if_neg d];exact MM 2
theorem pz{X:Cx}{a:Expr}{ta:TA}{p1 p2 pos1 pos2:Pos}(hc:X.calm=true)(g1:Gl X "sorted")(n1:X.mg "sorted" = none)(v1:bootBuiltins "sorted" = some (.builtin "sorted"))(g2:Gl X "set")(n2:X.mg "set" = none)(v2:bootBuiltins "set" = some (.type "set"))(ha:PA X [a] ta)
  (hs:starEach [a] X.env=[(false,eval a X.env)]:=by rfl) (hs3:starEach [.Call (.Name "set" p2) [a] [] pos2] X.env=[(false,eval (.Call (.Name "set" p2) [a] [] pos2) X.env)]:=by rfl) :
  PE X (.Call (.Name "sorted" p1) [.Call (.Name "set" p2) [a] [] pos2] [] pos1) (tSs X.K ta):=by
 intro pins s σ H Q I h
 refine wpAny_Call_Name_kw (N0 I g1 n1 v1 ?_ (by decide) (by decide))
 refine PyProof.Rows.callWith_builtin1 ?_ (by rw[hs3];rfl) (by rfl)
 rw[hs3]
 show wpAny _ _ (spliced ((false,eval (.Call (.Name "set" p2) [a] [] pos2) X.env) :: backTo pos1 (starEach [] X.env))) _ _ s
 refine Calls.spliced_cons ?_
 refine wpAny_Call_Name_kw (N0 I g2 n2 v2 (PyProof.Rows.callWith_type1 (thn (ha pos2 pins s σ H _ I h) fun us s1 ⟨vs,H1,I1,r1,q1⟩=>?_) (by rw[hs];rfl) (by rfl)) (by decide) (by decide))
 obtain⟨l,ns,rfl,hl,h2,q⟩:=q1
 obtain⟨u,rfl,ru⟩:=j6.one r1
 obtain rfl:u=Value.ref l:=ru
 obtain⟨its,rl,⟨ol,nl,hl1,hl2,_,hl3⟩,hz⟩:=I1.list hl
 have ii:=iw rl
 have il:=ii.length
 refine kL (items:=its.toArray) (ns:=ns) (I1.ok.hd hc) ⟨ol,hl1,hl2,nl,hl3⟩ (by simpa using ii) (by rw[MJ];omega) fun h1 tk fw k1=>?_
 rw[show its.toArray.size=ns.length from MJ.trans il]at fw
 obtain⟨es,ep,ms,f1,f2,f3⟩:=fw
 refine Calls.spliced_nil ?_
 refine mr (s:={ s1 with heap:=h1,toks:=tk }) (I1.ok.hd hc) f1 f2 fun h' tk' p out c ks kk hn hp o1 o2 o3=>?_
 have k2:∀ b o,s1.heap.get? b=some o→h'.get? b=some o:=fun b o e=>kk b o (k1 b o e)
 have pn:s1.heap.get? p=none:=by
  cases e:s1.heap.get? p with
  | none=>rfl
  | some o =>
   have:=k1 p o e
   have hn':h1.get? p=none:=hn
   rw[hn']at this
   cases this
 obtain rfl:=Eb h2 f3 o2 o3
 obtain⟨m,F⟩:=I1.fr
 have nL:p≠X.env.locals:=fun z=>by
  obtain⟨o2,es,ep,e3,_⟩:=F.ns
  rw[z,e3]at pn
  cases pn
 have I2:Inv X pins σ (upd H1 p (.lst ((sd2 ns).map V.int))) { s1 with heap:=h',toks:=tk' }:=I1.laidL (fun b o _ e=>k2 b o e) (fun m hm=>hm.at' fun o e=>k2 _ o e) pn nL (fun _ z=>nomatch z) ⟨by rw[MA];exact ME (Ad h2) (by decide),out.toList,c,br o1,by rw[Array.toArray_toList];exact hp⟩
 refine⟨.ref p,_,I2,rfl,q p ?_⟩
 cases e:H1 p with
 | none=>rfl
 | some u =>
  obtain⟨x,hx⟩:=eI (I1.hok p u e)
  rw[pn]at hx
  cases hx
end L2
namespace DL
open PySem PySem.Spec L2
open PyProof.Rows hiding St
theorem nD{K:Ms}{H:Hp}:∀{ns:List Int} {xs:List V},HasL K H xs (ns.map D.int)→xs=ns.map V.int
 | [],_,h=>by cases h;rfl
 | n :: ns,_,h=>by
  cases h with
  | cons a t =>
   cases a
   rw[nD t]
   rfl
theorem nB{K:Ms}{H:Hp}:∀(ns:List Int),HasL K H (ns.map V.int) (ns.map D.int)
 | []=>.nil
 | n :: ns=>.cons (.int n) (nB ns)
def gSs(ds:List D)(M:Mem)(R:DK):Prop:=∃ x ns,ds=[x]∧G5 M x=some (ns.map D.int)∧ns.length≤2∧R (.vl ((sd2 ns).map D.int)) M
def xY(ta:DTA):DTE:=fun e M R=>ta e M fun ds M1=>gSs ds M1 R
theorem qJ{ta:DTA}{e:Ev}{M:Mem}{R:DK}:xY ta e M R=ta e M fun ds M1=>gSs ds M1 R:=rfl
theorem pH{X:Cx}{a:Expr}{ta:DTA}{p1 p2 pos1 pos2:Pos}(hc:X.calm=true)(g1:Gl X "sorted")(n1:X.mg "sorted" = none)(v1:bootBuiltins "sorted" = some (.builtin "sorted"))(g2:Gl X "set")(n2:X.mg "set" = none)(v2:bootBuiltins "set" = some (.type "set"))(h:JA X [a] ta)
  (hs:starEach [a] X.env=[(false,eval a X.env)]:=by rfl) (hs3:starEach [.Call (.Name "set" p2) [a] [] pos2] X.env=[(false,eval (.Call (.Name "set" p2) [a] [] pos2) X.env)]:=by rfl) :
  JE X (.Call (.Name "sorted" p1) [.Call (.Name "set" p2) [a] [] pos2] [] pos1) (xY ta):=⟨have h:=h.out;(bA (pz hc g1 n1 v1 g2 n2 v2 h hs hs3)).imp fun σ H Q ⟨e,M,R,ok,am,t,f⟩=>⟨e,M,_,ok,am,t,fun ds M1 ⟨x,ns,hd,hi,h2,r⟩ vs H1 k1 a1 r1=>by
  subst hd
  obtain⟨v,rfl,hv⟩:=r1.one
  obtain⟨l,us,rfl,sq,lx⟩:=w6 a1 hv hi
  obtain rfl:=nD lx
  exact⟨l,ns,rfl,sq,h2,fun p hp=>bb f k1 a1 (nB (sd2 ns)) r p hp⟩⟩⟩
theorem Fy:bootBuiltins "set" = some (.type "set"):=by decide +kernel
end DL
namespace GM
open PySem PySem.Spec L2 DL
open RM (sz)
noncomputable abbrev Zr:=Rat × Rat
theorem mp{a b:Rat}(h1:0<a)(h2:0<b):0<a*b:=NW h1 h2
theorem cX{v x:Rat}(hv:0<v)(h:0<v*x):0<x:=by
 rcases tot x 0 with z|z
 ·have:0≤v*(-x):=MQ (Q5 hv) (by grind)
  grind
 ·by_cases e:x=0
  ·rw[e]at h;grind
  ·grind
structure Cn2(ss:List T3)(x:Zr):Prop where
 sup:Sup ss x
 two:∃ s t,s∈ss∧t∈ss∧ve s t≠0∧dt s x=s.2.2∧dt t x=t.2.2
theorem Cn2.ng{ss:List T3}(sy:∀ s∈ss,ng s∈ss){x:Zr}(h:Cn2 ss x):Cn2 ss (ngZ x):=by
 obtain⟨hs,s,t,ms,mt,hv,es,et⟩:=h
 refine⟨iU sy hs,GM.ng s,GM.ng t,sy s ms,sy t mt,?_,?_,?_⟩
 ·have:ve (GM.ng s) (GM.ng t)=ve s t:=by unfold ve GM.ng;grind
  rw[this];exact hv
 ·have:dt (GM.ng s) (ngZ x)=dt s x:=by unfold dt GM.ng ngZ;grind
  rw[this,es];rfl
 ·have:dt (GM.ng t) (ngZ x)=dt t x:=by unfold dt GM.ng ngZ;grind
  rw[this,et];rfl
section
variable {ss:List T3} {A:Nat→T3} {k:Nat}
end
section
variable {ss:List T3} {A:Nat→T3} {k:Nat}
end
noncomputable def kp(s:Sd):Rat:=(s.1:Rat) / (s.2.2.1:Rat)
noncomputable def kq(s:Sd):Rat:=(s.2.1:Rat) / (s.2.2.1:Rat)
def Lx(t f:Sd):Prop:=kp t<kp f∨(kp t=kp f∧kq t≤kq f)
theorem Lx.trans{a b c:Sd}(h:Lx a b)(g:Lx b c):Lx a c:=by unfold Lx at *;grind
theorem vA{a b x y:Int}(hx:0<x)(hy:0<y):((a*y - b*x:Int):Rat)=((a:Rat) / (x:Rat) - (b:Rat) / (y:Rat))*((x:Rat)*(y:Rat)):=by
 have h1:(0:Rat)<(x:Rat):=u9.mpr hx
 have h2:(0:Rat)<(y:Rat):=u9.mpr hy
 rw[NU,ML,ML]
 grind
theorem sgn{a b x y:Int}(hx:0<x)(hy:0<y):(0<a*y - b*x↔(b:Rat) / (y:Rat)<(a:Rat) / (x:Rat))∧(a*y - b*x=0↔(b:Rat) / (y:Rat)=(a:Rat) / (x:Rat)):=by
 have e:=vA (a:=a) (b:=b) hx hy
 have p:(0:Rat)<(x:Rat)*(y:Rat):=NW (u9.mpr hx) (u9.mpr hy)
 generalize a*y - b*x=n at *
 generalize (a:Rat) / (x:Rat)=u at *
 generalize (b:Rat) / (y:Rat)=v at *
 generalize (x:Rat)*(y:Rat)=c at *
 constructor
 ·rw[← u9,e]
  constructor
  ·intro h
   have:=cX p (x:=u - v) (by grind)
   grind
  ·intro h
   have:=NW p (show 0<u - v by grind)
   grind
 ·constructor
  ·intro h
   rw[h]at e
   have e:(0:Rat)=(u - v)*c:=e
   grind
  ·intro h
   rw[h]at e
   have e:(n:Rat)=0:=by rw[e];grind
   exact_mod_cast e
theorem Bm{s f:Sd}(hs:0<s.2.2.1)(hf:0<f.2.2.1):(D9 s f=true→Lx f s)∧(¬ D9 s f=true→Lx s f):=by
 obtain⟨a1,a2⟩:=sgn (a:=s.1) (b:=f.1) hs hf
 obtain⟨b1,b2⟩:=sgn (a:=s.2.1) (b:=f.2.1) hs hf
 have k1:kp s=(s.1:Rat) / (s.2.2.1:Rat):=rfl
 have k2:kp f=(f.1:Rat) / (f.2.2.1:Rat):=rfl
 have k3:kq s=(s.2.1:Rat) / (s.2.2.1:Rat):=rfl
 have k4:kq f=(f.2.1:Rat) / (f.2.2.1:Rat):=rfl
 rw[← k1,← k2]at a1 a2
 rw[← k3,← k4]at b1 b2
 unfold D9 Lx
 by_cases c:s.1*f.2.2.1 - f.1*s.2.2.1=0
 ·rw[if_pos c,decide_eq_true_eq]
  have:=a2.mp c
  constructor
  ·intro h;have:=b1.mp h;grind
  ·intro h;rw[b1]at h;grind
 ·rw[if_neg c,decide_eq_true_eq]
  rw[a2]at c
  constructor
  ·intro h;have:=a1.mp h;grind
  ·intro h;rw[a1]at h;grind
theorem jT:∀(ss:List Sd) (f t:Sd),(∀ s∈ss,0<s.2.2.1)→0<f.2.2.1→(t∈ss∨Lx t f)→Lx t (C6 ss f)
 | [],f,t,_,_,h=>by
  rcases h with h|h
  ·cases h
  ·exact h
 | s :: r,f,t,hp,hf,h=>by
  have hs:=hp s Mz
  obtain⟨j1,j2⟩:=Bm hs hf
  have e:C6 (s :: r) f=C6 r (if D9 s f=true then s else f):=rfl
  rw[e]
  by_cases c:D9 s f=true
  ·rw[if_pos c]
   refine jT r s t (fun x hx=>hp x (Mx _ hx)) hs ?_
   rcases h with h|h
   ·rcases Mv.mp h with rfl|h
    ·exact .inr (.inr ⟨rfl,Pa⟩)
    ·exact .inl h
   ·exact .inr (h.trans (j1 c))
  ·rw[if_neg c]
   refine jT r f t (fun x hx=>hp x (Mx _ hx)) hf ?_
   rcases h with h|h
   ·rcases Mv.mp h with rfl|h
    ·exact .inr (j2 c)
    ·exact .inl h
   ·exact .inr h
theorem eps:∀(xs:List (Rat × Rat)),(∀ x∈xs,0≤x.1∧(x.1=0→x.2=0))→∃ e:Rat,0<e∧∀ x∈xs,e*x.2≤x.1∧-(e*x.2)≤x.1
 | [],_=>⟨1,by decide,fun _ h=>nomatch h⟩
 | x :: xs,h=>by
  obtain⟨e,he,hx⟩:=eps xs fun y hy=>h y (Mx _ hy)
  obtain⟨h1,h2⟩:=h x Mz
  by_cases c:x.2=0
  ·refine⟨e,he,fun y hy=>?_⟩
   rcases Mv.mp hy with rfl|hy
   ·rw[c];grind
   ·exact hx y hy
  ·have hp:0<x.1:=by
    by_cases z:x.1=0
    ·exact absurd (h2 z) c
    ·grind
   let m:Rat:=if 0<x.2 then x.2 else -x.2
   have hm:0<m:=by show 0<(if 0<x.2 then x.2 else -x.2);split<;>grind
   have hd:0<x.1 / m:=by
    have e1:x.1 / m*m=x.1:=Nk (D6 hm)
    exact cX hm (by rw[Ow,e1];exact hp)
   have e1:x.1 / m*m=x.1:=Nk (D6 hm)
   have mle:x.2≤m∧-x.2≤m:=by
    show x.2≤(if 0<x.2 then x.2 else -x.2)∧-x.2≤(if 0<x.2 then x.2 else -x.2)
    split<;>constructor<;>grind
   generalize m=w at *
   have small:∀ f:Rat,0<f→f≤x.1 / w→f*x.2≤x.1∧-(f*x.2)≤x.1:=fun f f0 f1=>by
    have a1:0≤f*(w - x.2):=MQ (Q5 f0) (by grind)
    have a2:0≤f*(w+x.2):=MQ (Q5 f0) (by grind)
    have a3:0≤(x.1 / w - f)*w:=MQ (by grind) (Q5 hm)
    constructor<;>grind
   have scale:∀ f:Rat,0<f→f≤e→∀ y∈xs,f*y.2≤y.1∧-(f*y.2)≤y.1:=fun f f0 f1 y hy=>by
    obtain⟨b1,b2⟩:=hx y hy
    have y0:=(h y (Mx _ hy)).1
    rcases tot 0 y.2 with c|c
    ·have a1:0≤(e - f)*y.2:=MQ (by grind) c
     have a2:0≤f*y.2:=MQ (Q5 f0) c
     constructor<;>grind
    ·have a1:0≤(e - f) * -y.2:=MQ (by grind) (by grind)
     have a2:0≤f * -y.2:=MQ (Q5 f0) (by grind)
     constructor<;>grind
   rcases tot e (x.1 / w)with c2|c2
   ·refine⟨e,he,fun y hy=>?_⟩
    rcases Mv.mp hy with rfl|hy
    ·exact small e he c2
    ·exact hx y hy
   ·refine⟨x.1 / w,hd,fun y hy=>?_⟩
    rcases Mv.mp hy with rfl|hy
    ·exact small _ hd Pa
    ·exact scale _ hd c2 y hy
theorem vF{ls:List T3}(hok:∀ l∈ls,LineOk l):∀ s∈(f6 ls).map tri,¬ (s.1=0∧s.2.1=0):=fun s hs ⟨z1,z2⟩=>by
 obtain⟨t,ht,rfl⟩:=MD.mp hs
 obtain⟨c,hc,k,ec⟩:=C4 ht
 have cp:=E3 c
 have:(tri (g6 c k)).1=0∧(tri (g6 c k)).2.1=0:=by
  rcases ec with rfl|rfl
  ·exact⟨z1,z2⟩
  ·rw[B1]at z1 z2
   unfold ng at z1 z2
   exact⟨by grind,by grind⟩
 rw[C2]at this
 have t1:c.1*(cbL c:Rat)=0:=this.1
 have t2:c.2.1*(cbL c:Rat)=0:=this.2
 exact(hok c hc).ne ⟨by grind,by grind⟩
noncomputable def cb2(p q:Rat):Nat:=A3 (A3 1 p.den) q.den
theorem pT(p q:Rat):cb2 p q=Rc p.den q.den:=by
 unfold cb2;rw[Q6,Q6,Nat.lcm_comm 1,Nat.lcm_one_right]
theorem bh(p q:Rat):0<cb2 p q:=by rw[pT];exact Pr p.den_pos q.den_pos
theorem Im(p q:Rat):p.den ∣ cb2 p q:=by rw[pT];exact OO _ _
theorem Il(p q:Rat):q.den ∣ cb2 p q:=by rw[pT];exact Pn _ _
noncomputable def wtF(p q:Rat):Int × Int:=(O5 p (cb2 p q),O5 q (cb2 p q))
noncomputable def veW(a:Sd)(w:Int × Int):Int:=a.1*w.2 - a.2.1*w.1
noncomputable def wVe(w:Int × Int)(b:Sd):Int:=w.1*b.2.1 - w.2*b.1
noncomputable def cy(half:List Sd):List Sd:=half++half.map i9
noncomputable def cF(xs:List Sd):List (Sd × Sd):=xs.zip (xs.drop 1++xs.take 1)
noncomputable def bo(w:Int × Int)(f:Option (Sd × Sd))(ab:Sd × Sd):Option (Sd × Sd):=if 0≤veW ab.1 w∧0<wVe w ab.2 then some ab else f
noncomputable def kS(half:List Sd)(w:Int × Int):Option (Sd × Sd):=(cF (cy half)).foldl (bo w) none
theorem nU{w:Int × Int}:∀(l:List (Sd × Sd)) (f:Option (Sd × Sd)),(∀ ab,l.foldl (bo w) f=some ab→f=some ab∨(ab∈l∧0≤veW ab.1 w∧0<wVe w ab.2))∧((f≠none ∨ ∃ ab∈l,0≤veW ab.1 w∧0<wVe w ab.2)→l.foldl (bo w) f≠none)
 | [],f=>⟨fun ab h=>.inl h,fun h=>by
  rcases h with h|⟨ab,h,_⟩
  ·exact h
  ·cases h⟩
 | x :: l,f=>by
  obtain⟨i1,i2⟩:=nU (w:=w) l (bo w f x)
  rw[QX]
  refine⟨fun ab h=>?_,fun h=>i2 ?_⟩
  ·rcases i1 ab h with e|⟨m,c⟩
   ·unfold bo at e
    split at e
    ·rename_i c;cases e;exact .inr ⟨Mz,c⟩
    ·exact .inl e
   ·exact .inr ⟨Mx _ m,c⟩
  ·by_cases c:0≤veW x.1 w∧0<wVe w x.2
   ·left;unfold bo;rw[if_pos c];exact fun z=>nomatch z
   ·rcases h with h|⟨ab,hm,hc⟩
    ·left;unfold bo;rw[if_neg c];exact h
    ·rcases Mv.mp hm with rfl|hm
     ·exact absurd hc c
     ·exact .inr ⟨ab,hm,hc⟩
theorem sC(l m:List Sd):(l.map i9).zip (m.map i9)=(l.zip m).map fun ab=>(i9 ab.1,i9 ab.2):=J6 i9 l m
theorem rY(h0:Sd)(l:List Sd):cF (cy (h0 :: l))=(h0 :: l).zip (l++[i9 h0])++((h0 :: l).zip (l++[i9 h0])).map fun ab=>(i9 ab.1,i9 ab.2):=by
 unfold cF cy
 have e1:(h0 :: l++(h0 :: l).map i9).drop 1++(h0 :: l++(h0 :: l).map i9).take 1=(l++[i9 h0])++(l++[i9 h0]).map i9:=by
  show(l++(i9 h0 :: l.map i9))++[h0]=_
  rw[MR,Ni,Od,rO]
  simp
 rw[e1,List.zip_append (by rw[Ng,Nu];rfl),sC]
theorem Rim.arnd{ss:List T3}{h0:T3}{l:List T3}(R:Rim ss h0 l)(w:T3)(hw:¬ (w.1=0∧w.2.1=0)) :
  ∃ ab∈eQ h0 l,(0≤ve ab.1 w∧0<ve w ab.2)∨(0≤ve (ng ab.1) w∧0<ve w (ng ab.2)):=by
 have e0:ve w (ng h0)=ve h0 w:=by unfold ve ng;grind
 have e1:ve (ng h0) w = -ve h0 w:=by unfold ve ng;grind
 by_cases c1:0<ve h0 w
 ·obtain⟨ab,hm,k1,k2⟩:=oh h0 l (ng h0) (Q5 c1) (by rw[e0];exact c1)
  exact⟨ab,hm,.inl ⟨k1,k2⟩⟩
 by_cases c2:ve h0 w<0
 ·have e2:ve w h0 = -ve h0 w:=by unfold ve;grind
  obtain⟨ab,hm,k1,k2⟩:=oh (w:=w) (ng h0) (l.map ng) h0 (by rw[e1];grind) (by rw[e2];grind)
  have em:ab∈((h0 :: l).map ng).zip ((l++[ng h0]).map ng):=by
   rw[MR,Ni,Ni,Od,CZ];exact hm
  rw[J6]at em
  obtain⟨cd,hcd,rfl⟩:=MD.mp em
  exact⟨cd,hcd,.inr ⟨k1,k2⟩⟩
 ·have c0:ve h0 w=0:=by grind
  cases l with
  | nil=>exact absurd rfl R.ne
  | cons x l =>
   have hm:(h0,x)∈eQ h0 (x :: l):=Mz
   obtain⟨q1,q2,q3,q4⟩:=R.all _ hm
   have q3:0<ve h0 x:=q3
   by_cases k:0<ve w x
   ·exact⟨_,hm,.inl ⟨by show 0≤ve h0 w;rw[c0];exact Pa,k⟩⟩
   ·refine⟨_,hm,.inr ⟨by show 0≤ve (ng h0) w;rw[e1,c0];exact Pa,?_⟩⟩
    show 0<ve w (ng x)
    have ex:ve w (ng x) = -ve w x:=by unfold ve ng;grind
    rw[ex]
    have hne:ve w x≠0:=fun z=>hw (by
     unfold ve at c0 z q3
     have i1:w.1*(h0.1*x.2.1 - h0.2.1*x.1)=0:=by
      have:w.1*(h0.1*x.2.1 - h0.2.1*x.1)=h0.1*(w.1*x.2.1 - w.2.1*x.1)+x.1*(h0.1*w.2.1 - h0.2.1*w.1):=by grind
      rw[this,z,c0];grind
     have i2:w.2.1*(h0.1*x.2.1 - h0.2.1*x.1)=0:=by
      have:w.2.1*(h0.1*x.2.1 - h0.2.1*x.1)=h0.2.1*(w.1*x.2.1 - w.2.1*x.1)+x.2.1*(h0.1*w.2.1 - h0.2.1*w.1):=by grind
      rw[this,z,c0];grind
     have hv:h0.1*x.2.1 - h0.2.1*x.1≠0:=by grind
     exact⟨by grind,by grind⟩)
    grind
noncomputable def wT(w:Int × Int):T3:=((w.1:Rat),(w.2:Rat),0)
theorem oj(a:Sd)(w:Int × Int):ve (tri a) (wT w)=(veW a w:Rat):=by
 unfold ve tri wT veW
 rw[NU,ML,ML]
theorem oi(w:Int × Int)(b:Sd):ve (wT w) (tri b)=(wVe w b:Rat):=by
 unfold ve tri wT wVe
 rw[NU,ML,ML]
structure Arn(ls:List T3)(w:Int × Int)(a b:Sd):Prop where
 ma:a∈f6 ls
 mb:b∈f6 ls
 ve:0<veZ a b
 sup:Sup ((f6 ls).map tri) (ry (tri a) (tri b))
 ka:0≤veW a w
 kb:0<wVe w b
theorem bj{ls:List T3}(hok:∀ l∈ls,LineOk l){h0 x:Sd}{l:List Sd}(e:G7 (f6 ls)=h0 :: x :: l){w:Int × Int}(hw:¬ (w.1=0∧w.2=0)):∃ a b,kS (h0 :: x :: l) w=some (a,b)∧Arn ls w a b:=by
 have sy:∀ s∈f6 ls,i9 s∈f6 ls:=iZ (ls:=ls) (i:=0)
 have hne:ls≠[]:=fun z=>by rw[z]at e;cases e
 obtain⟨g0,m,e',m0,h⟩:=F5 hok hne
 rw[e]at e'
 cases e'
 rcases h with⟨z,_⟩|⟨_,R,hE⟩
 ·cases z
 generalize x :: l=L at *
 have ed:eQ (tri h0) (L.map tri)=((h0 :: L).zip (L++[i9 h0])).map fun ab=>(tri ab.1,tri ab.2):=by
  unfold eQ
  rw[← J6,Ni,MR,Ni,Od,B1]
 have hw':¬ ((wT w).1=0∧(wT w).2.1=0):=fun⟨z1,z2⟩=>hw ⟨by have z1:(w.1:Rat)=0:=z1;exact_mod_cast z1,by have z2:(w.2:Rat)=0:=z2;exact_mod_cast z2⟩
 obtain⟨i1,i2⟩:=nU (w:=w) (cF (cy (h0 :: L))) none
 have ex:∃ ab∈cF (cy (h0 :: L)),0≤veW ab.1 w∧0<wVe w ab.2:=by
  obtain⟨ab,hm,hc⟩:=R.arnd (wT w) hw'
  rw[ed]at hm
  obtain⟨cd,hcd,rfl⟩:=MD.mp hm
  rw[rY]
  rcases hc with⟨k1,k2⟩|⟨k1,k2⟩
  ·refine⟨cd,NB _ hcd,?_,?_⟩
   ·have k1:0≤ve (tri cd.1) (wT w):=k1
    rw[oj]at k1;exact nR.mp k1
   ·have k2:0<ve (wT w) (tri cd.2):=k2
    rw[oi]at k2;exact u9.mp k2
  ·refine⟨(i9 cd.1,i9 cd.2),MT _ (MD.mpr ⟨cd,hcd,rfl⟩),?_,?_⟩
   ·have k1:0≤ve (ng (tri cd.1)) (wT w):=k1
    rw[← B1,oj]at k1;exact nR.mp k1
   ·have k2:0<ve (wT w) (ng (tri cd.2)):=k2
    rw[← B1,oi]at k2;exact u9.mp k2
 obtain⟨⟨a,b⟩,eab⟩:=Option.ne_none_iff_exists'.mp (i2 (.inr ex))
 refine⟨a,b,eab,?_⟩
 rcases i1 _ eab with z|⟨hm,k1,k2⟩
 ·cases z
 rw[rY]at hm
 have supE:∀ ab∈(h0 :: L).zip (L++[i9 h0]),Sup ((f6 ls).map tri) (ry (tri ab.1) (tri ab.2)):=fun ab h=>by
  have hm:(tri ab.1,tri ab.2)∈eQ (tri h0) (L.map tri):=by
   rw[ed];exact MD.mpr ⟨ab,h,rfl⟩
  exact(R.all _ hm).2.2.2
 clear i1 i2 eab ex
 rcases MX.mp hm with hm|hm
 ·have q:=hE (a,b) hm
  have sq:=supE (a,b) hm
  exact⟨q.1,q.2.1,q.2.2,sq,k1,k2⟩
 ·obtain⟨cd,hcd,ec⟩:=MD.mp hm
  obtain⟨q1,q2,q3⟩:=hE _ hcd
  have ea:a=i9 cd.1:=(congrArg Prod.fst ec).symm
  have eb:b=i9 cd.2:=(congrArg Prod.snd ec).symm
  subst ea eb
  refine⟨sy _ q1,sy _ q2,?_,?_,k1,k2⟩
  ·have:veZ (i9 cd.1) (i9 cd.2)=veZ cd.1 cd.2:=by unfold veZ i9;grind
   rw[this];exact q3
  ·rw[B1,B1,wa];exact iU R.sy (supE _ hcd)
inductive N3
 | free (z:Zr)
 | most (v:Rat) (z:Zr) (sh:List (Int × Rat))
noncomputable def shD(s:Int × Rat):D:=.tup [.int s.1,e7 s.2]
noncomputable def N3.toD:N3→D
 | .free z=>.tup [.str "free",rD z]
 | .most v z sh=>.tup [.str "most",e7 v,rD z,.vl (sh.map shD)]
noncomputable def dQ:List (Int × Rat)→List (Int × Rat)
 | [x,y]=>if y.1<x.1 then[y,x]else[x,y]
 | l=>l
noncomputable def shF(a b:Sd)(w:Int × Int)(c:Nat):List (Int × Rat):=dQ ([(a.2.2.2.1,MZ (wVe w b*a.2.2.2.2) (c*veZ a b)),(b.2.2.2.1,MZ (veW a w*b.2.2.2.2) (c*veZ a b))].filter fun s=>decide (s.2≠0))
noncomputable def vlF(a b:Sd)(w:Int × Int)(c:Nat):Rat:=MZ (wVe w b*a.2.2.1+veW a w*b.2.2.1) (c*veZ a b)
noncomputable def Dz(half:List Sd)(p q:Rat):N3:=match kS half (wtF p q)with
 | none=>.free (0,0)
 | some (a,b)=>.most (vlF a b (wtF p q) (cb2 p q)) (ry (tri a) (tri b)) (shF a b (wtF p q) (cb2 p q))
noncomputable def sqZ(p q:Rat):Rat:=p*p+q*q
noncomputable def F6(l:T3)(n:Int)(p q:Rat):N3 :=
 if l.1*q - p*l.2.1<0 then .free (l.2.1,-l.1)else if 0<l.1*q - p*l.2.1 then .free (-l.2.1,l.1)else
 .most (j4 (if l.1=0 then q / l.2.1 else p / l.1)*l.2.2) (p*(j4 (if l.1=0 then q / l.2.1 else p / l.1)*l.2.2 / sqZ p q),q*(j4 (if l.1=0 then q / l.2.1 else p / l.1)*l.2.2 / sqZ p q)) [(n,if l.1=0 then q / l.2.1 else p / l.1)]
noncomputable def K6(ls:List T3)(p q:Rat):N3:=if p=0∧q=0 then .most 0 (0,0) []else match G7 (f6 ls)with
 | []=>.free (p,q)
 | [h]=>F6 (ls.getD h.2.2.2.1.toNat (0,0,0)) h.2.2.2.1 p q
 | half=>Dz half p q
theorem cK{s:Sd}:∀{ls:List T3} {i:Nat},s∈L6 i ls→∃ j l,ls[j]? = some l∧(s=g6 l (i+j)∨s=i9 (g6 l (i+j)))
 | [],_,h=>by cases h
 | a :: r,i,h=>by
  have h:s∈g6 a i :: i9 (g6 a i) :: L6 (i+1) r:=h
  rcases Mv.mp h with rfl|h
  ·exact⟨0,a,rfl,.inl rfl⟩
  ·rcases Mv.mp h with rfl|h
   ·exact⟨0,a,rfl,.inr rfl⟩
   ·obtain⟨j,l,e,q⟩:=cK h
    exact⟨j+1,l,e,by rw[show i+(j+1)=i+1+j by omega];exact q⟩
theorem rq{ls:List T3}{a b:Sd}(ha:a∈f6 ls)(hb:b∈f6 ls)(hv:veZ a b≠0):a.2.2.2.1≠b.2.2.2.1:=fun e=>by
 obtain⟨i,l,e1,h1⟩:=cK (i:=0) ha
 obtain⟨j,m,e2,h2⟩:=cK (i:=0) hb
 have n1:a.2.2.2.1=((0+i:Nat):Int):=by rcases h1 with h|h<;>rw[h]<;>rfl
 have n2:b.2.2.2.1=((0+j:Nat):Int):=by rcases h2 with h|h<;>rw[h]<;>rfl
 obtain rfl:i=j:=by omega
 rw[e1]at e2
 cases e2
 refine hv ?_
 rcases h1 with h|h<;>rcases h2 with h'|h'<;>(rw[h,h'];unfold veZ;first|(unfold i9;grind)|grind)
theorem iQ(p q:Rat):((wtF p q).1:Rat)=p*(cb2 p q:Rat)∧((wtF p q).2:Rat)=q*(cb2 p q:Rat):=⟨aj (Im p q),aj (Il p q)⟩
theorem qS{p q:Rat}(h:¬ (p=0∧q=0)):¬ ((wtF p q).1=0∧(wtF p q).2=0):=fun⟨z1,z2⟩=>by
 obtain⟨e1,e2⟩:=iQ p q
 have c:(0:Rat)<(cb2 p q:Rat):=by exact_mod_cast bh p q
 rw[z1]at e1
 rw[z2]at e2
 have e1:(0:Rat)=p*(cb2 p q:Rat):=e1
 have e2:(0:Rat)=q*(cb2 p q:Rat):=e2
 generalize (cb2 p q:Rat)=k at *
 exact h ⟨by grind,by grind⟩
theorem su{ls:List T3}{p q:Rat}{a b:Sd}(A:Arn ls (wtF p q) a b) :
  vlF a b (wtF p q) (cb2 p q)=p*(ry (tri a) (tri b)).1+q*(ry (tri a) (tri b)).2∧∀ z,Sup ((f6 ls).map tri) z→p*z.1+q*z.2≤p*(ry (tri a) (tri b)).1+q*(ry (tri a) (tri b)).2:=by
 obtain⟨e1,e2⟩:=iQ p q
 have c:(0:Rat)<(cb2 p q:Rat):=by exact_mod_cast bh p q
 have V:(0:Rat)<ve (tri a) (tri b):=by rw[v6];exact u9.mpr A.ve
 have ka:(0:Rat)≤ve (tri a) (wT (wtF p q)):=by rw[oj];exact nR.mpr A.ka
 have kb:(0:Rat)<ve (wT (wtF p q)) (tri b):=by rw[oi];exact u9.mpr A.kb
 have dw:∀ z:Zr,dt (wT (wtF p q)) z=(p*z.1+q*z.2)*(cb2 p q:Rat):=fun z=>by
  unfold dt wT
  show((wtF p q).1:Rat)*z.1+((wtF p q).2:Rat)*z.2=_
  rw[e1,e2];grind
 have bt:=X1 (w:=wT (wtF p q)) V (ry (tri a) (tri b))
 rw[Am (D6 V),wc (D6 V),dw]at bt
 constructor
 ·unfold vlF
  rw[t4,OD,ML,ML,ML,Nq,← v6,← oi,← oj]
  have r1:(tri a).2.2=(a.2.2.1:Rat):=rfl
  have r2:(tri b).2.2=(b.2.2.1:Rat):=rfl
  rw[← r1,← r2,← bt]
  have hz:∀ v k m:Rat,0<v→0<k→v*(m*k) / (k*v)=m:=fun v k m h1 h2=>by
   have:v*(m*k)=m*(k*v):=by grind
   rw[this,OF (D6 (NW h2 h1))]
  exact hz _ _ _ V c
 ·intro z hz
  have b2:=X1 (w:=wT (wtF p q)) V z
  rw[dw]at b2
  have s1:=hz (tri a) (MD.mpr ⟨a,A.ma,rfl⟩)
  have s2:=hz (tri b) (MD.mpr ⟨b,A.mb,rfl⟩)
  have p1:0≤ve (wT (wtF p q)) (tri b)*((tri a).2.2 - dt (tri a) z):=MQ (Q5 kb) (by grind)
  have p2:0≤ve (tri a) (wT (wtF p q))*((tri b).2.2 - dt (tri b) z):=MQ ka (by grind)
  have p3:0≤ve (tri a) (tri b)*(((p*(ry (tri a) (tri b)).1+q*(ry (tri a) (tri b)).2) - (p*z.1+q*z.2))*(cb2 p q:Rat)):=by grind
  have p4:=K3 V p3
  have p5:=K3 c (x:=(p*(ry (tri a) (tri b)).1+q*(ry (tri a) (tri b)).2) - (p*z.1+q*z.2)) (by grind)
  grind
theorem Bw{ls:List T3}(hok:∀ l∈ls,LineOk l){h0:Sd}{l:List Sd}(e:G7 (f6 ls)=h0 :: l):∀ t∈f6 ls,Lx t h0:=by
 have hp:∀ s∈f6 ls,0<s.2.2.1:=cI hok (i:=0)
 cases es:f6 ls with
 | nil=>rw[es]at e;cases e
 | cons s r =>
  rw[es]at e hp
  have e2:G7 (s :: r)=C6 (s :: r) s :: Q3 (C6 (s :: r) s) (s :: r) (s :: r).length (K5 (C6 (s :: r) s) (s :: r)):=rfl
  rw[e2]at e
  injection e with e3 e4
  intro t ht
  rw[← e3]
  exact jT (s :: r) s t hp (hp s Mz) (.inl ht)
theorem xg{s:Sd}(h:0<s.2.2.1):(tri s).1=kp s*(tri s).2.2∧(tri s).2.1=kq s*(tri s).2.2:=by
 have:(0:Rat)<(s.2.2.1:Rat):=u9.mpr h
 unfold kp kq tri
 exact⟨by show(s.1:Rat)=_;grind,by show(s.2.1:Rat)=_;grind⟩
theorem xh(s:Sd):kp (i9 s) = -kp s∧kq (i9 s) = -kq s:=by
 have e1:kp (i9 s)=((-s.1:Int):Rat) / (s.2.2.1:Rat):=rfl
 have e2:kq (i9 s)=((-s.2.1:Int):Rat) / (s.2.2.1:Rat):=rfl
 rw[e1,e2,OE,OE,Oi,Oi,Pc,Pc,← Oi,← Oi]
 exact⟨rfl,rfl⟩
theorem FH{ss:List Sd}{h0:Sd}(m0:h0∈ss)(hp:∀ s∈ss,0<s.2.2.1)(sy:∀ s∈ss,i9 s∈ss)(lx:∀ t∈ss,Lx t h0)(al:∀ s∈ss,veZ h0 s=0)(nz:¬ ((tri h0).1=0∧(tri h0).2.1=0)){z:Zr}(hz:dt (tri h0) z=(tri h0).2.2∨dt (tri h0) z = -(tri h0).2.2):Sup (ss.map tri) z:=fun s hs=>by
 obtain⟨t,ht,rfl⟩:=MD.mp hs
 have r0:(0:Rat)<(tri h0).2.2:=u9.mpr (hp h0 m0)
 have rt:(0:Rat)<(tri t).2.2:=u9.mpr (hp t ht)
 obtain⟨a1,a2⟩:=xg (hp h0 m0)
 obtain⟨b1,b2⟩:=xg (hp t ht)
 obtain⟨f1,f2⟩:=xh h0
 obtain⟨g1,g2⟩:=xh t
 have l0:=lx _ (sy h0 m0)
 have l1:=lx t ht
 have l2:=lx _ (sy t ht)
 have v:ve (tri h0) (tri t)=0:=by rw[v6,al t ht];rfl
 unfold Lx at l0 l1 l2
 rw[f1,f2]at l0
 rw[g1,g2]at l2
 unfold ve at v
 generalize kp h0=hp' at *
 generalize kq h0=hq' at *
 generalize kp t=tp at *
 generalize kq t=tq at *
 unfold dt at hz ⊢
 generalize (tri h0).2.2=R at *
 generalize (tri t).2.2=T at *
 rw[a1,a2,b1,b2]at v
 rw[a1,a2]at hz nz
 rw[b1,b2]
 clear a1 a2 b1 b2 f1 f2 g1 g2 lx al sy hp hs
 have v':hp'*tq - hq'*tp=0:=by
  have:(R*T)*(hp'*tq - hq'*tp)=0:=by grind
  have hRT:=D6 (NW r0 rt)
  generalize R*T=c at *
  grind
 have hz':hp'*z.1+hq'*z.2=1∨hp'*z.1+hq'*z.2 = -1:=by
  rcases hz with h|h
  ·left;grind
  ·right;grind
 have goal:tp*z.1+tq*z.2≤1→tp*T*z.1+tq*T*z.2≤T:=fun h=>by
  have:0≤T*(1 - (tp*z.1+tq*z.2)):=MQ (Q5 rt) (by grind)
  grind
 apply goal
 clear goal hz r0 rt
 by_cases c:0<hp'
 ·have e:hp'*(tp*z.1+tq*z.2)=tp*(hp'*z.1+hq'*z.2):=by grind
  have le1:tp≤hp':=by grind
  have le2:-tp≤hp':=by grind
  have:0≤hp'*(1 - (tp*z.1+tq*z.2)):=by
   rcases hz' with h|h<;>rw[h]at e<;>grind
  have:=K3 c this
  grind
 ·have e0:hp'=0:=by grind
  have q0:0<hq':=by
   have h1:0≤hq':=by grind
   have h2:hq'≠0:=fun w=>nz ⟨by rw[e0];grind,by rw[w];grind⟩
   grind
  have t0:tp=0:=by
   rw[e0]at v'
   have:hq'*tp=0:=by grind
   grind
  have le1:tq≤hq':=by grind
  have le2:-tq≤hq':=by grind
  rw[e0]at hz'
  rw[t0]
  have:0≤hq'*(1 - (0*z.1+tq*z.2)):=by
   rcases hz' with h|h
   ·have e:hq'*(tq*z.2)=tq*(0*z.1+hq'*z.2):=by grind
    rw[h]at e;grind
   ·have e:hq'*(tq*z.2)=tq*(0*z.1+hq'*z.2):=by grind
    rw[h]at e;grind
  have:=K3 q0 this
  grind
structure kY(ls:List T3)(p q:Rat)(m:N3):Prop where
 free:∀ z,m = .free z→¬ (p=0∧q=0)∧G3 ls∧(∀ l∈ls,l.1*z.1+l.2.1*z.2=0)∧0<p*z.1+q*z.2∧∀ l∈ls,l.1*q - p*l.2.1≠0
 most:∀ v z sh,m = .most v z sh→E6 ls z.1 z.2=true∧v=p*z.1+q*z.2∧(∀ y u,E6 ls y u=true→p*y+q*u≤v)∧((p=0∧q=0)∨(G3 ls∧∃ l∈ls,l.1*q - p*l.2.1=0)∨Cn2 ((f6 ls).map tri) z)
theorem Ht{ls:List T3}(hok:∀ l∈ls,LineOk l):E6 ls 0 0=true:=by
 unfold E6
 rw[NG]
 intro l hl
 rw[K8]
 have:=(hok l hl).pos
 constructor<;>grind
theorem A8(s:Rat):(0≤s∧j4 s=s)∨(s<0∧j4 s = -s):=by
 unfold j4
 split
 ·exact .inl ⟨by assumption,rfl⟩
 ·exact .inr ⟨by grind,rfl⟩
theorem iV{p q:Rat}(h:¬ (p=0∧q=0)):0<sqZ p q:=by
 have s:∀ x:Rat,0≤x*x:=fun x=>by
  rcases tot 0 x with h|h
  ·exact MQ h h
  ·have:=MQ (show 0 ≤ -x by grind) (show 0 ≤ -x by grind)
   grind
 have s1:=s p
 have s2:=s q
 unfold sqZ
 by_cases c:p=0
 ·by_cases d:q=0
  ·exact absurd ⟨c,d⟩ h
  ·have:q*q≠0:=fun z=>d (by grind)
   grind
 ·have:p*p≠0:=fun z=>c (by grind)
  grind
theorem pW{ls:List T3}(hok:∀ l∈ls,LineOk l){l:T3}(hl:l∈ls){n:Int}{h0:Sd}{j:Nat}(e:G7 (f6 ls)=[h0])(eh:h0=g6 l j∨h0=i9 (g6 l j))(m0:h0∈f6 ls)(al0:∀ s∈f6 ls,veZ h0 s=0)(al:G3 ls){p q:Rat}(hpq:¬ (p=0∧q=0)):kY ls p q (F6 l n p q):=by
 have ok:=hok l hl
 have rl:=ok.pos
 have cp:=E3 l
 have other:∀ m∈ls,m.1*l.2.1=l.1*m.2.1:=fun m hm=>al m hm l hl
 have nob:l.1*q - p*l.2.1≠0→∀ m∈ls,m.1*q - p*m.2.1≠0:=fun hb m hm z=>by
  have a1:=other m hm
  have mn:=(hok m hm).ne
  have e1:m.1*(l.1*q - p*l.2.1)=0:=by
   have:m.1*(l.1*q - p*l.2.1)=l.1*(m.1*q - p*m.2.1)+p*(l.1*m.2.1 - m.1*l.2.1):=by grind
   rw[this,z,a1];grind
  have e2:m.2.1*(l.1*q - p*l.2.1)=0:=by
   have:m.2.1*(l.1*q - p*l.2.1)=l.2.1*(m.1*q - p*m.2.1)+q*(l.1*m.2.1 - m.1*l.2.1):=by grind
   rw[this,z,a1];grind
  generalize l.1*q - p*l.2.1=b at *
  exact mn ⟨by grind,by grind⟩
 unfold F6
 by_cases c1:l.1*q - p*l.2.1<0
 ·rw[if_pos c1]
  refine⟨fun z hz=>?_,fun v z sh hz=>by cases hz⟩
  cases hz
  exact⟨hpq,al,fun m hm=>by have:=other m hm;show m.1*l.2.1+m.2.1 * -l.1=0;grind,by show 0<p*l.2.1+q * -l.1;grind,nob (by grind)⟩
 rw[if_neg c1]
 by_cases c2:0<l.1*q - p*l.2.1
 ·rw[if_pos c2]
  refine⟨fun z hz=>?_,fun v z sh hz=>by cases hz⟩
  cases hz
  exact⟨hpq,al,fun m hm=>by have:=other m hm;show m.1 * -l.2.1+m.2.1*l.1=0;grind,by show 0<p * -l.2.1+q*l.1;grind,nob (by grind)⟩
 rw[if_neg c2]
 have c0:l.1*q - p*l.2.1=0:=by grind
 obtain⟨s,es,ep,eq⟩:∃ s:Rat,(if l.1=0 then q / l.2.1 else p / l.1)=s∧p=s*l.1∧q=s*l.2.1:=by
  by_cases z:l.1=0
  ·have n2:l.2.1≠0:=fun w=>ok.ne ⟨z,w⟩
   rw[if_pos z]
   refine⟨q / l.2.1,rfl,?_,?_⟩
   ·rw[z]at c0 ⊢
    have:p*l.2.1=0:=by grind
    grind
   ·grind
  ·rw[if_neg z]
   exact⟨p / l.1,rfl,by grind,by grind⟩
 rw[es]
 have sq:=iV hpq
 have s0:s≠0:=fun w=>hpq ⟨by rw[ep,w];grind,by rw[eq,w];grind⟩
 refine⟨fun z hz=>(by cases hz),fun v z sh hz=>?_⟩
 cases hz
 have k1:j4 s*l.2.2 / sqZ p q*sqZ p q=j4 s*l.2.2:=Nk (D6 sq)
 have val:p*(p*(j4 s*l.2.2 / sqZ p q))+q*(q*(j4 s*l.2.2 / sqZ p q))=j4 s*l.2.2:=by
  have:p*(p*(j4 s*l.2.2 / sqZ p q))+q*(q*(j4 s*l.2.2 / sqZ p q))=j4 s*l.2.2 / sqZ p q*sqZ p q:=by
   generalize j4 s*l.2.2 / sqZ p q=k
   unfold sqZ;grind
  rw[this,k1]
 have lz:s*(l.1*(p*(j4 s*l.2.2 / sqZ p q))+l.2.1*(q*(j4 s*l.2.2 / sqZ p q)))=j4 s*l.2.2:=by
  have g:∀ k:Rat,s*(l.1*(p*k)+l.2.1*(q*k))=(s*l.1)*(p*k)+(s*l.2.1)*(q*k):=fun k=>by grind
  rw[g,← ep,← eq,val]
 have ends:l.1*(p*(j4 s*l.2.2 / sqZ p q))+l.2.1*(q*(j4 s*l.2.2 / sqZ p q))=l.2.2∨l.1*(p*(j4 s*l.2.2 / sqZ p q))+l.2.1*(q*(j4 s*l.2.2 / sqZ p q)) = -l.2.2:=by
  generalize l.1*(p*(j4 s*l.2.2 / sqZ p q))+l.2.1*(q*(j4 s*l.2.2 / sqZ p q))=m at *
  rcases A8 s with⟨h,w⟩|⟨h,w⟩
  ·left;rw[w]at lz;grind
  ·right;rw[w]at lz;grind
 refine⟨?_,val.symm,fun y u hy=>?_,.inr (.inl ⟨al,l,hl,c0⟩)⟩
 ·rw[← cH]
  refine FH m0 (cI hok (i:=0)) (iZ (ls:=ls) (i:=0)) (Bw hok e) al0 (vF hok _ (MD.mpr ⟨h0,m0,rfl⟩)) ?_
  have d1:=df l j (p*(j4 s*l.2.2 / sqZ p q),q*(j4 s*l.2.2 / sqZ p q))
  have rr:(tri (g6 l j)).2.2=l.2.2*(cbL l:Rat):=by rw[C2]
  have d1:dt (tri (g6 l j)) (p*(j4 s*l.2.2 / sqZ p q),q*(j4 s*l.2.2 / sqZ p q))=(l.1*(p*(j4 s*l.2.2 / sqZ p q))+l.2.1*(q*(j4 s*l.2.2 / sqZ p q)))*(cbL l:Rat):=d1
  rcases eh with rfl|rfl
  ·rw[d1,rr]
   rcases ends with h|h
   ·left;rw[h]
   ·right;rw[h,Pc]
  ·have r2:(tri (i9 (g6 l j))).2.2=l.2.2*(cbL l:Rat):=rr
   rw[pL,d1,r2]
   rcases ends with h|h
   ·right;rw[h]
   ·left;rw[h,Pc,QS]
 ·unfold E6 at hy
  rw[NG]at hy
  have b:=(K8 l y u).mp (hy l hl)
  have e1:p*y+q*u=s*(l.1*y+l.2.1*u):=by rw[ep,eq];grind
  rw[e1]
  generalize l.1*y+l.2.1*u=m at *
  rcases A8 s with⟨h,w⟩|⟨h,w⟩
  ·rw[w]
   have:0≤s*(l.2.2 - m):=MQ h (by grind)
   grind
  ·rw[w]
   have:0 ≤ -s*(l.2.2+m):=MQ (by grind) (by grind)
   grind
theorem S4{ls:List T3}{h:Sd}(hm:h∈f6 ls):∃(l:T3) (j:Nat),ls[j]? = some l∧h.2.2.2.1=(j:Int)∧(h=g6 l j∨h=i9 (g6 l j)):=by
 obtain⟨j,l,e,q⟩:=cK (i:=0) hm
 rw[QH]at q
 exact⟨l,j,e,by rcases q with q|q<;>rw[q]<;>rfl,q⟩
theorem bE{ls:List T3}(hok:∀ l∈ls,LineOk l)(p q:Rat):kY ls p q (K6 ls p q):=by
 unfold K6
 by_cases c:p=0∧q=0
 ·rw[if_pos c]
  refine⟨fun z hz=>(by cases hz),fun v z sh hz=>?_⟩
  cases hz
  exact⟨Ht hok,by rw[c.1,c.2];grind,fun y u _=>by rw[c.1,c.2];grind,.inl c⟩
 rw[if_neg c]
 by_cases hne:ls=[]
 ·subst hne
  refine⟨fun z hz=>?_,fun v z sh hz=>by cases hz⟩
  cases hz
  exact⟨c,(fun a ha=>by cases ha),(fun l hl=>by cases hl),iV c,fun l hl=>by cases hl⟩
 obtain⟨h0,l,e,m0,h⟩:=F5 hok hne
 rw[e]
 cases l with
 | nil =>
  rcases h with⟨_,al0⟩|⟨z,_⟩
  ·obtain⟨m,j,em,en,eq⟩:=S4 m0
   have hm:=MI em
   have al:G3 ls:=by
    rcases yc hok with⟨_,a⟩|⟨cs,ec,_⟩
    ·exact a
    ·unfold yd at ec;rw[e]at ec;cases ec
   show kY ls p q (F6 (ls.getD h0.2.2.2.1.toNat (0,0,0)) h0.2.2.2.1 p q)
   rw[en,MY,MW,em]
   exact pW hok hm e eq m0 al0 al c
  ·exact absurd rfl z
 | cons x l =>
  obtain⟨a,b,ea,A⟩:=bj hok e (qS c)
  show kY ls p q (match kS (h0 :: x :: l) (wtF p q)with|none=>.free (0,0)|some (a,b)=>.most (vlF a b (wtF p q) (cb2 p q)) (ry (tri a) (tri b)) (shF a b (wtF p q) (cb2 p q)))
  rw[ea]
  obtain⟨v1,v2⟩:=su A
  have V:(0:Rat)<ve (tri a) (tri b):=by rw[v6];exact u9.mpr A.ve
  refine⟨fun z hz=>(by cases hz),fun v z sh hz=>?_⟩
  cases hz
  refine⟨(cH ls _).mp A.sup,v1,fun y u hy=>?_,.inr (.inr ⟨A.sup,tri a,tri b,MD.mpr ⟨a,A.ma,rfl⟩,MD.mpr ⟨b,A.mb,rfl⟩,D6 V,Am (D6 V),wc (D6 V)⟩)⟩
  rw[v1]
  exact v2 (y,u) ((cH ls (y,u)).mpr hy)
structure L28(l:T3):Prop extends LnOk l where
 p6:sz l.1≤548
 q6:sz l.2.1≤548
 r6:sz l.2.2≤262
 b6:yJ 800 (g6 l 0)
theorem BH{l:T3}{m:Nat}(h1:sz l.1≤m)(h2:sz l.2.1≤m)(h3:sz l.2.2≤m):yJ (3*m) (g6 l 0):=by
 have e:cbL l≤l.1.den*l.2.1.den*l.2.2.den:=by
  have a:=C7 (A3 (A3 1 l.1.den) l.2.1.den) l.2.2.den
  have b:=C7 (A3 1 l.1.den) l.2.1.den
  have c:=C7 1 l.1.den
  rw[Qm]at c
  exact ME a (Nm _ (ME b (Nm _ c)))
 have d1:=o8 _ h1
 have d2:=o8 _ h2
 have d3:=o8 _ h3
 have key:∀{q:Rat} {u v:Nat},sz q≤m→l.1.den*l.2.1.den*l.2.2.den=q.den*(u*v)→u<2 ^ m→v<2 ^ m→(O5 q (cbL l)).natAbs<2 ^ (3*m):=fun{q u v} hq eq hu hv=>by
  unfold O5
  have hd:cbL l / q.den≤u*v:=by
   rw[eq]at e
   exact NT e
  rw[Nf,MC,show 3*m=m+(m+m)by omega,Nt,Nt]
  refine Ny (L1 q hq) (ME hd (NC (ND hu hv))) (QQ (OH (by decide)) (OH (by decide)))
 exact⟨key h1 (Qt _ _ _) d2 d3,key h2 (by rw[Oh l.1.den,Qt]) d1 d3,key h3 (Oh _ _) d1 d2⟩
theorem yp{n:Nat}{l:T3}(h:yJ n (g6 l 0))(hn:n≤1200):SzS (g6 l 0):=⟨U0 h.1 hn,U0 h.2.1 hn,U0 h.2.2 hn⟩
theorem L28.mk3{l:T3}(ok:LineOk l)(h1:sz l.1≤262)(h2:sz l.2.1≤262)(h3:sz l.2.2≤262):L28 l:=by
 have b:=BH h1 h2 h3
 have b6:yJ 800 (g6 l 0):=⟨U0 b.1 (by decide),U0 b.2.1 (by decide),U0 b.2.2 (by decide)⟩
 exact{ ne:=ok.ne,pos:=ok.pos,p:=by omega,q:=by omega,r:=by omega,s:=yp b6 (by decide),p6:=by omega,q6:=by omega,r6:=by omega,b6:=b6 }
def O4(ls:List T3):Prop:=ls.length≤12∧∀ l∈ls,L28 l
theorem O4.ok{ls:List T3}(h:O4 ls):BR ls:=⟨h.1,fun l hl=>(h.2 l hl).toLnOk⟩
theorem O4.lo{ls:List T3}(h:O4 ls):∀ l∈ls,LineOk l:=fun l hl=>(h.2 l hl).toLnOk.toLineOk
theorem O4.bits{ls:List T3}(h:O4 ls):∀ s∈f6 ls,yJ 800 s:=fun s hs=>by
 obtain⟨l,hl,j,e⟩:=C4 hs
 obtain⟨a,b,c⟩:=(h.2 l hl).b6
 rcases e with rfl|rfl
 ·exact⟨a,b,c⟩
 ·exact⟨by show(-(g6 l j).1).natAbs<_;rw[Nz];exact a,by show(-(g6 l j).2.1).natAbs<_;rw[Nz];exact b,c⟩
theorem O4.szs{ls:List T3}(h:O4 ls):∀ s∈f6 ls,SzS s:=fun s hs=>by
 obtain⟨a,b,c⟩:=h.bits s hs
 exact⟨U0 a (by decide),U0 b (by decide),U0 c (by decide)⟩
theorem Jq{l:T3}(h:L28 l):cbL l<2 ^ 1400:=by
 have e:cbL l≤l.1.den*l.2.1.den*l.2.2.den:=by
  have a:=C7 (A3 (A3 1 l.1.den) l.2.1.den) l.2.2.den
  have b:=C7 (A3 1 l.1.den) l.2.1.den
  have c:=C7 1 l.1.den
  rw[Qm]at c
  exact ME a (Nm _ (ME b (Nm _ c)))
 have d1:=o8 _ h.p6
 have d2:=o8 _ h.q6
 have d3:=o8 _ h.r6
 refine MP e ?_
 refine Mt (ND (ND d1 d2) d3) ?_
 rw[← Nt,← Nt]
 exact My (by decide) (by decide)
theorem O4.scale{ls:List T3}(h:O4 ls):∀ s∈f6 ls,s.2.2.2.2.natAbs<2 ^ 1400:=fun s hs=>by
 obtain⟨l,hl,j,e⟩:=C4 hs
 have:=Jq (h.2 l hl)
 rcases e with rfl|rfl
 ·show((cbL l:Nat):Int).natAbs<_;rw[MC];exact this
 ·show(-((cbL l:Nat):Int)).natAbs<_;rw[Nz,MC];exact this
def Wz(x y:Int):Prop:=x.natAbs<2 ^ 2200∧y.natAbs<2 ^ 2200
theorem kJ(p q:Rat):cb2 p q≤p.den*q.den:=by
 have b:=C7 (A3 1 p.den) q.den
 have c:=C7 1 p.den
 rw[Qm]at c
 exact ME b (Nm _ c)
theorem yi{p q:Rat}(h1:sz p≤1100)(h2:sz q≤1100):cb2 p q<2 ^ 2200:=by
 refine MP (kJ p q) ?_
 rw[show 2200=1100+1100 from rfl,Nt]
 exact ND (o8 _ h1) (o8 _ h2)
theorem IA{p q:Rat}(h1:sz p≤1100)(h2:sz q≤1100):Wz (wtF p q).1 (wtF p q).2:=by
 have e:=kJ p q
 have d1:=o8 _ h1
 have d2:=o8 _ h2
 refine⟨?_,?_⟩
 ·show(O5 p (cb2 p q)).natAbs<_
  unfold O5
  rw[Nf,MC,show 2200=1100+1100 from rfl,Nt]
  exact Ny (L1 p h1) (ME (NT e) (NC d2)) (OH (by decide))
 ·show(O5 q (cb2 p q)).natAbs<_
  unfold O5
  rw[Nf,MC,show 2200=1100+1100 from rfl,Nt]
  exact Ny (L1 q h2) (ME (NT (by rw[Oh];exact e)) (NC d1)) (OH (by decide))
noncomputable def AO:Option (Sd × Sd)→D
 | none=>.non
 | some ab=>.tup [sdD ab.1,sdD ab.2]
local macro_rules|`(tactic| walk_at "inj")=>`(tactic| (rename_i e h;simp only[List.cons.injEq,GM.C5,GM.B4,GM.F3,GM.D5,and_true,true_and,GM.i3,GM.i5,GM.h8,GM.i6,GM.h9,D.tup.injEq,D.ref.injEq,D.int.injEq,D.str.injEq,D.bl.injEq,D.vl.injEq,MU,and_assoc]at e;(repeat(obtain⟨e1,e⟩:=e;subst e1));subst e;exact h))
local macro_rules|`(tactic| walk_at "injs")=>`(tactic| (rename_i e o h;rcases o with o|o<;>(subst o;first|(exfalso;simp only[D.tup.injEq,List.cons.injEq,reduceCtorEq,false_and,and_false]at e;done)|(simp only[List.cons.injEq,GM.C5,GM.B4,GM.F3,GM.D5,and_true,true_and,GM.i3,GM.i5,GM.h8,GM.i6,GM.h9,D.tup.injEq,D.ref.injEq,D.int.injEq,D.str.injEq,D.bl.injEq,D.vl.injEq,MU,and_assoc]at e;(repeat(obtain⟨e1,e⟩:=e;subst e1));subst e;exact h))))
abbrev cP(p q y u:Rat)(M:Mem)(R:DK)(Y:DXK):Prop:=(sz p+sz q+sz y+sz u≤8000)∧R (e7 (p*y+q*u)) M
def vR:DSp:=fun ds M R Y=>∃(p q y u:Rat),ds=[e7 p,e7 q,r9 y u]∧cP p q y u M R Y
theorem qg{p q y u:Rat}{M:Mem}{R:DK}{Y:DXK}:vR [e7 p,e7 q,r9 y u] M R Y=(cP p q y u M R Y):=propext ⟨fun z=>by obtain⟨_,_,_,_,_,_⟩:=z;walk_at "inj",fun h=>⟨p,q,y,u,rfl,h⟩⟩
abbrev ay(a:Sd)(x y:Int)(M:Mem)(R:DK)(Y:DXK):Prop:=(SzS a∧Wz x y)∧R (.int (veW a (x,y))) M
def jw:DSp:=fun ds M R Y=>∃(a:Sd) (x y:Int),ds=[sdD a,.vl [.int x,.int y]]∧ay a x y M R Y
theorem lq{a:Sd}{x y:Int}{M:Mem}{R:DK}{Y:DXK}:jw [sdD a,.vl [.int x,.int y]] M R Y=(ay a x y M R Y):=propext ⟨fun z=>by obtain⟨_,_,_,_,_⟩:=z;walk_at "inj",fun h=>⟨a,x,y,rfl,h⟩⟩
abbrev ax(x y:Int)(b:Sd)(M:Mem)(R:DK)(Y:DXK):Prop:=(SzS b∧Wz x y)∧R (.int (wVe (x,y) b)) M
def jv:DSp:=fun ds M R Y=>∃(x y:Int) (b:Sd),ds=[.vl [.int x,.int y],sdD b]∧ax x y b M R Y
theorem lp{x y:Int}{b:Sd}{M:Mem}{R:DK}{Y:DXK}:jv [.vl [.int x,.int y],sdD b] M R Y=(ax x y b M R Y):=propext ⟨fun z=>by obtain⟨_,_,_,_,_⟩:=z;walk_at "inj",fun h=>⟨x,y,b,rfl,h⟩⟩
abbrev jN(p q:Rat)(M:Mem)(R:DK)(Y:DXK):Prop:=(sz p≤1100∧sz q≤1100)∧R (.int ((cb2 p q:Nat):Int)) M
def Eh:DSp:=fun ds M R Y=>∃(p q:Rat),ds=[r9 p q]∧jN p q M R Y
theorem ue{p q:Rat}{M:Mem}{R:DK}{Y:DXK}:Eh [r9 p q] M R Y=(jN p q M R Y):=propext ⟨fun z=>by obtain⟨_,_,_,_⟩:=z;walk_at "inj",fun h=>⟨p,q,rfl,h⟩⟩
abbrev aA(p q:Rat)(c:Int)(M:Mem)(R:DK)(Y:DXK):Prop:=((sz p≤1100∧sz q≤1100)∧c=((cb2 p q:Nat):Int))∧R (.vl [.int (wtF p q).1,.int (wtF p q).2]) M
def oS:DSp:=fun ds M R Y=>∃(p q:Rat) (c:Int),ds=[r9 p q,.int c]∧aA p q c M R Y
theorem lu{p q:Rat}{c:Int}{M:Mem}{R:DK}{Y:DXK}:oS [r9 p q,.int c] M R Y=(aA p q c M R Y):=propext ⟨fun z=>by obtain⟨_,_,_,_,_⟩:=z;walk_at "inj",fun h=>⟨p,q,c,rfl,h⟩⟩
abbrev jP(half:List Sd)(x y:Int)(M:Mem)(R:DK)(Y:DXK):Prop:=(half.length≤30∧(∀ s∈half,SzS s)∧Wz x y)∧R (AO (kS half (x,y))) M
def Ei:DSp:=fun ds M R Y=>∃(half:List Sd) (x y:Int),ds=[.vl (half.map sdD),.vl [.int x,.int y]]∧jP half x y M R Y
theorem uf{half:List Sd}{x y:Int}{M:Mem}{R:DK}{Y:DXK}:Ei [.vl (half.map sdD),.vl [.int x,.int y]] M R Y=(jP half x y M R Y):=propext ⟨fun z=>by obtain⟨_,_,_,_,_⟩:=z;walk_at "inj",fun h=>⟨half,x,y,rfl,h⟩⟩
abbrev aL(y u k:Rat)(M:Mem)(R:DK)(Y:DXK):Prop:=(sz y+sz k≤8900∧sz u+sz k≤8900)∧R (r9 (y*k) (u*k)) M
def pb:DSp:=fun ds M R Y=>∃(y u k:Rat),ds=[r9 y u,e7 k]∧aL y u k M R Y
theorem lL{y u k:Rat}{M:Mem}{R:DK}{Y:DXK}:pb [r9 y u,e7 k] M R Y=(aL y u k M R Y):=propext ⟨fun z=>by obtain⟨_,_,_,_,_⟩:=z;walk_at "inj",fun h=>⟨y,u,k,rfl,h⟩⟩
abbrev W5(y u z w:Rat)(M:Mem)(R:DK)(Y:DXK):Prop:=(sz y+sz w+sz z+sz u≤8000)∧R (e7 (y*w - z*u)) M
def jK:DSp:=fun ds M R Y=>∃(y u z w:Rat),ds=[r9 y u,r9 z w]∧W5 y u z w M R Y
theorem gw{y u z w:Rat}{M:Mem}{R:DK}{Y:DXK}:jK [r9 y u,r9 z w] M R Y=(W5 y u z w M R Y):=propext ⟨fun z=>by obtain⟨_,_,_,_,_,_⟩:=z;walk_at "inj",fun h=>⟨y,u,z,w,rfl,h⟩⟩
noncomputable def Hh(ls:List T3)(k:Nat):List T3:=ls.take k++ls.drop (k+1)
abbrev aH(ls:List T3)(y u:Rat)(M:Mem)(R:DK)(Y:DXK):Prop:=(ls.length≤12∧(∀ l∈ls,LSz 600 l)∧sz y≤5000∧sz u≤5000)∧R (.bl (E6 ls y u)) M
def oY:DSp:=fun ds M R Y=>∃(ls:List T3) (y u:Rat),ds=[.vl (ls.map f8),r9 y u]∧aH ls y u M R Y
theorem lI{ls:List T3}{y u:Rat}{M:Mem}{R:DK}{Y:DXK}:oY [.vl (ls.map f8),r9 y u] M R Y=(aH ls y u M R Y):=propext ⟨fun z=>by obtain⟨_,_,_,_,_⟩:=z;walk_at "inj",fun h=>⟨ls,y,u,rfl,h⟩⟩
abbrev Q2(l:T3)(y u:Rat)(M:Mem)(R:DK)(Y:DXK):Prop:=(LSz 600 l∧sz y≤5000∧sz u≤5000)∧R (.bl (N8 l y u)) M
def ey:DSp:=fun ds M R Y=>∃(l:T3) (y u:Rat),ds=[f8 l,r9 y u]∧Q2 l y u M R Y
theorem dk{l:T3}{y u:Rat}{M:Mem}{R:DK}{Y:DXK}:ey [f8 l,r9 y u] M R Y=(Q2 l y u M R Y):=propext ⟨fun z=>by obtain⟨_,_,_,_,_⟩:=z;walk_at "inj",fun h=>⟨l,y,u,rfl,h⟩⟩
abbrev V6(p q y u:Rat)(M:Mem)(R:DK)(Y:DXK):Prop:=(sz p+sz q+sz y+sz u≤20000)∧R (.tup [.int (O6 p q y u),.int (K9 p q y u)]) M
def V7:DSp:=fun ds M R Y=>∃(p q y u:Rat),ds=[e7 p,e7 q,r9 y u]∧V6 p q y u M R Y
theorem gm{p q y u:Rat}{M:Mem}{R:DK}{Y:DXK}:V7 [e7 p,e7 q,r9 y u] M R Y=(V6 p q y u M R Y):=propext ⟨fun z=>by obtain⟨_,_,_,_,_,_⟩:=z;walk_at "inj",fun h=>⟨p,q,y,u,rfl,h⟩⟩
theorem FC(p q y u:Rat):K9 p q y u≠0:=by
 unfold K9
 exact Nj (Nj (Nj (RM.t8 p) (RM.t8 y)) (RM.t8 q)) (RM.t8 u)
theorem iS(p q y u:Rat):MZ (O6 p q y u) (K9 p q y u)=p*y+q*u:=by
 have e:∀ r:Rat,r=(r.num:Rat) / (r.den:Rat):=fun r=>by
  have:=L3 r
  have h0:(r.den:Rat)≠0:=fun z=>Nl r.den_pos (by exact_mod_cast z)
  grind
 have h1:(p.den:Rat)≠0:=fun z=>Nl p.den_pos (by exact_mod_cast z)
 have h2:(q.den:Rat)≠0:=fun z=>Nl q.den_pos (by exact_mod_cast z)
 have h3:(y.den:Rat)≠0:=fun z=>Nl y.den_pos (by exact_mod_cast z)
 have h4:(u.den:Rat)≠0:=fun z=>Nl u.den_pos (by exact_mod_cast z)
 have e1:=L3 p
 have e2:=L3 q
 have e3:=L3 y
 have e4:=L3 u
 rw[t4]
 unfold O6 K9
 simp only[OD,ML,Nq]
 rw[← e1,← e2,← e3,← e4]
 generalize (p.den:Rat)=a at *
 generalize (q.den:Rat)=b at *
 generalize (y.den:Rat)=c at *
 generalize (u.den:Rat)=d at *
 have hd:a*c*b*d≠0:=fun z=>by grind
 have:p*a*(y*c)*b*d+q*b*(u*d)*a*c=(p*y+q*u)*(a*c*b*d):=by grind
 rw[this,OF hd]
theorem yK{h0:Sd}{l:List Sd}{i:Nat}(h:i<l.length):((h0 :: l)[i]'(by rw[Ng];omega),l[i])∈(h0 :: l).zip (l++[i9 h0]):=by
 have hz:i<((h0 :: l).zip (l++[i9 h0])).length:=by rw[QR,Ng,Nu];show i<min _ (l.length+1);omega
 have e:((h0 :: l).zip (l++[i9 h0]))[i]=((h0 :: l)[i]'(by rw[Ng];omega),l[i]):=by
  rw[List.getElem_zip,List.getElem_append_left h]
 rw[← e]
 exact QK _
theorem Bx{ls:List T3}(hok:∀ l∈ls,LineOk l):∀ s∈G7 (f6 ls),s∈f6 ls:=by
 by_cases hne:ls=[]
 ·subst hne;intro s hs;cases hs
 obtain⟨h0,l,e,m0,h⟩:=F5 hok hne
 rw[e]
 intro s hs
 rcases Mv.mp hs with rfl|hs
 ·exact m0
 ·rcases h with⟨rfl,_⟩|⟨_,_,hE⟩
  ·cases hs
  ·obtain⟨i,hi,rfl⟩:=Qa.mp hs
   have:=hE _ (yK hi)
   exact this.2.1
theorem nh{q:Rat}:0<q.num↔0<q:=by
 have h1:=cj (-q)
 rw[Pq]at h1
 constructor
 ·intro h;have:=h1.mp (by omega);grind
 ·intro h;have:=h1.mpr (by grind);omega
theorem Aq(half:List Sd):half.map sdD++(half.map i9).map sdD=(cy half).map sdD:=by unfold cy;rw[MR]
theorem GV{ls:List T3}(h:O4 ls){a b:Sd}(ha:a∈f6 ls)(hb:b∈f6 ls)(hv:veZ a b≠0):sz (ry (tri a) (tri b)).1≤1601∧sz (ry (tri a) (tri b)).2≤1601:=GU (n:=800) (h.bits a ha) (h.bits b hb) hv
theorem O4.oth{ls:List T3}(h:O4 ls)(k:Nat):O4 (Hh ls k):=by
 refine⟨?_,fun l hl=>?_⟩
 ·unfold Hh
  rw[Nu,Nr,Oq]
  have:=h.1;omega
 ·rcases MX.mp hl with hl|hl
  ·exact h.2 l (Om hl)
  ·exact h.2 l (Qb hl)
theorem vC(l:List (Int × Rat)):(dQ l).length=l.length:=by
 unfold dQ
 split
 ·split<;>rfl
 ·rfl
end GM
namespace GM
open PySem PySem.Spec L2 DL
open RM (sz)
structure CP(k:Nat)(ls:List T3):Prop where
 cols:R7 k ls
 pos:∀ l∈ls,0<l.2.2
theorem CP.nil:CP 0 []:=⟨R7.nil,fun _ h=>nomatch h⟩
theorem CP.app{k:Nat}{ls:List T3}{l:T3}(h:CP k ls)(c:R7 (k+1) (ls++[l]))(hp:0<l.2.2):CP (k+1) (ls++[l]):=⟨c,fun m hm=>by
 rcases MX.mp hm with hm|hm
 ·exact h.pos m hm
 ·rw[Nc.mp hm];exact hp⟩
theorem W9{k:Nat}{xs:List Rat}(h:Col k xs)(hk:k≤5){x:Rat}(hx:x∈xs):sz x≤262:=by
 obtain⟨B,b0,b1,h⟩:=h
 have:=(h x hx).sz b0 b1
 omega
theorem CP.l28{k:Nat}{ls:List T3}(h:CP k ls)(hk:k≤5):∀ l∈ls,L28 l:=fun l hl =>
 L28.mk3 ⟨(h.cols.ok (by omega) l hl).ne,h.pos l hl⟩ (W9 h.cols.p hk (MD.mpr ⟨l,hl,rfl⟩)) (W9 h.cols.q hk (MD.mpr ⟨l,hl,rfl⟩)) (W9 h.cols.r hk (MD.mpr ⟨l,hl,rfl⟩))
theorem xP{a b:Int}(ha:0<a)(hb:0<b):0<MZ a b:=by
 rw[t4]
 have h1:(0:Rat)<(a:Rat):=u9.mpr ha
 have h2:(0:Rat)<(b:Rat):=u9.mpr hb
 exact cX h2 (by rw[Ow,Nk (D6 h2)];exact h1)
local macro_rules|`(tactic| walk_at "inj")=>`(tactic| (rename_i e h;simp only[List.cons.injEq,GM.C5,GM.B4,GM.F3,GM.D5,and_true,true_and,GM.i3,GM.i5,GM.h8,GM.i6,GM.h9,D.tup.injEq,D.ref.injEq,D.int.injEq,D.str.injEq,D.bl.injEq,D.vl.injEq,MU,and_assoc]at e;(repeat(obtain⟨e1,e⟩:=e;subst e1));subst e;exact h))
local macro_rules|`(tactic| walk_at "injs")=>`(tactic| (rename_i e o h;rcases o with o|o<;>(subst o;first|(exfalso;simp only[D.tup.injEq,List.cons.injEq,reduceCtorEq,false_and,and_false]at e;done)|(simp only[List.cons.injEq,GM.C5,GM.B4,GM.F3,GM.D5,and_true,true_and,GM.i3,GM.i5,GM.h8,GM.i6,GM.h9,D.tup.injEq,D.ref.injEq,D.int.injEq,D.str.injEq,D.bl.injEq,D.vl.injEq,MU,and_assoc]at e;(repeat(obtain⟨e1,e⟩:=e;subst e1));subst e;exact h))))
abbrev aF(p:Addr)(M:Mem)(R:DK)(Y:DXK):Prop:=A9 M p∧∀(l:T3) M',LOk 41 l→0<l.2.2→q9 p M M'→R (f8 l) M'
def oW:DSp:=fun ds M R Y=>∃(p:Addr),ds=[.ref p]∧aF p M R Y
theorem lG{p:Addr}{M:Mem}{R:DK}{Y:DXK}:oW [.ref p] M R Y=(aF p M R Y):=propext ⟨fun z=>by obtain⟨_,_,_⟩:=z;walk_at "inj",fun h=>⟨p,rfl,h⟩⟩
abbrev W7(q r:Rat)(M:Mem)(R:DK)(Y:DXK):Prop:=sz q+sz r≤20000∧R (.bl (decide (q<r))) M
def jO:DSp:=fun ds M R Y=>∃(q r:Rat),ds=[e7 q,e7 r]∧W7 q r M R Y
theorem gy{q r:Rat}{M:Mem}{R:DK}{Y:DXK}:jO [e7 q,e7 r] M R Y=(W7 q r M R Y):=propext ⟨fun z=>by obtain⟨_,_,_,_⟩:=z;walk_at "inj",fun h=>⟨q,r,rfl,h⟩⟩
theorem Ie{ls:List T3}(al:G3 ls){z:Zr}(h:Cn2 ((f6 ls).map tri) z):False:=by
 obtain⟨s,t,ms,mt,hv,_,_⟩:=h.two
 obtain⟨s,hs,rfl⟩:=MD.mp ms
 obtain⟨t,ht,rfl⟩:=MD.mp mt
 obtain⟨a,ha,i,ea⟩:=C4 hs
 obtain⟨b,hb,j,eb⟩:=C4 ht
 have z0:ve (tri (g6 a i)) (tri (g6 b j))=0:=by rw[dO,al a ha b hb];grind
 refine hv ?_
 have ea':tri s=tri (g6 a i)∨tri s=ng (tri (g6 a i)):=by
  rcases ea with h|h
  ·left;rw[h]
  ·right;rw[h,B1]
 have eb':tri t=tri (g6 b j)∨tri t=ng (tri (g6 b j)):=by
  rcases eb with h|h
  ·left;rw[h]
  ·right;rw[h,B1]
 rcases ea' with h|h<;>rcases eb' with h'|h'<;>(rw[h,h'];clear hv h h';generalize tri (g6 a i)=A at *;generalize tri (g6 b j)=B at *;unfold ve at *;first|exact z0|(unfold ng;grind))
end GM
namespace DL
open PySem PySem.Spec L2
section
variable {X:Cx} {st:Stmt} {G0:List Stmt} {t u:DTS} {F:Y2} {e:Ev} {M:Mem}
end
end DL
namespace L2
open PySem PySem.Spec PyProof.Rows
section
variable {prog:Program} {w:World} {A:Around} {E:Value→Shared→Prop} {s:Shared}
theorem sL{t sl:Addr}{items:Array Value}{vl vu:Value}{lo hi:Option Int}{Q:Value→Shared→Prop}(ht:IsTup s.heap t items)(hs:s.heap.IsSliceOf sl vl vu .none)(pl:IsPart vl lo)(pu:IsPart vu hi)
  (hw:HT.sIx items.size 0 lo=0∧HT.sIx items.size items.size hi=items.size) (h:Q (.ref t) s):wpAny (model prog w) A (getItem (.ref t) (.ref sl)) Q E s:=by
 obtain⟨os,hos,hcs,hds⟩:=id hs
 have hTs:s.TypeIs (.ref sl) "slice" := ⟨os,hos,hcs⟩
 unfold getItem
 try with_reducible refine wpAny_holding ?_
 first|refine Mq (Mu ?_)|skip
 refine Mq (wpAny_sequenceKey ht.typeIs (by decide) ?_)
 refine Mq (wpAny_callSpecial?_slot (name:=Str.ofString "__getitem__") ht.typeIs slot_tuple_getitem
  (wpAny_call_entry slot_tuple_getitem ht.typeIs entry_tuple_getitem ?_ (args_tuple_getitem _ _)))
 show wpAny _ _ (Builtin.Tuple.tupleItemsOf (.ref t) >>= _) _ _ s
 refine Mq (tupleItemsOf_ ht ?_)
 refine Mq (wpAny_typeOf hTs ?_)
 rw[if_pos (by decide)]
 refine Mq (HT.N5 hs pl pu ?_)
 show wpAny _ _ (if (((HT.sIx items.size 0 lo:Nat):Int) == 0 && (1:Int) == 1 && (HT.sIx items.size items.size hi - HT.sIx items.size 0 lo) == items.size)=true then _ else _) _ _ s
 rw[hw.1,hw.2,if_pos (by simp)]
 unfold Builtin.Tuple.tupleIsExact
 refine Mq (Mq (wpAny_typeOf ht.typeIs (Mu ?_)))
 rw[if_pos (by decide)]
 exact Mq (wpAny_rule (Mu ⟨_,rfl,Mu h⟩))
end
section
variable {X:Cx}
noncomputable def IU(K:Ms):V→Option Int→Option Int→Hp→VK→Prop:=fun x lo hi H Q=>∃ a xs,x = .ref a∧SqT K H a xs∧(HT.sIx xs.length 0 lo=0∧HT.sIx xs.length xs.length hi=xs.length)∧Q (.ref a) H
theorem Ab:SlR X (IU X.K):=by
 intro pins s σ H x v vl vu lo hi sl Q I rx hs pl pu h
 obtain⟨a,xs,rfl,hx,hw,q⟩:=h
 cases rx
 obtain⟨its,r,ht,hz⟩:=I.tuple hx
 have hlen:its.toArray.size=xs.length:=by rw[MJ];exact r.length.symm
 refine⟨"tuple",_,slot_tuple_getitem.lookup,ht.typeIs,?_⟩
 exact sL ht hs pl pu (by rw[hlen];exact hw) ⟨.ref a,H,I,rfl,q⟩
end
end L2
namespace DL
open PySem PySem.Spec L2
section
variable {X:Cx} {pos:Pos}
def Fi(x:D)(lo hi:Option Int)(M:Mem)(R:DK):Prop:=∃ ds,x = .tup ds∧R (.tup (O2 ds lo hi)) M
def HR(te:DTE)(tl th:DTO):DTE:=fun e M R=>te e M fun x M1=>tl e M1 fun l M2=>th e M2 fun u M3=>Fi x l u M3 R
theorem Cr{te:DTE}{tl th:DTO}{e:Ev}{M:Mem}{R:DK}:HR te tl th e M R=te e M fun x M1=>tl e M1 fun l M2=>th e M2 fun u M3=>Fi x l u M3 R:=rfl
theorem uD{ds:List D}{lo hi:Option Int}{M:Mem}{R:DK}:Fi (.tup ds) lo hi M R=R (.tup (O2 ds lo hi)) M:=propext ⟨fun⟨_,h,r⟩=>by cases h;exact r,fun r=>⟨_,rfl,r⟩⟩
theorem ir{e:Expr}{te:DTE}{lo hi:Option Expr}{tl th:DTO}{p2:Pos}(he:JE X e te)(hl:JO X lo tl)(hu:JO X hi th):JE X (.Subscript e (.Slice lo hi none p2) pos) (HR te tl th):=⟨have he:=he.out;have hl:=hl.out;have hu:=hu.out;(eC (SlR.or Ab vE) he hl hu).imp fun σ H Q ⟨e,M,R,ok,am,t,f⟩=>⟨e,M,_,ok,am,t,fun x M1 h1 v H1 k1 a1 r1=>⟨e,M1,_,ok.mono k1,a1,h1,fun l M2 h2 H2 k2 a2=>⟨e,M2,_,(ok.mono k1).mono k2,a2,h2,fun u M3 h3 H3 k3 a3=>by
  obtain⟨ds,rfl,r⟩:=h3
  have r1':=(r1.mono k2).mono k3
  cases(r1.mono k2).mono k3 with
  | tup sq lx =>
   by_cases hw:HT.sIx ds.length 0 l=0∧HT.sIx ds.length ds.length u=ds.length
   ·refine .inl ⟨_,_,rfl,sq,by rw[lx.length];exact hw,?_⟩
    have e:O2 ds l u=ds:=by
     unfold O2
     rw[hw.1,hw.2]
     simp
    rw[e]at r
    exact f _ M3 r _ _ (k1.trans (k2.trans k3)) a3 r1'
   ·exact .inr ⟨_,_,rfl,sq,by rw[lx.length];exact hw,fun p hp=>f _ M3 r _ _ ((k1.trans (k2.trans k3)).trans (KT.alloc hp)) (a3.alloc hp) (.tup (SqT.of i7) ((lx.cut l u).mono (KT.alloc hp)))⟩⟩⟩⟩⟩
end
end DL
namespace GM
open PySem PySem.Spec L2 DL
open RM (sz)
structure L24(l:T3):Prop where
 ok:L28 l
 z:LSz 262 l
def eY(ls:List T3):Prop:=ls.length≤12∧∀ l∈ls,L24 l
theorem eY.a{ls:List T3}(h:eY ls):O4 ls:=⟨h.1,fun l hl=>(h.2 l hl).ok⟩
theorem CP.l24{k:Nat}{ls:List T3}(h:CP k ls)(hk:k≤5):∀ l∈ls,L24 l:=fun l hl=>⟨h.l28 hk l hl,W9 h.cols.p hk (MD.mpr ⟨l,hl,rfl⟩),W9 h.cols.q hk (MD.mpr ⟨l,hl,rfl⟩),W9 h.cols.r hk (MD.mpr ⟨l,hl,rfl⟩)⟩
noncomputable def K2(n:Nat):Int→List (Int × Rat)→Bool
 | _,[]=>true
 | a,s :: r=>decide (a<s.1) && decide (s.1<(n:Int)) && decide (s.2≠0) && K2 n s.1 r
theorem Ap{n:Nat}{a:Int}{s:Int × Rat}{r:List (Int × Rat)}(h:¬ (a<s.1∧s.1<(n:Int)∧s.2≠0)):K2 n a (s :: r)=false:=by
 cases e:K2 n a (s :: r)with
 | false=>rfl
 | true =>
  unfold K2 at e
  simp only[Na,decide_eq_true_eq]at e
  exact absurd ⟨e.1.1.1,e.1.1.2,e.1.2⟩ h
theorem T7{n:Nat}{a:Int}{s:Int × Rat}{r:List (Int × Rat)}(h1:a<s.1)(h2:s.1<(n:Int))(h3:s.2≠0):K2 n a (s :: r)=K2 n s.1 r:=by
 rw[K2,decide_eq_true h1,decide_eq_true h2,decide_eq_true h3]
 rfl
noncomputable def shB(n:Nat)(sh:List (Int × Rat)):Bool:=decide (sh.length≤2) && K2 n (-1) sh
theorem Ea{n:Nat}{sh:List (Int × Rat)}(h:sh.length≤2)(hz:∀ s∈sh,s.2≠0):shB n sh=(decide (sh.map (·.1)=L2.sd2 (sh.map (·.1))) && (sh.map (·.1)).all fun m=>decide (0≤m) && decide (m<(n:Int))):=by
 unfold shB
 rw[decide_eq_true h,Nb]
 match sh,h,hz with
 | [],_,_=>rfl
 | [a],_,hz =>
  have z:=hz a Mz
  show(decide (-1<a.1) && decide (a.1<(n:Int)) && decide (a.2≠0) && true)=(decide ([a.1]=[a.1]) && (decide (0≤a.1) && decide (a.1<(n:Int)) && true))
  rw[decide_eq_true z,decide_eq_true (rfl:[a.1]=[a.1]),OS,OS,Nb,OS]
  rw[show decide (-1<a.1)=decide (0≤a.1)from decide_eq_decide.mpr (by omega)]
 | [a,b],_,hz =>
  have z1:=hz a Mz
  have z2:=hz b (by simp)
  show(decide (-1<a.1) && decide (a.1<(n:Int)) && decide (a.2≠0) && (decide (a.1<b.1) && decide (b.1<(n:Int)) && decide (b.2≠0) && true))=(decide ([a.1,b.1]=if a.1=b.1 then[a.1]else if a.1<b.1 then[a.1,b.1]else[b.1,a.1]) && (decide (0≤a.1) && decide (a.1<(n:Int)) && (decide (0≤b.1) && decide (b.1<(n:Int)) && true)))
  rw[decide_eq_true z1,decide_eq_true z2]
  by_cases c:a.1=b.1
  ·rw[if_pos c,decide_eq_false (show ¬ a.1<b.1 by omega),decide_eq_false (show ¬ [a.1,b.1]=[a.1]from fun z=>by simp at z)]
   simp
  ·rw[if_neg c]
   by_cases d:a.1<b.1
   ·rw[if_pos d,decide_eq_true (rfl:[a.1,b.1]=[a.1,b.1]),decide_eq_true d,Oc]
    simp only[OS,Nb,Na,decide_eq_true_eq]
    omega
   ·rw[if_neg d,decide_eq_false d,decide_eq_false (show ¬ [a.1,b.1]=[b.1,a.1]from fun z=>c (by injection z))]
    simp
theorem Ac{n:Nat}{sh:List (Int × Rat)}(h:∃ s∈sh,s.2=0):shB n sh=false:=by
 have key:∀(sh:List (Int × Rat)) (a:Int),(∃ s∈sh,s.2=0)→K2 n a sh=false:=by
  intro sh
  induction sh with
  | nil=>rintro a ⟨s,hs,_⟩;cases hs
  | cons x r ih =>
   rintro a ⟨s,hs,e⟩
   unfold K2
   rcases Mv.mp hs with rfl|hs
   ·rw[decide_eq_false (show ¬ s.2≠0 from fun z=>z e)]
    simp
   ·rw[ih x.1 ⟨s,hs,e⟩,NA]
 unfold shB
 rw[key sh _ h,NA]
theorem mL{n:Nat}:∀{sh:List (Int × Rat)} {a:Int},-1≤a→K2 n a sh=true→∀ s∈sh,0≤s.1∧s.1<(n:Int)∧s.2≠0
 | [],_,_,_,s,hs=>by cases hs
 | x :: r,a,ha,h,s,hs=>by
  unfold K2 at h
  simp only[Na,decide_eq_true_eq]at h
  rcases Mv.mp hs with rfl|hs
  ·exact⟨by omega,h.1.1.2,h.1.2⟩
  ·exact mL (by omega) h.2 s hs
theorem rd{n:Nat}{sh:List (Int × Rat)}(h:shB n sh=true):sh.length≤2∧∀ s∈sh,0≤s.1∧s.1<(n:Int)∧s.2≠0:=by
 unfold shB at h
 rw[Na,decide_eq_true_eq]at h
 exact⟨h.1,mL (by omega) h.2⟩
noncomputable def ad(t:Rat→T3→Rat)(ls:List T3)(sh:List (Int × Rat)):Rat:=sh.foldl (fun acc s=>acc+t s.2 (ls.getD s.1.toNat (0,0,0))) 0
theorem X2(t:Rat→T3→Rat)(ls:List T3)(xs:List (Int × Rat))(s:Int × Rat):ad t ls (xs++[s])=ad t ls xs+t s.2 (ls.getD s.1.toNat (0,0,0)):=by
 unfold ad
 rw[NV]
 rfl
noncomputable def t0(w:Rat)(l:T3):Rat:=w*l.1
noncomputable def t1(w:Rat)(l:T3):Rat:=w*l.2.1
noncomputable def t2(w:Rat)(l:T3):Rat:=j4 w*l.2.2
noncomputable def rwD(a:Int × Int):D:=.tup [.int a.1,.int a.2]
structure Raw(n:Nat)(a:Int × Int)(q:Rat):Prop where
 pos:0<a.2
 val:MZ a.1 a.2=q
 s1:a.1.natAbs<2 ^ n
 s2:a.2.natAbs<2 ^ n
noncomputable def hG(a:Int × Int)(x w:Rat):Int × Int:=(a.1*1*x.den*w.den+x.num*w.num*a.2*1,a.2*1*x.den*w.den)
theorem Raw.step{n m k:Nat}{a:Int × Int}{q x w:Rat}(h:Raw n a q)(hx:sz x≤m)(hw:sz w≤k):Raw (n+m+k+1) (hG a x w) (q+w*x):=by
 have dx:=x.den_pos
 have dw:=w.den_pos
 have p1:(0:Int)<(x.den:Int):=by omega
 have p2:(0:Int)<(w.den:Int):=by omega
 have b1:=m7 (m7 h.s1 (Mt (j0 x) (My (by decide) hx))) (Mt (j0 w) (My (by decide) hw))
 have b2:=m7 (m7 (Mt (j9 x) (My (by decide) hx)) (Mt (j9 w) (My (by decide) hw))) h.s2
 have b3:=m7 (m7 h.s2 (Mt (j0 x) (My (by decide) hx))) (Mt (j0 w) (My (by decide) hw))
 refine⟨?_,?_,?_,?_⟩
 ·show 0<a.2*1*x.den*w.den
  rw[OV]
  exact NR (NR h.pos p1) p2
 ·show MZ (a.1*1*x.den*w.den+x.num*w.num*a.2*1) (a.2*1*x.den*w.den)=q+w*x
  rw[← h.val]
  have n1:(x.den:Rat)≠0:=fun z=>Nl dx (by exact_mod_cast z)
  have n2:(w.den:Rat)≠0:=fun z=>Nl dw (by exact_mod_cast z)
  have ex:x=(x.num:Rat) / (x.den:Rat):=by have:=L3 x;grind
  have ew:w=(w.num:Rat) / (w.den:Rat):=by have:=L3 w;grind
  have n3:(a.2:Rat)≠0:=fun z=>by
   have:=h.pos
   have z:a.2=0:=by exact_mod_cast z
   omega
  rw[t4,t4]
  simp only[OD,ML,Nq,Rat.mul_one,Rat.intCast_one]
  conv=>rhs;rw[ex,ew]
  generalize (x.den:Rat)=A at *
  generalize (w.den:Rat)=B at *
  generalize (a.2:Rat)=C at *
  generalize (x.num:Rat)=X at *
  generalize (w.num:Rat)=W at *
  generalize (a.1:Rat)=V at *
  clear b1 b2 b3 ex ew p1 p2
  have nd:C*A*B≠0:=fun z=>by grind
  have:(V / C+W / B*(X / A))*(C*A*B)=V*A*B+X*W*C:=by grind
  rw[← this,OF nd]
 ·show(a.1*1*x.den*w.den+x.num*w.num*a.2*1).natAbs<_
  rw[OV,OV,NJ]
  have t:=OG (a.1*x.den*w.den) (x.num*w.num*a.2)
  rw[show m+k+n=n+m+k by omega]at b2
  omega
 ·show(a.2*1*x.den*w.den).natAbs<_
  rw[OV,NJ]
  omega
theorem Raw.zero:Raw 1 (0,1) 0:=⟨by decide,by decide +kernel,by decide,by decide⟩
theorem Raw.eq{n:Nat}{a:Int × Int}{q p:Rat}(h:Raw n a q):a.1*(p.den:Int)=p.num*a.2↔q=p:=by
 rw[← h.val]
 conv=>rhs;rhs;rw[← Nn p]
 have d:=p.den_pos
 have:=h.pos
 exact(Pp (by omega) (by omega)).symm
noncomputable def nF(ls:List T3)(p q:Rat)(z:Zr):Bool:=decide (0<p*z.1+q*z.2) && ls.all fun l=>decide (l.1*z.1+l.2.1*z.2=0)
noncomputable def wX(ls:List T3)(p q v:Rat)(z:Zr)(sh:List (Int × Rat)):Bool:=E6 ls z.1 z.2 && decide (p*z.1+q*z.2=v) && shB ls.length sh && decide (ad t0 ls sh=p∧ad t1 ls sh=q∧ad t2 ls sh=v)
noncomputable def pk(ls:List T3)(p q:Rat):N3→Bool
 | .free z=>nF ls p q z
 | .most v z sh=>wX ls p q v z sh
noncomputable def sx(M:Mem)(t:D):N3→Prop
 | .free z=>t = .tup [.str "free",r9 z.1 z.2]
 | .most v z sh=>∃ x,t = .tup [.str "most",e7 v,r9 z.1 z.2,x]∧m6 M x (sh.map shD)
structure MSz(m:N3):Prop where
 free:∀ z,m = .free z→sz z.1≤3800∧sz z.2≤3800
 most:∀ v z sh,m = .most v z sh→sz v≤8000∧(sz z.1≤3800∧sz z.2≤3800)∧sh.length≤20∧∀ s∈sh,sz s.2≤3000
theorem rC{M:Mem}{x:D}{ds:List D}(h:m6 M x ds):xc M x=some ds.length:=by
 rcases h with rfl|⟨p,rfl,m⟩|rfl
 ·rfl
 ·unfold xc;simp only[m]
 ·rfl
theorem cM{sh:List (Int × Rat)}{i:Nat}{d:D}(h:(sh.map shD)[i]? = some d):∃ s,sh[i]? = some s∧d=shD s:=by
 rw[MV]at h
 cases e:sh[i]? with
 | none=>rw[e]at h;cases h
 | some s=>rw[e]at h;exact⟨s,rfl,(Option.some.inj h).symm⟩
def big(a:Int):Prop:=a.natAbs<2 ^ 9900
theorem BK{q:Rat}(h:sz q≤9900):big q.num∧big (q.den:Int):=⟨Mt (j9 q) (My (by decide) h),Mt (j0 q) (My (by decide) h)⟩
theorem FF{a:Int × Int}{q:Rat}(h:Raw 9000 a q):big a.1∧big a.2:=⟨Mt h.s1 (My (by decide) (by decide)),Mt h.s2 (My (by decide) (by decide))⟩
theorem jQ(q:Rat):e7 q=rwD (q.num,(q.den:Int)):=rfl
theorem sk(p q y u:Rat):0<K9 p q y u:=by
 unfold K9
 exact NR (NR (NR (by have:=p.den_pos;omega) (by have:=y.den_pos;omega)) (by have:=q.den_pos;omega)) (by have:=u.den_pos;omega)
theorem ou(p q y u v:Rat):O6 p q y u*(v.den:Int)=v.num*K9 p q y u↔p*y+q*u=v:=by
 rw[← iS p q y u]
 conv=>rhs;rhs;rw[← Nn v]
 have d:=v.den_pos
 have:=sk p q y u
 exact(Pp (by omega) (by omega)).symm
theorem qT(p q y u:Rat):0<O6 p q y u↔0<p*y+q*u:=by
 rw[← iS p q y u,t4]
 have b:(0:Rat)<(K9 p q y u:Rat):=u9.mpr (sk p q y u)
 have e:((O6 p q y u:Int):Rat) / (K9 p q y u:Rat)*(K9 p q y u:Rat)=(O6 p q y u:Rat):=Nk (D6 b)
 rw[← u9]
 generalize (O6 p q y u:Rat)=T at *
 generalize (K9 p q y u:Rat)=B at *
 constructor
 ·intro h
  rw[← e]at h
  exact cX b (by rw[Ow];exact h)
 ·intro h
  rw[← e]
  exact NW h b
theorem vm(p q y u:Rat):O6 p q y u=0↔p*y+q*u=0:=by
 have:=ou p q y u 0
 rw[← this]
 show _↔O6 p q y u*1=0*K9 p q y u
 rw[OV,PN]
theorem xW{P:Prop}{i:Decidable P}{b:Bool}(h:P↔b=true):@decide P i=b:=by
 cases b with
 | true=>exact decide_eq_true (h.mpr rfl)
 | false=>exact decide_eq_false fun z=>by have:=h.mp z;cases this
local macro_rules|`(tactic| walk_at "inj")=>`(tactic| (rename_i e h;simp only[List.cons.injEq,GM.C5,GM.B4,GM.F3,GM.D5,and_true,true_and,GM.i3,GM.i5,GM.h8,GM.i6,GM.h9,D.tup.injEq,D.ref.injEq,D.int.injEq,D.str.injEq,D.bl.injEq,D.vl.injEq,MU,and_assoc]at e;(repeat(obtain⟨e1,e⟩:=e;subst e1));subst e;exact h))
local macro_rules|`(tactic| walk_at "injs")=>`(tactic| (rename_i e o h;rcases o with o|o<;>(subst o;first|(exfalso;simp only[D.tup.injEq,List.cons.injEq,reduceCtorEq,false_and,and_false]at e;done)|(simp only[List.cons.injEq,GM.C5,GM.B4,GM.F3,GM.D5,and_true,true_and,GM.i3,GM.i5,GM.h8,GM.i6,GM.h9,D.tup.injEq,D.ref.injEq,D.int.injEq,D.str.injEq,D.bl.injEq,D.vl.injEq,MU,and_assoc]at e;(repeat(obtain⟨e1,e⟩:=e;subst e1));subst e;exact h))))
abbrev aB(x y:D)(M:Mem)(R:DK)(Y:DXK):Prop:=∃ a b:Int × Int,x=rwD a∧y=rwD b∧(big a.1∧big a.2)∧(big b.1∧big b.2)∧R (.bl (decide (a.1*b.2=b.1*a.2))) M
def jA:DSp:=fun ds M R Y=>∃(x y:D),ds=[x,y]∧aB x y M R Y
theorem lB{x y:D}{M:Mem}{R:DK}{Y:DXK}:jA [x,y] M R Y=(aB x y M R Y):=propext ⟨fun z=>by obtain⟨_,_,_,_⟩:=z;walk_at "inj",fun h=>⟨x,y,rfl,h⟩⟩
abbrev V5(d:D)(x w:Rat)(M:Mem)(R:DK)(Y:DXK):Prop:=∃ a:Int × Int,d=rwD a∧(a.1.natAbs<2 ^ 5000∧a.2.natAbs<2 ^ 5000)∧(sz x≤600∧sz w≤3000)∧R (rwD (hG a x w)) M
def jy:DSp:=fun ds M R Y=>∃(d:D) (x w:Rat),ds=[d,e7 x,r9 1 w]∧V5 d x w M R Y
theorem gk{d:D}{x w:Rat}{M:Mem}{R:DK}{Y:DXK}:jy [d,e7 x,r9 1 w] M R Y=(V5 d x w M R Y):=propext ⟨fun z=>by obtain⟨_,_,_,_,_⟩:=z;walk_at "inj",fun h=>⟨d,x,w,rfl,h⟩⟩
abbrev aP(ls:List T3)(x:D)(M:Mem)(R:DK)(Y:DXK):Prop:=∃ sh:List (Int × Rat),m6 M x (sh.map shD)∧ls.length≤12∧R (.bl (shB ls.length sh)) M
def ph:DSp:=fun ds M R Y=>∃(ls:List T3) (x:D),ds=[.vl (ls.map f8),x]∧aP ls x M R Y
theorem lP{ls:List T3}{x:D}{M:Mem}{R:DK}{Y:DXK}:ph [.vl (ls.map f8),x] M R Y=(aP ls x M R Y):=propext ⟨fun z=>by obtain⟨_,_,_,_⟩:=z;walk_at "inj",fun h=>⟨ls,x,rfl,h⟩⟩
abbrev aQ(ls:List T3)(x:D)(M:Mem)(R:DK)(Y:DXK):Prop:=∃ sh:List (Int × Rat),m6 M x (sh.map shD)∧O4 ls∧shB ls.length sh=true∧(∀ s∈sh,sz s.2≤3000)∧∀ a b c:Int × Int,Raw 9000 a (ad t0 ls sh)→Raw 9000 b (ad t1 ls sh)→Raw 9000 c (ad t2 ls sh)→R (.vl [rwD a,rwD b,rwD c]) M
def pj:DSp:=fun ds M R Y=>∃(ls:List T3) (x:D),ds=[.vl (ls.map f8),x]∧aQ ls x M R Y
theorem lQ{ls:List T3}{x:D}{M:Mem}{R:DK}{Y:DXK}:pj [.vl (ls.map f8),x] M R Y=(aQ ls x M R Y):=propext ⟨fun z=>by obtain⟨_,_,_,_⟩:=z;walk_at "inj",fun h=>⟨ls,x,rfl,h⟩⟩
abbrev aN(ls:List T3)(x:D)(p q:Rat)(M:Mem)(R:DK)(Y:DXK):Prop:=∃ sh:List (Int × Rat),m6 M x (sh.map shD)∧O4 ls∧(∀ s∈sh,sz s.2≤3000)∧(sz p≤1100∧sz q≤1100)∧(¬ (shB ls.length sh=true∧ad t0 ls sh=p∧ad t1 ls sh=q)→R .non M)∧(shB ls.length sh=true∧ad t0 ls sh=p∧ad t1 ls sh=q→∀ c:Int × Int,Raw 9000 c (ad t2 ls sh)→R (rwD c) M)
def pe:DSp:=fun ds M R Y=>∃(ls:List T3) (x:D) (p q:Rat),ds=[.vl (ls.map f8),x,e7 p,e7 q]∧aN ls x p q M R Y
theorem lN{ls:List T3}{x:D}{p q:Rat}{M:Mem}{R:DK}{Y:DXK}:pe [.vl (ls.map f8),x,e7 p,e7 q] M R Y=(aN ls x p q M R Y):=propext ⟨fun z=>by obtain⟨_,_,_,_,_,_⟩:=z;walk_at "inj",fun h=>⟨ls,x,p,q,rfl,h⟩⟩
abbrev aM(ls:List T3)(p q y u:Rat)(M:Mem)(R:DK)(Y:DXK):Prop:=(O4 ls∧(sz p≤1100∧sz q≤1100)∧sz y≤3800∧sz u≤3800)∧R (.bl (nF ls p q (y,u))) M
def pd:DSp:=fun ds M R Y=>∃(ls:List T3) (p q y u:Rat),ds=[.vl (ls.map f8),e7 p,e7 q,r9 y u]∧aM ls p q y u M R Y
theorem lM{ls:List T3}{p q y u:Rat}{M:Mem}{R:DK}{Y:DXK}:pd [.vl (ls.map f8),e7 p,e7 q,r9 y u] M R Y=(aM ls p q y u M R Y):=propext ⟨fun z=>by obtain⟨_,_,_,_,_,_,_⟩:=z;walk_at "inj",fun h=>⟨ls,p,q,y,u,rfl,h⟩⟩
abbrev aE(ls:List T3)(p q:Rat)(t:D)(M:Mem)(R:DK)(Y:DXK):Prop:=∃ m:N3,sx M t m∧O4 ls∧(sz p≤1100∧sz q≤1100)∧MSz m∧R (.bl (pk ls p q m)) M
def oV:DSp:=fun ds M R Y=>∃(ls:List T3) (p q:Rat) (t:D),ds=[.vl (ls.map f8),e7 p,e7 q,t]∧aE ls p q t M R Y
theorem lE{ls:List T3}{p q:Rat}{t:D}{M:Mem}{R:DK}{Y:DXK}:oV [.vl (ls.map f8),e7 p,e7 q,t] M R Y=(aE ls p q t M R Y):=propext ⟨fun z=>by obtain⟨_,_,_,_,_,_⟩:=z;walk_at "inj",fun h=>⟨ls,p,q,t,rfl,h⟩⟩
abbrev V4(p q y u:Rat)(M:Mem)(R:DK)(Y:DXK):Prop:=(sz p+sz q+sz y+sz u≤8900)∧R (e7 (p*y+q*u)) M
def cN:DSp:=fun ds M R Y=>∃(p q y u:Rat),ds=[e7 p,e7 q,r9 y u]∧V4 p q y u M R Y
theorem gh{p q y u:Rat}{M:Mem}{R:DK}{Y:DXK}:cN [e7 p,e7 q,r9 y u] M R Y=(V4 p q y u M R Y):=propext ⟨fun z=>by obtain⟨_,_,_,_,_,_⟩:=z;walk_at "inj",fun h=>⟨p,q,y,u,rfl,h⟩⟩
abbrev aG(ls:List T3)(y u:Rat)(M:Mem)(R:DK)(Y:DXK):Prop:=(eY ls∧sz y≤3800∧sz u≤3800)∧R (.bl (E6 ls y u)) M
def oX:DSp:=fun ds M R Y=>∃(ls:List T3) (y u:Rat),ds=[.vl (ls.map f8),r9 y u]∧aG ls y u M R Y
theorem lH{ls:List T3}{y u:Rat}{M:Mem}{R:DK}{Y:DXK}:oX [.vl (ls.map f8),r9 y u] M R Y=(aG ls y u M R Y):=propext ⟨fun z=>by obtain⟨_,_,_,_,_⟩:=z;walk_at "inj",fun h=>⟨ls,y,u,rfl,h⟩⟩
abbrev W0(ls:List T3)(x:D)(M:Mem)(R:DK)(Y:DXK):Prop:=∃ sh:List (Int × Rat),m6 M x (sh.map shD)∧eY ls∧shB ls.length sh=true∧(∀ s∈sh,sz s.2≤3000)∧R (.vl [e7 (ad t0 ls sh),e7 (ad t1 ls sh),e7 (ad t2 ls sh)]) M
def jG:DSp:=fun ds M R Y=>∃(ls:List T3) (x:D),ds=[.vl (ls.map f8),x]∧W0 ls x M R Y
theorem gq{ls:List T3}{x:D}{M:Mem}{R:DK}{Y:DXK}:jG [.vl (ls.map f8),x] M R Y=(W0 ls x M R Y):=propext ⟨fun z=>by obtain⟨_,_,_,_⟩:=z;walk_at "inj",fun h=>⟨ls,x,rfl,h⟩⟩
abbrev cS(ls:List T3)(x:D)(M:Mem)(R:DK)(Y:DXK):Prop:=∃ sh:List (Int × Rat),m6 M x (sh.map shD)∧ls.length≤12∧sh.length≤20∧R (.bl (shB ls.length sh)) M
def vU:DSp:=fun ds M R Y=>∃(ls:List T3) (x:D),ds=[.vl (ls.map f8),x]∧cS ls x M R Y
theorem qj{ls:List T3}{x:D}{M:Mem}{R:DK}{Y:DXK}:vU [.vl (ls.map f8),x] M R Y=(cS ls x M R Y):=propext ⟨fun z=>by obtain⟨_,_,_,_⟩:=z;walk_at "inj",fun h=>⟨ls,x,rfl,h⟩⟩
abbrev V9(ls:List T3)(p q:Rat)(t:D)(M:Mem)(R:DK)(Y:DXK):Prop:=∃ m:N3,sx M t m∧eY ls∧(sz p≤530∧sz q≤530)∧MSz m∧R (.bl (pk ls p q m)) M
def jF:DSp:=fun ds M R Y=>∃(ls:List T3) (p q:Rat) (t:D),ds=[.vl (ls.map f8),e7 p,e7 q,t]∧V9 ls p q t M R Y
theorem gp{ls:List T3}{p q:Rat}{t:D}{M:Mem}{R:DK}{Y:DXK}:jF [.vl (ls.map f8),e7 p,e7 q,t] M R Y=(V9 ls p q t M R Y):=propext ⟨fun z=>by obtain⟨_,_,_,_,_,_⟩:=z;walk_at "inj",fun h=>⟨ls,p,q,t,rfl,h⟩⟩
abbrev V8(p:Addr)(n:Int)(M:Mem)(R:DK)(Y:DXK):Prop:=A9 M p∧(0≤n∧n≤5)∧∀(ls:List T3) M',(ls.length:Int)≤n→(∀ l∈ls,L24 l)→q9 p M M'→R (.vl (ls.map f8)) M'
def jE:DSp:=fun ds M R Y=>∃(p:Addr) (n:Int),ds=[.ref p,.int n]∧V8 p n M R Y
theorem gn{p:Addr}{n:Int}{M:Mem}{R:DK}{Y:DXK}:jE [.ref p,.int n] M R Y=(V8 p n M R Y):=propext ⟨fun z=>by obtain⟨_,_,_,_⟩:=z;walk_at "inj",fun h=>⟨p,n,rfl,h⟩⟩
abbrev W6(xs:List D)(n:Int)(M:Mem)(R:DK)(Y:DXK):Prop:=∃(ns:List Int) (k:Nat),n=(k:Int)∧(1≤k∧k≤5)∧xs=ns.map D.int∧ns.length≤63∧∀ ms:List Int,ms.length≤k→R (.vl (ms.map D.int)) M
def jL:DSp:=fun ds M R Y=>∃(xs:List D) (n:Int),ds=[.vl xs,.int n]∧W6 xs n M R Y
theorem gx{xs:List D}{n:Int}{M:Mem}{R:DK}{Y:DXK}:jL [.vl xs,.int n] M R Y=(W6 xs n M R Y):=propext ⟨fun z=>by obtain⟨_,_,_,_⟩:=z;walk_at "inj",fun h=>⟨xs,n,rfl,h⟩⟩
abbrev aO(p:Addr)(ls:List T3)(M:Mem)(R:DK)(Y:DXK):Prop:=(A9 M p∧eY ls)∧∀(a b:Rat) M',sz a≤530→sz b≤530→q9 p M M'→R (r9 a b) M'
def pf:DSp:=fun ds M R Y=>∃(p:Addr) (ls:List T3),ds=[.ref p,.vl (ls.map f8)]∧aO p ls M R Y
theorem lO{p:Addr}{ls:List T3}{M:Mem}{R:DK}{Y:DXK}:pf [.ref p,.vl (ls.map f8)] M R Y=(aO p ls M R Y):=propext ⟨fun z=>by obtain⟨_,_,_,_⟩:=z;walk_at "inj",fun h=>⟨p,ls,rfl,h⟩⟩
end GM
namespace GM
open PySem PySem.Spec L2 DL
open RM (sz)
local macro_rules|`(tactic| walk_at "inj")=>`(tactic| (rename_i e h;simp only[List.cons.injEq,GM.C5,GM.B4,GM.F3,GM.D5,and_true,true_and,GM.i3,GM.i5,GM.h8,GM.i6,GM.h9,D.tup.injEq,D.ref.injEq,D.int.injEq,D.str.injEq,D.bl.injEq,D.vl.injEq,MU,and_assoc]at e;(repeat(obtain⟨e1,e⟩:=e;subst e1));subst e;exact h))
local macro_rules|`(tactic| walk_at "injs")=>`(tactic| (rename_i e o h;rcases o with o|o<;>(subst o;first|(exfalso;simp only[D.tup.injEq,List.cons.injEq,reduceCtorEq,false_and,and_false]at e;done)|(simp only[List.cons.injEq,GM.C5,GM.B4,GM.F3,GM.D5,and_true,true_and,GM.i3,GM.i5,GM.h8,GM.i6,GM.h9,D.tup.injEq,D.ref.injEq,D.int.injEq,D.str.injEq,D.bl.injEq,D.vl.injEq,MU,and_assoc]at e;(repeat(obtain⟨e1,e⟩:=e;subst e1));subst e;exact h))))
structure MSk(k:Nat)(m:N3):Prop where
 free:∀ z,m = .free z→sz z.1≤3710+42*k∧sz z.2≤3710+42*k
 most:∀ v z sh,m = .most v z sh→sz v≤4400+42*k∧(sz z.1≤3710+42*k∧sz z.2≤3710+42*k)∧sh.length≤2+k∧∀ s∈sh,sz s.2≤2700+42*k
theorem MSk.sz{k:Nat}{m:N3}(h:MSk k m)(hk:k≤2):MSz m:=⟨fun z e=>by have:=h.free z e;omega,fun v z sh e=>by obtain⟨a,b,c,d⟩:=h.most v z sh e;exact⟨by omega,by omega,by omega,fun s hs=>by have:=d s hs;omega⟩⟩
abbrev gZ(p:Addr)(t:D)(ls:List T3)(M:Mem)(R:DK)(Y:DXK):Prop:=∃(m:N3) (k:Nat),t=m.toD∧A9 M p∧ls.length≤12∧k≤1∧MSk k m∧∀(m':N3) M',MSk (k+1) m'→q9 p M M'→R m'.toD M'
theorem MSk.up{k:Nat}{m:N3}(h:MSk k m):MSk (k+1) m:=⟨fun z e=>by have:=h.free z e;omega,fun v z sh e=>by obtain⟨a,b,c,d⟩:=h.most v z sh e;exact⟨by omega,by omega,by omega,fun s hs=>by have:=d s hs;omega⟩⟩
theorem Jr{p q:Rat}(h1:sz p≤530)(h2:sz q≤530):cb2 p q<2 ^ 1060:=by
 refine MP (kJ p q) ?_
 rw[show 1060=530+530 from rfl,Nt]
 exact ND (o8 _ h1) (o8 _ h2)
theorem IB{p q:Rat}(h1:sz p≤530)(h2:sz q≤530):(wtF p q).1.natAbs<2 ^ 1060∧(wtF p q).2.natAbs<2 ^ 1060:=by
 have e:=kJ p q
 have d1:=o8 _ h1
 have d2:=o8 _ h2
 refine⟨?_,?_⟩
 ·show(O5 p (cb2 p q)).natAbs<_
  unfold O5
  rw[Nf,MC,show 1060=530+530 from rfl,Nt]
  exact Ny (L1 p h1) (ME (NT e) (NC d2)) (OH (by decide))
 ·show(O5 q (cb2 p q)).natAbs<_
  unfold O5
  rw[Nf,MC,show 1060=530+530 from rfl,Nt]
  exact Ny (L1 q h2) (ME (NT (by rw[Oh];exact e)) (NC d1)) (OH (by decide))
theorem Ih{l:T3}(h:LSz 262 l):cbL l<2 ^ 786:=by
 have e:cbL l≤l.1.den*l.2.1.den*l.2.2.den:=by
  have a:=C7 (A3 (A3 1 l.1.den) l.2.1.den) l.2.2.den
  have b:=C7 (A3 1 l.1.den) l.2.1.den
  have c:=C7 1 l.1.den
  rw[Qm]at c
  exact ME a (Nm _ (ME b (Nm _ c)))
 refine MP e ?_
 rw[show 786=262+262+262 from rfl,Nt,Nt]
 exact ND (ND (o8 _ h.p) (o8 _ h.q)) (o8 _ h.r)
theorem GS{ls:List T3}(h:eY ls):∀ s∈f6 ls,s.2.2.2.2.natAbs<2 ^ 786:=fun s hs=>by
 obtain⟨l,hl,j,e⟩:=C4 hs
 have:=Ih (h.2 l hl).z
 rcases e with rfl|rfl
 ·show((cbL l:Nat):Int).natAbs<_;rw[MC];exact this
 ·show(-((cbL l:Nat):Int)).natAbs<_;rw[Nz,MC];exact this
theorem oy{a b:Int}{n:Nat}(h1:a.natAbs<2 ^ n)(h2:b.natAbs<2 ^ n):(a - b).natAbs<2 ^ (n+1):=by
 have:=Oj a b
 rw[NJ]
 omega
theorem CT{x y c s:Int}(hx:x.natAbs<2 ^ 1861)(hs:s.natAbs<2 ^ 786)(hc:c.natAbs<2 ^ 1060)(hy:y.natAbs<2 ^ 1601)(hn:c*y≠0):sz (MZ (x*s) (c*y))≤2700 :=
 M0 (by decide) (Mt (m7 hx hs) (My (by decide) (by decide))) (Mt (m7 hc hy) (My (by decide) (by decide))) hn
theorem Bg{ls:List T3}(h24:eY ls){p q:Rat}(hp:sz p≤530)(hq:sz q≤530):MSk 0 (K6 ls p q):=by
 have h:=h24.a
 have s1:=RM.vz
 have s0:=RM.ak
 unfold K6
 by_cases c:p=0∧q=0
 ·rw[if_pos c]
  refine⟨fun z hz=>(by cases hz),fun v z sh hz=>?_⟩
  cases hz
  exact⟨by show sz 0≤_;omega,⟨by show sz 0≤_;omega,by show sz 0≤_;omega⟩,Np _,fun s hs=>by cases hs⟩
 rw[if_neg c]
 by_cases hne:ls=[]
 ·subst hne
  refine⟨fun z hz=>?_,fun v z sh hz=>by cases hz⟩
  cases hz
  exact⟨by show sz p≤_;omega,by show sz q≤_;omega⟩
 obtain⟨h0,l,e,m0,hh⟩:=F5 h.lo hne
 rw[e]
 cases l with
 | nil =>
  obtain⟨m,j,em,en,eq⟩:=S4 m0
  have hm:=(h24.2 m (MI em)).z
  have mn:=(h24.2 m (MI em)).ok.ne
  have z1:=hm.p
  have z2:=hm.q
  have z3:=hm.r
  show MSk 0 (F6 (ls.getD h0.2.2.2.1.toNat (0,0,0)) h0.2.2.2.1 p q)
  rw[en,MY,MW,em]
  show MSk 0 (F6 m (j:Int) p q)
  unfold F6
  split
  ·refine⟨fun z hz=>?_,fun v z sh hz=>by cases hz⟩
   cases hz
   exact⟨by show sz m.2.1≤_;omega,by show sz (-m.1)≤_;rw[RM.bu];omega⟩
  ·split
   ·refine⟨fun z hz=>?_,fun v z sh hz=>by cases hz⟩
    cases hz
    exact⟨by show sz (-m.2.1)≤_;rw[RM.bu];omega,by show sz m.1≤_;omega⟩
   ·have sh:sz (if m.1=0 then q / m.2.1 else p / m.1)≤792:=by
     split
     ·rename_i w
      have:=RM.Y6 q m.2.1 (fun w2=>mn ⟨w,w2⟩)
      omega
     ·rename_i w
      have:=RM.Y6 p m.1 w
      omega
    generalize (if m.1=0 then q / m.2.1 else p / m.1)=s at *
    refine⟨fun z hz=>(by cases hz),fun v z sh hz=>?_⟩
    cases hz
    have a1:=Y7 s
    have a2:=RM.u8 (j4 s) m.2.2
    have sq:=iV c
    have a3:=RM.u8 p p
    have a4:=RM.u8 q q
    have a5:sz (sqZ p q)≤sz (p*p)+sz (q*q)+1:=RM.J7 (p*p) (q*q)
    have a6:=RM.Y6 (j4 s*m.2.2) (sqZ p q) (D6 sq)
    have a7:=RM.u8 p (j4 s*m.2.2 / sqZ p q)
    have a8:=RM.u8 q (j4 s*m.2.2 / sqZ p q)
    exact⟨by omega,⟨by show sz (p*_)≤_;omega,by show sz (q*_)≤_;omega⟩,by show 1≤_;omega,fun t ht=>by rw[Nc.mp ht];show sz s≤_;omega⟩
 | cons x l =>
  obtain⟨a,b,ea,A⟩:=bj h.lo e (qS c)
  obtain⟨v1,_⟩:=su A
  have vp:=A.ve
  obtain⟨r1,r2⟩:=GV h A.ma A.mb (by omega)
  show MSk 0 (match kS (h0 :: x :: l) (wtF p q)with|none=>N3.free (0,0)|some (a,b)=>.most (vlF a b (wtF p q) (cb2 p q)) (ry (tri a) (tri b)) (shF a b (wtF p q) (cb2 p q)))
  rw[ea]
  refine⟨fun z hz=>(by cases hz),fun v z sh hz=>?_⟩
  cases hz
  rw[v1]
  have m1:=RM.u8 p (ry (tri a) (tri b)).1
  have m2:=RM.u8 q (ry (tri a) (tri b)).2
  have m3:=RM.J7 (p*(ry (tri a) (tri b)).1) (q*(ry (tri a) (tri b)).2)
  refine⟨by omega,⟨by omega,by omega⟩,?_,fun t ht=>?_⟩
  ·unfold shF
   rw[vC]
   exact ME (Of _ _) (by show 2≤2+0;decide)
  ·have hb1:=h.bits a A.ma
   have hb2:=h.bits b A.mb
   obtain⟨w1,w2⟩:=IB hp hq
   have cc:=Jr hp hq
   have cpos:=bh p q
   have hy:(veZ a b).natAbs<2 ^ 1601:=by
    unfold veZ
    exact oy (m7 hb1.1 hb2.2.1) (m7 hb1.2.1 hb2.1)
   have hx1:(wVe (wtF p q) b).natAbs<2 ^ 1861:=by
    unfold wVe
    exact oy (m7 w1 hb2.2.1) (m7 w2 hb2.1)
   have hx2:(veW a (wtF p q)).natAbs<2 ^ 1861:=by
    unfold veW
    have q1:=m7 hb1.1 w2
    have q2:=m7 hb1.2.1 w1
    exact oy (n:=1860) q1 q2
   have hn:((cb2 p q:Nat):Int)*veZ a b≠0:=Nj (by omega) (by omega)
   have hc:((cb2 p q:Nat):Int).natAbs<2 ^ 1060:=by rw[MC];exact cc
   have mem:t∈[(a.2.2.2.1,MZ (wVe (wtF p q) b*a.2.2.2.2) (cb2 p q*veZ a b)),(b.2.2.2.1,MZ (veW a (wtF p q)*b.2.2.2.2) (cb2 p q*veZ a b))]:=by
    have:∀(L:List (Int × Rat)),t∈dQ L→t∈L:=fun L h=>by
     unfold dQ at h
     split at h
     ·split at h
      ·simp only[Mv,MG,or_false]at h ⊢
       exact h.symm
      ·exact h
     ·exact h
    exact(PH.mp (this _ ht)).1
   simp only[Mv,MG,or_false]at mem
   rcases mem with rfl|rfl
   ·exact CT hx1 (GS h24 a A.ma) hc hy hn
   ·exact CT hx2 (GS h24 b A.mb) hc hy hn
end GM
namespace GM
open PySem PySem.Spec L2 DL
open RM (sz)
theorem ow(l:T3):t0 0 l=0∧t1 0 l=0∧t2 0 l=0:=by
 have:j4 0=0:=by decide +kernel
 unfold t0 t1 t2
 rw[this]
 exact⟨by grind,by grind,by grind⟩
theorem DS{n:Nat}{i j:Int}{r1 r2:Rat}(hi:0≤i∧i<n)(hj:0≤j∧j<n)(hn:i≠j):shB n (dQ ([(i,r1),(j,r2)].filter fun s=>decide (s.2≠0)))=true ∧
  ∀(t:Rat→T3→Rat) (ls:List T3),(∀ l,t 0 l=0)→ad t ls (dQ ([(i,r1),(j,r2)].filter fun s=>decide (s.2≠0)))=t r1 (ls.getD i.toNat (0,0,0))+t r2 (ls.getD j.toNat (0,0,0)):=by
 have one:∀(k:Int) (r:Rat),0≤k∧k<n→r≠0→shB n [(k,r)]=true:=fun k r hk hr=>by
  unfold shB
  rw[decide_eq_true (show([(k,r)]:List (Int × Rat)).length≤2 from Ou 1),Nb,T7 (by show -1<k;omega) hk.2 hr]
  rfl
 have two:∀(k m:Int) (r s:Rat),0≤k∧k<n→0≤m∧m<n→k<m→r≠0→s≠0→shB n [(k,r),(m,s)]=true:=fun k m r s hk hm hkm hr hs=>by
  unfold shB
  rw[decide_eq_true (show([(k,r),(m,s)]:List (Int × Rat)).length≤2 from MM 2),Nb,T7 (by show -1<k;omega) hk.2 hr,T7 hkm hm.2 hs]
  rfl
 have ad1:∀(t:Rat→T3→Rat) (ls:List T3) (k:Int) (r:Rat),ad t ls [(k,r)]=t r (ls.getD k.toNat (0,0,0)):=fun t ls k r=>by
  show 0+t r (ls.getD k.toNat (0,0,0))=_
  rw[Ox]
 have ad2:∀(t:Rat→T3→Rat) (ls:List T3) (k m:Int) (r s:Rat),ad t ls [(k,r),(m,s)]=t r (ls.getD k.toNat (0,0,0))+t s (ls.getD m.toNat (0,0,0)):=fun t ls k m r s=>by
  show 0+t r (ls.getD k.toNat (0,0,0))+t s (ls.getD m.toNat (0,0,0))=_
  rw[Ox]
 by_cases c1:r1=0
 ·by_cases c2:r2=0
  ·have e:([(i,r1),(j,r2)]:List (Int × Rat)).filter (fun s=>decide (s.2≠0))=[]:=by simp[c1,c2]
   rw[e]
   refine⟨rfl,fun t ls h0=>?_⟩
   rw[c1,c2,h0,h0]
   show(0:Rat)=0+0
   rw[Ox]
  ·have e:([(i,r1),(j,r2)]:List (Int × Rat)).filter (fun s=>decide (s.2≠0))=[(j,r2)]:=by simp[c1,c2]
   rw[e]
   refine⟨one j r2 hj c2,fun t ls h0=>?_⟩
   show ad t ls [(j,r2)]=_
   rw[ad1,c1,h0,Ox]
 ·by_cases c2:r2=0
  ·have e:([(i,r1),(j,r2)]:List (Int × Rat)).filter (fun s=>decide (s.2≠0))=[(i,r1)]:=by simp[c1,c2]
   rw[e]
   refine⟨one i r1 hi c1,fun t ls h0=>?_⟩
   show ad t ls [(i,r1)]=_
   rw[ad1,c2,h0,Pf]
  ·have e:([(i,r1),(j,r2)]:List (Int × Rat)).filter (fun s=>decide (s.2≠0))=[(i,r1),(j,r2)]:=by simp[c1,c2]
   rw[e]
   by_cases d:j<i
   ·have e2:dQ [(i,r1),(j,r2)]=[(j,r2),(i,r1)]:=by show(if j<i then _ else _)=_;rw[if_pos d]
    rw[e2]
    exact⟨two j i r2 r1 hj hi d c2 c1,fun t ls _=>by rw[ad2,Rat.add_comm]⟩
   ·have e2:dQ [(i,r1),(j,r2)]=[(i,r1),(j,r2)]:=by show(if j<i then _ else _)=_;rw[if_neg d]
    rw[e2]
    exact⟨two i j r1 r2 hi hj (by omega) c1 c2,fun t ls _=>ad2 t ls i j r1 r2⟩
theorem gX{ls:List T3}{s:Sd}(hok:∀ l∈ls,LineOk l)(hs:s∈f6 ls):∃(l:T3) (j:Nat),ls[j]? = some l∧s.2.2.2.1=(j:Int)∧(tri s).1=l.1*(s.2.2.2.2:Rat)∧(tri s).2.1=l.2.1*(s.2.2.2.2:Rat)∧(tri s).2.2=l.2.2*j4 (s.2.2.2.2:Rat):=by
 obtain⟨l,j,e,en,q⟩:=S4 hs
 have ts:=C2 l j
 have cp:(0:Rat)<(cbL l:Rat):=E3 l
 refine⟨l,j,e,en,?_⟩
 rcases q with rfl|rfl
 ·have sc:(((g6 l j).2.2.2.2:Int):Rat)=(cbL l:Rat):=by show(((cbL l:Nat):Int):Rat)=_;rw[Nq]
  rw[sc,ts]
  refine⟨rfl,rfl,?_⟩
  rcases A8 (cbL l:Rat)with⟨_,w⟩|⟨h,_⟩
  ·rw[w]
  ·grind
 ·have sc:(((i9 (g6 l j)).2.2.2.2:Int):Rat) = -(cbL l:Rat):=by show((-((cbL l:Nat):Int):Int):Rat)=_;rw[OE,Nq]
  rw[sc,B1,ts]
  refine⟨?_,?_,?_⟩
  ·show -(l.1*(cbL l:Rat))=_;grind
  ·show -(l.2.1*(cbL l:Rat))=_;grind
  ·show l.2.2*(cbL l:Rat)=_
   rcases A8 (-(cbL l:Rat))with⟨h,_⟩|⟨_,w⟩
   ·grind
   ·rw[w];grind
theorem nW(x y:Rat):j4 (x*y)=j4 x*j4 y:=by
 rcases A8 x with⟨h1,e1⟩|⟨h1,e1⟩<;>rcases A8 y with⟨h2,e2⟩|⟨h2,e2⟩<;>rw[e1,e2]
 ·have:=MQ h1 h2
  rcases A8 (x*y)with⟨h,e⟩|⟨h,e⟩
  ·exact e
  ·grind
 ·have:=MQ h1 (show 0 ≤ -y by grind)
  rcases A8 (x*y)with⟨h,e⟩|⟨h,e⟩
  ·rw[e];grind
  ·rw[e];grind
 ·have:=MQ (show 0 ≤ -x by grind) h2
  rcases A8 (x*y)with⟨h,e⟩|⟨h,e⟩
  ·rw[e];grind
  ·rw[e];grind
 ·have:=MQ (show 0 ≤ -x by grind) (show 0 ≤ -y by grind)
  rcases A8 (x*y)with⟨h,e⟩|⟨h,e⟩
  ·rw[e];grind
  ·grind
theorem yq{x:Rat}(h:0≤x):j4 x=x:=by
 rcases A8 x with⟨_,e⟩|⟨h2,_⟩
 ·exact e
 ·grind
theorem nV(x y d:Rat):(x+y) / d=x / d+y / d:=by rw[Oi,Oi,Oi,Rat.add_mul]
theorem ar{x s d:Rat}(hx:0≤x)(hd:0<d){P L:Rat}(e:P=L*s):x*s / d*L=x*P / d:=by
 rw[e]
 have n:=D6 hd
 have:x*s / d*L*d=x*(L*s):=by
  have:=Nk (a:=x*s) n
  grind
 have h2:=Nk (a:=x*(L*s)) n
 grind
theorem qZ{x s d:Rat}(hx:0≤x)(hd:0<d){P L:Rat}(e:P=L*j4 s):j4 (x*s / d)*L=x*P / d:=by
 have n:=D6 hd
 have e1:j4 (x*s / d)=x*j4 s / d:=by
  rw[Oi,nW,nW,yq hx,yq (Q5 (Rat.inv_pos.mpr hd)),← Oi]
 rw[e1]
 exact ar hx hd e
theorem Bh{ls:List T3}(hok:∀ l∈ls,LineOk l)(p q:Rat):pk ls p q (K6 ls p q)=true:=by
 have mm:=bE hok p q
 cases e:K6 ls p q with
 | free z =>
  obtain⟨h1,h2,h3,h4,h5⟩:=mm.free z e
  show nF ls p q z=true
  unfold nF
  rw[decide_eq_true h4,Nb,NG]
  exact fun l hl=>decide_eq_true (h3 l hl)
 | most v z sh =>
  obtain⟨h1,h2,h3,h4⟩:=mm.most v z sh e
  show wX ls p q v z sh=true
  unfold wX
  rw[h1,decide_eq_true h2.symm,Nb,Nb,Na,decide_eq_true_eq]
  unfold K6 at e
  by_cases c:p=0∧q=0
  ·rw[if_pos c]at e
   cases e
   exact⟨rfl,c.1.symm,c.2.symm,rfl⟩
  rw[if_neg c]at e
  by_cases hne:ls=[]
  ·subst hne;cases e
  obtain⟨h0,l,eh,m0,hh⟩:=F5 hok hne
  rw[eh]at e
  cases l with
  | nil =>
   obtain⟨m,j,em,en,eq⟩:=S4 m0
   have hm:=MI em
   have mn:=(hok m hm).ne
   have hj:j<ls.length:=(MH.mp em).1
   have e:F6 (ls.getD h0.2.2.2.1.toNat (0,0,0)) h0.2.2.2.1 p q = .most v z sh:=e
   rw[en,MY,MW,em]at e
   have e:F6 m (j:Int) p q = .most v z sh:=e
   unfold F6 at e
   by_cases c1:m.1*q - p*m.2.1<0
   ·rw[if_pos c1]at e;cases e
   rw[if_neg c1]at e
   by_cases c2:0<m.1*q - p*m.2.1
   ·rw[if_pos c2]at e;cases e
   rw[if_neg c2]at e
   have c0:m.1*q - p*m.2.1=0:=by grind
   obtain⟨s,es,ep,eq⟩:∃ s:Rat,(if m.1=0 then q / m.2.1 else p / m.1)=s∧p=s*m.1∧q=s*m.2.1:=by
    by_cases z:m.1=0
    ·have n2:m.2.1≠0:=fun w=>mn ⟨z,w⟩
     rw[if_pos z]
     refine⟨q / m.2.1,rfl,?_,?_⟩
     ·rw[z]at c0 ⊢
      have:p*m.2.1=0:=by grind
      grind
     ·grind
    ·rw[if_neg z]
     exact⟨p / m.1,rfl,by grind,by grind⟩
   rw[es]at e
   have s0:s≠0:=fun w=>c ⟨by rw[ep,w];grind,by rw[eq,w];grind⟩
   cases e
   have gj:ls.getD ((j:Int)).toNat (0,0,0)=m:=by rw[MY,MW,em];rfl
   refine⟨?_,?_,?_,?_⟩
   ·unfold shB
    rw[decide_eq_true (show([((j:Int),s)]:List (Int × Rat)).length≤2 from Ou 1),Nb,T7 (by show -1<(j:Int);omega) (by show(j:Int)<_;omega) s0]
    rfl
   ·show 0+t0 s (ls.getD ((j:Int)).toNat (0,0,0))=p
    rw[gj,Ox];exact ep.symm
   ·show 0+t1 s (ls.getD ((j:Int)).toNat (0,0,0))=q
    rw[gj,Ox];exact eq.symm
   ·show 0+t2 s (ls.getD ((j:Int)).toNat (0,0,0))=_
    rw[gj,Ox];rfl
  | cons x l =>
   obtain⟨a,b,ea,A⟩:=bj hok eh (qS c)
   have e:(match kS (h0 :: x :: l) (wtF p q)with|none=>N3.free (0,0)|some (a,b)=>.most (vlF a b (wtF p q) (cb2 p q)) (ry (tri a) (tri b)) (shF a b (wtF p q) (cb2 p q))) = .most v z sh:=e
   rw[ea]at e
   obtain⟨la,i,ei,ni,a1,a2,a3⟩:=gX hok A.ma
   obtain⟨lb,j,ej,nj,b1,b2,b3⟩:=gX hok A.mb
   have hi:=(MH.mp ei).1
   have hj:=(MH.mp ej).1
   have hn:a.2.2.2.1≠b.2.2.2.1:=rq A.ma A.mb (by have:=A.ve;omega)
   obtain⟨w1,w2⟩:=iQ p q
   have cc:(0:Rat)<(cb2 p q:Rat):=by exact_mod_cast bh p q
   have V:(0:Rat)<ve (tri a) (tri b):=by rw[v6];exact u9.mpr A.ve
   have ka:(0:Rat)≤ve (tri a) (wT (wtF p q)):=by rw[oj];exact nR.mpr A.ka
   have kb:(0:Rat)<ve (wT (wtF p q)) (tri b):=by rw[oi];exact u9.mpr A.kb
   have hd:(0:Rat)<(cb2 p q:Rat)*ve (tri a) (tri b):=NW cc V
   have d1:MZ (wVe (wtF p q) b*a.2.2.2.2) (cb2 p q*veZ a b)=ve (wT (wtF p q)) (tri b)*(a.2.2.2.2:Rat) / ((cb2 p q:Rat)*ve (tri a) (tri b)):=by
    rw[t4,ML,ML,Nq,← v6,← oi]
   have d2:MZ (veW a (wtF p q)*b.2.2.2.2) (cb2 p q*veZ a b)=ve (tri a) (wT (wtF p q))*(b.2.2.2.2:Rat) / ((cb2 p q:Rat)*ve (tri a) (tri b)):=by
    rw[t4,ML,ML,Nq,← v6,← oj]
   have d3:vlF a b (wtF p q) (cb2 p q)=(ve (wT (wtF p q)) (tri b)*(tri a).2.2+ve (tri a) (wT (wtF p q))*(tri b).2.2) / ((cb2 p q:Rat)*ve (tri a) (tri b)):=by
    unfold vlF
    rw[t4,OD,ML,ML,ML,Nq,← v6,← oi,← oj]
    rfl
   cases e
   unfold shF
   rw[d1,d2,d3]
   obtain⟨t1',t2'⟩:=DS (n:=ls.length) (i:=a.2.2.2.1) (j:=b.2.2.2.1) (r1:=ve (wT (wtF p q)) (tri b)*(a.2.2.2.2:Rat) / ((cb2 p q:Rat)*ve (tri a) (tri b))) (r2:=ve (tri a) (wT (wtF p q))*(b.2.2.2.2:Rat) / ((cb2 p q:Rat)*ve (tri a) (tri b))) (by rw[ni];omega) (by rw[nj];omega) hn
   have gi:ls.getD a.2.2.2.1.toNat (0,0,0)=la:=by rw[ni,MY,MW,ei];rfl
   have gj:ls.getD b.2.2.2.1.toNat (0,0,0)=lb:=by rw[nj,MY,MW,ej];rfl
   have n:=D6 hd
   have fin:∀ X Y Z:Rat,(X+Y)=Z*((cb2 p q:Rat)*ve (tri a) (tri b))→X / ((cb2 p q:Rat)*ve (tri a) (tri b))+Y / ((cb2 p q:Rat)*ve (tri a) (tri b))=Z:=fun X Y Z h=>by
    rw[← nV,h,OF n]
   refine⟨t1',?_,?_,?_⟩
   ·rw[t2' t0 ls fun l=>(ow l).1,gi,gj]
    unfold t0
    rw[ar (Q5 kb) hd a1,ar ka hd b1]
    refine fin _ _ _ ?_
    have wt1:(wT (wtF p q)).1=p*(cb2 p q:Rat):=w1
    unfold ve
    generalize (wT (wtF p q)).2.1=W2 at *
    rw[wt1]
    grind
   ·rw[t2' t1 ls fun l=>(ow l).2.1,gi,gj]
    unfold t1
    rw[ar (Q5 kb) hd a2,ar ka hd b2]
    refine fin _ _ _ ?_
    have wt2:(wT (wtF p q)).2.1=q*(cb2 p q:Rat):=w2
    unfold ve
    generalize (wT (wtF p q)).1=W1 at *
    rw[wt2]
    grind
   ·rw[t2' t2 ls fun l=>(ow l).2.2,gi,gj]
    unfold t2
    rw[qZ (Q5 kb) hd a3,qZ ka hd b3,← nV]
theorem iL{l:T3}{p q:Rat}:l.1*q - p*l.2.1=0↔l.1*q=l.2.1*p:=by constructor<;>intro h<;>grind
noncomputable def L4(ls:List T3)(p q:Rat):Bool:=!(decide (p=0) && decide (q=0)) && ls.all fun l=>!decide (l.1*q=l.2.1*p) && decide (l.1*(ls.headD (0,0,0)).2.1=l.2.1*(ls.headD (0,0,0)).1)
theorem eW{ls:List T3}(hok:∀ l∈ls,LineOk l)(h:∀ l∈ls,l.1*(ls.headD (0,0,0)).2.1=l.2.1*(ls.headD (0,0,0)).1):G3 ls:=fun a ha b hb=>by
 cases ls with
 | nil=>cases ha
 | cons g r =>
  have h1:=h a ha
  have h2:=h b hb
  have n:=(hok g Mz).ne
  have h1:a.1*g.2.1=a.2.1*g.1:=h1
  have h2:b.1*g.2.1=b.2.1*g.1:=h2
  by_cases c:g.1=0
  ·have d:g.2.1≠0:=fun z=>n ⟨c,z⟩
   rw[c]at h1 h2
   have e1:a.1=0:=by grind
   have e2:b.1=0:=by grind
   rw[e1,e2];grind
  ·have:g.1*(a.1*b.2.1)=g.1*(b.1*a.2.1):=by grind
   grind
theorem xE{ls:List T3}(hok:∀ l∈ls,LineOk l){p q:Rat}{z:Zr}(e:K6 ls p q = .free z):L4 ls p q=true:=by
 obtain⟨h1,h2,h3,h4,h5⟩:=(bE hok p q).free z e
 unfold L4
 rw[Na,NG]
 refine⟨?_,fun l hl=>?_⟩
 ·cases c:(decide (p=0) && decide (q=0))with
  | false=>rfl
  | true =>
   rw[Na,decide_eq_true_eq,decide_eq_true_eq]at c
   exact absurd c h1
 ·rw[Na,decide_eq_true_eq]
  refine⟨by rw[decide_eq_false fun z=>h5 l hl (iL.mpr z)];rfl,?_⟩
  cases ls with
  | nil=>cases hl
  | cons g r =>
   have:=h2 l hl g Mz
   show l.1*g.2.1=l.2.1*g.1
   grind
theorem Bz{ls:List T3}(hok:∀ l∈ls,LineOk l){p q v:Rat}{z:Zr}{sh:List (Int × Rat)}(e:K6 ls p q = .most v z sh):L4 ls p q=false:=by
 obtain⟨h1,h2,h3,h4⟩:=(bE hok p q).most v z sh e
 rw[QA]
 intro c
 unfold L4 at c
 rw[Na,NG]at c
 obtain⟨c1,c2⟩:=c
 have c3:∀ l∈ls,¬ l.1*q=l.2.1*p∧l.1*(ls.headD (0,0,0)).2.1=l.2.1*(ls.headD (0,0,0)).1:=fun l hl=>by
  have:=c2 l hl
  rw[Na,decide_eq_true_eq]at this
  refine⟨fun z=>?_,this.2⟩
  have h:=this.1
  rw[decide_eq_true z]at h
  cases h
 rcases h4 with⟨a,b⟩|⟨_,l,hl,hz⟩|h
 ·rw[decide_eq_true a,decide_eq_true b]at c1
  cases c1
 ·exact(c3 l hl).1 (iL.mp hz)
 ·exact Ie (eW hok fun l hl=>(c3 l hl).2) h
def nY(m:N3)(M:Mem)(R:DK):Prop:=match m with
 | .free z=>R (.tup [.str "free",r9 z.1 z.2]) M
 | .most v z sh=>∀ l,M l=none→R (.tup [.str "most",e7 v,r9 z.1 z.2,.ref l]) (B5 M l (.lst (sh.map shD)))
theorem rz{n:Nat}(h:n=2∨n=4){M:Mem}{R:DK}(r:R (.bl false) M):gIn true (.int (n:Int)) (.tup [.int 2,.int 4]) M R:=by
 refine⟨.int (n:Int),[.int 2,.int 4],[.int 2,.int 4],rfl,.inl rfl,rfl,?_⟩
 rcases h with rfl|rfl
 ·exact r
 ·exact r
local macro_rules|`(tactic| walk_at "inj")=>`(tactic| (rename_i e h;simp only[List.cons.injEq,GM.C5,GM.B4,GM.F3,GM.D5,and_true,true_and,GM.i3,GM.i5,GM.h8,GM.i6,GM.h9,D.tup.injEq,D.ref.injEq,D.int.injEq,D.str.injEq,D.bl.injEq,D.vl.injEq,MU,and_assoc]at e;(repeat(obtain⟨e1,e⟩:=e;subst e1));subst e;exact h))
local macro_rules|`(tactic| walk_at "injs")=>`(tactic| (rename_i e o h;rcases o with o|o<;>(subst o;first|(exfalso;simp only[D.tup.injEq,List.cons.injEq,reduceCtorEq,false_and,and_false]at e;done)|(simp only[List.cons.injEq,GM.C5,GM.B4,GM.F3,GM.D5,and_true,true_and,GM.i3,GM.i5,GM.h8,GM.i6,GM.h9,D.tup.injEq,D.ref.injEq,D.int.injEq,D.str.injEq,D.bl.injEq,D.vl.injEq,MU,and_assoc]at e;(repeat(obtain⟨e1,e⟩:=e;subst e1));subst e;exact h))))
abbrev aD(half:List Sd)(p q:Rat)(M:Mem)(R:DK)(Y:DXK):Prop:=((half.length≤30∧(∀ s∈half,SzS s))∧(sz p≤1100∧sz q≤1100)∧∃ a b,kS half (wtF p q)=some (a,b)∧(SzS a∧SzS b)∧0<veZ a b∧a.2.2.2.1≠b.2.2.2.1∧(a.2.2.2.2.natAbs<2 ^ 1400∧b.2.2.2.2.natAbs<2 ^ 1400))∧nY (Dz half p q) M R
def oU:DSp:=fun ds M R Y=>∃(half:List Sd) (p q:Rat),ds=[.vl (half.map sdD),e7 p,e7 q]∧aD half p q M R Y
theorem lD{half:List Sd}{p q:Rat}{M:Mem}{R:DK}{Y:DXK}:oU [.vl (half.map sdD),e7 p,e7 q] M R Y=(aD half p q M R Y):=propext ⟨fun z=>by obtain⟨_,_,_,_,_⟩:=z;walk_at "inj",fun h=>⟨half,p,q,rfl,h⟩⟩
abbrev aC(x:D)(n:Int)(p q:Rat)(M:Mem)(R:DK)(Y:DXK):Prop:=(∃(ls:List T3) (l:T3) (j:Nat),(x = .vl (ls.map f8)∨x = .tup (ls.map f8))∧n=(j:Int)∧ls[j]? = some l∧L28 l∧¬ (p=0∧q=0)∧(sz p≤1100∧sz q≤1100)∧nY (F6 l n p q) M R)
def oT:DSp:=fun ds M R Y=>∃(x:D) (n:Int) (p q:Rat),ds=[x,.int n,e7 p,e7 q]∧aC x n p q M R Y
theorem lC{x:D}{n:Int}{p q:Rat}{M:Mem}{R:DK}{Y:DXK}:oT [x,.int n,e7 p,e7 q] M R Y=(aC x n p q M R Y):=propext ⟨fun z=>by obtain⟨_,_,_,_,_,_⟩:=z;walk_at "inj",fun h=>⟨x,n,p,q,rfl,h⟩⟩
abbrev T6(ls:List T3)(p q:Rat)(M:Mem)(R:DK)(Y:DXK):Prop:=(O4 ls∧sz p≤1100∧sz q≤1100)∧nY (K6 ls p q) M R
def jC:DSp:=fun ds M R Y=>∃(x0:D) (ls:List T3) (p q:Rat),ds=[x0,e7 p,e7 q]∧(x0 = .vl (ls.map f8)∨x0 = .tup (ls.map f8))∧T6 ls p q M R Y
theorem lF{ls:List T3}{p q:Rat}{M:Mem}{R:DK}{Y:DXK}:jC [.vl (ls.map f8),e7 p,e7 q] M R Y=(T6 ls p q M R Y):=propext ⟨fun z=>by obtain⟨_,_,_,_,_,_,_⟩:=z;walk_at "injs",fun h=>⟨_,ls,p,q,rfl,.inl rfl,h⟩⟩
theorem dj{ls:List T3}{p q:Rat}{M:Mem}{R:DK}{Y:DXK}:jC [.tup (ls.map f8),e7 p,e7 q] M R Y=(T6 ls p q M R Y):=propext ⟨fun z=>by obtain⟨_,_,_,_,_,_,_⟩:=z;walk_at "injs",fun h=>⟨_,ls,p,q,rfl,.inr rfl,h⟩⟩
abbrev aJ(q:Rat)(M:Mem)(R:DK)(Y:DXK):Prop:=R (.bl true) M
def eA:DSp:=fun ds M R Y=>∃(q:Rat),ds=[e7 q]∧aJ q M R Y
theorem lK{q:Rat}{M:Mem}{R:DK}{Y:DXK}:eA [e7 q] M R Y=(aJ q M R Y):=propext ⟨fun z=>by obtain⟨_,_,_⟩:=z;walk_at "inj",fun h=>⟨q,rfl,h⟩⟩
abbrev aI(y u:Rat)(M:Mem)(R:DK)(Y:DXK):Prop:=R (.bl true) M
def oZ:DSp:=fun ds M R Y=>∃(y u:Rat),ds=[r9 y u]∧aI y u M R Y
theorem lJ{y u:Rat}{M:Mem}{R:DK}{Y:DXK}:oZ [r9 y u] M R Y=(aI y u M R Y):=propext ⟨fun z=>by obtain⟨_,_,_,_⟩:=z;walk_at "inj",fun h=>⟨y,u,rfl,h⟩⟩
abbrev cU(l:Addr)(M:Mem)(R:DK)(Y:DXK):Prop:=∃ sh:List (Int × Rat),M l=some (.lst (sh.map shD))∧sh.length≤20∧R (.bl true) M
def vW:DSp:=fun ds M R Y=>∃(l:Addr),ds=[.ref l]∧cU l M R Y
theorem ql{l:Addr}{M:Mem}{R:DK}{Y:DXK}:vW [.ref l] M R Y=(cU l M R Y):=propext ⟨fun z=>by obtain⟨_,_,_⟩:=z;walk_at "inj",fun h=>⟨l,rfl,h⟩⟩
abbrev cW(l:T3)(p q:Rat)(M:Mem)(R:DK)(Y:DXK):Prop:=(LSz 262 l∧sz p≤530∧sz q≤530)∧R (.bl (decide (l.1*q=l.2.1*p))) M
def vY:DSp:=fun ds M R Y=>∃(l:T3) (p q:Rat),ds=[f8 l,r9 p q]∧cW l p q M R Y
theorem qp{l:T3}{p q:Rat}{M:Mem}{R:DK}{Y:DXK}:vY [f8 l,r9 p q] M R Y=(cW l p q M R Y):=propext ⟨fun z=>by obtain⟨_,_,_,_,_⟩:=z;walk_at "inj",fun h=>⟨l,p,q,rfl,h⟩⟩
abbrev cV(l m:T3)(M:Mem)(R:DK)(Y:DXK):Prop:=(LSz 262 l∧LSz 262 m)∧R (.bl (decide (l.1*m.2.1=l.2.1*m.1))) M
def vX:DSp:=fun ds M R Y=>∃(l m:T3),ds=[f8 l,f8 m]∧cV l m M R Y
theorem qo{l m:T3}{M:Mem}{R:DK}{Y:DXK}:vX [f8 l,f8 m] M R Y=(cV l m M R Y):=propext ⟨fun z=>by obtain⟨_,_,_,_⟩:=z;walk_at "inj",fun h=>⟨l,m,rfl,h⟩⟩
abbrev W4(ls:List T3)(p q:Rat)(M:Mem)(R:DK)(Y:DXK):Prop:=(eY ls∧sz p≤530∧sz q≤530)∧R (.bl (L4 ls p q)) M
def jI:DSp:=fun ds M R Y=>∃(ls:List T3) (p q:Rat),ds=[.vl (ls.map f8),e7 p,e7 q]∧W4 ls p q M R Y
theorem gu{ls:List T3}{p q:Rat}{M:Mem}{R:DK}{Y:DXK}:jI [.vl (ls.map f8),e7 p,e7 q] M R Y=(W4 ls p q M R Y):=propext ⟨fun z=>by obtain⟨_,_,_,_,_⟩:=z;walk_at "inj",fun h=>⟨ls,p,q,rfl,h⟩⟩
abbrev W3(t:D)(M:Mem)(R:DK)(Y:DXK):Prop:=∃ m:N3,((∃ z,m = .free z∧t = .tup [.str "free",r9 z.1 z.2]) ∨ ∃ v z sh l,m = .most v z sh∧t = .tup [.str "most",e7 v,r9 z.1 z.2,.ref l]∧M l=some (.lst (sh.map shD))∧sh.length≤20)∧R (.bl true) M
def jH:DSp:=fun ds M R Y=>∃(t:D),ds=[t]∧W3 t M R Y
theorem gr{t:D}{M:Mem}{R:DK}{Y:DXK}:jH [t] M R Y=(W3 t M R Y):=propext ⟨fun z=>by obtain⟨_,_,_⟩:=z;walk_at "inj",fun h=>⟨t,rfl,h⟩⟩
noncomputable def Ao(n k:Nat):T3:=(((k:Int):Rat),(((n:Int) - (k:Int):Int):Rat),((1+(k:Int) % 2:Int):Rat))
theorem El{n:Nat}(h6:6≤n)(h12:n≤12):eY ((NO n).map (Ao n)):=by
 refine⟨by rw[MA,QB];exact h12,fun l hl=>?_⟩
 obtain⟨k,hk,rfl⟩:=MD.mp hl
 have hk:=Qc.mp hk
 have z1:sz (((k:Int):Rat))≤10:=iT (by decide) (by show(k:Int).natAbs<2 ^ 10;omega)
 have z2:sz ((((n:Int) - (k:Int):Int):Rat))≤10:=iT (by decide) (by show((n:Int) - (k:Int)).natAbs<2 ^ 10;omega)
 have z3:sz (((1+(k:Int) % 2:Int):Rat))≤10:=iT (by decide) (by show(1+(k:Int) % 2).natAbs<2 ^ 10;omega)
 refine⟨L28.mk3 ⟨fun z=>?_,?_⟩ (by show sz (((k:Int):Rat))≤_;omega) (by show sz ((((n:Int) - (k:Int):Int):Rat))≤_;omega) (by show sz (((1+(k:Int) % 2:Int):Rat))≤_;omega),⟨by show sz (((k:Int):Rat))≤_;omega,by show sz ((((n:Int) - (k:Int):Int):Rat))≤_;omega,by show sz (((1+(k:Int) % 2:Int):Rat))≤_;omega⟩⟩
 ·have e1:((k:Int):Rat)=0:=z.1
  have e2:(((n:Int) - (k:Int):Int):Rat)=0:=z.2
  rw[Pt]at e1 e2
  omega
 ·show(0:Rat)<((1+(k:Int) % 2:Int):Rat)
  exact u9.mpr (by omega)
end GM
namespace K24
open PySem PySem.Spec L2 DL GM
open RM (sz)
open PyProof.Rows hiding St
local macro_rules|`(tactic| walk_at "sim")=>do
 let f:=fun(b:Bool) (p:String) (s:String)=>((s.splitOn " ").mapM (fun s=>(let i:=Lean.mkIdent (p++s).toName;if b then `(Lean.Parser.Tactic.simpLemma| ↓$i:ident)else `(Lean.Parser.Tactic.simpLemma| $i:ident))):Lean.MacroM _)
 let a := "z_C Gy Gw Gu Gv Gs Gr Gq uF CM CO Gx Cv uV uL GA CF Cw uR Cp CA uT GB uM Cs uQ Ct qM qA uE qB dN lT CN Cu uK CC CQ Cz Cy CD CH CG uN uS Cq lZ uJ qL qN lU gQ lS lV qz uC qy CI CK qQ Co qD uH uG lY qP qO qC qI qF qH qG qE uI lX qK CJ CL uO uP Gz uW uU qR bS dq gD dz gC bR dm gB dn gA bV dF gL dG gK bU dD gJ dE gH bT dA gG dB gE bX dJ gP dM gO bW dH gN dI gM Gd Gb Ga FZ FY FX FW FV FU FT BY BX BW Gp Gn Gm Gk Gj Gi Gh Gg Gf Ge Cn Cm Ck Y4 Y3 iN uB uA uz uy ux uw uv uu ur uq uo um uk Cj Ci Cg Cf Ce Cd Cc Cb Ca BZ qJ lW Cr uD"
 let b := "lR gz qq uj ui uh ug qt qs qr qu qx qw qv lQ qp qo lP uf lO gy lN ue ud gx gw uc lM lL qm gv gu lK lJ ql gr qk gq qj gp lI lH dk lG gn ua lF dj lE lD lC tZ qi tY tX lB tW tV tU lA di gm gk lu lr qh qg qf lq lp gh qe bQ qd gg ll dh qc lj lh kZ gc aQ cW cV aP jP aO W7 aN jN jM W6 W5 jJ aM aL aK W4 aJ aI cU W3 cT W0 cS V9 aH aG Q2 aF V8 jD T6 aE aD aC jB cR aB T5 V6 V5 aA az cQ gZ cP ay ax cO V4"
 let xs:=((← f true "DL." a)++(← f true "GM." b)++(← f false "GM." b)++(← f false "DL." a)++(← f false "" "DL.zQ DL.zK DL.zr DL.zk DL.zR DL.zL DL.zt DL.zl DL.zS DL.zM DL.zu DL.zm DL.zT DL.zN DL.zw DL.zo DL.zU DL.zO DL.zx DL.zp DL.zV DL.zP DL.zy DL.zq DL.yQ DL.yW DL.yR DL.yX DL.yS DL.yY DL.yT DL.yZ DL.yU DL.ze DL.yV DL.zh GM.zF GM.zH GM.zI GM.zJ DL.DQ DL.DP DL.DO DL.DN DL.DM DL.DJ DL.DI DL.DH DL.DG DL.yP DL.yO DL.yN Nat.reduceAdd Nat.reduceLT Nat.reduceLeDiff QH Int.reduceLT Int.reduceLE Int.reduceEq eq_self decide_true decide_false D.int.injEq D.str.injEq beq_self_eq_true and_self true_and and_true not_true_eq_false not_false_eq_true false_implies true_implies forall_const U5 Ni Od List.cons_append QU OA Ng List.length_nil NZ nS List.getElem?_cons_zero List.getElem?_cons_succ Option.getD_some decide_eq_true_eq decide_eq_false_iff_not Bool.not_eq_true' Bool.not_eq_false' Bool.and_self Nb OS Bool.xor_false Bool.false_xor Bool.true_xor Bool.not_true Bool.not_false Ob Bool.true_eq_false reduceIte GM.r0 GM.r1 GM.r2 GM.r4 GM.rm1 GM.rm2 GM.i3 GM.En GM.GX GM.GW GM.Em")).toArray
 `(tactic| try simp only[$xs,*])
local macro_rules|`(tactic| walk_at "fn")=>do
 let i:=fun(s:String)=>Lean.mkIdent s.toName
 let x:=(("f cdv A outer s H E ds M R Y hr h".splitOn " ").map i).toArray
 `(tactic| (refine $(i "h7") $(i "d") $(i "sc") (by walk_at "len") (fun $x*=>?_);have $(i "hu"):ident:=$(i "hr.units")))
local macro_rules|`(tactic| walk_at "len")=>`(tactic| (intro ds M R Y h;repeat(first|exact congrArg QM h.1|(obtain⟨_,h⟩:=h))))
local macro_rules|`(tactic| walk_at "size")=>`(tactic| first|omega|grind only[RM.u8,RM.J7,RM.DY,RM.bu,RM.vz,RM.ak,GM.Y7])
local macro_rules|`(tactic| walk_at "sc")=>`(tactic| exact⟨rfl,rfl,rfl,by decide +kernel,rfl,by decide +kernel,by decide +kernel⟩)
noncomputable def top(i:Nat):Stmt:=PySem.Challenge.pw_roundglass_k24_most_told.main.body.getD i (.Pass ⟨0,0,0,0⟩)
noncomputable abbrev P8:Stmt:=top 50
noncomputable abbrev Z7:Stmt:=top 52
noncomputable abbrev Z6:Stmt:=top 53
noncomputable abbrev P5:Stmt:=top 54
noncomputable abbrev T4:Stmt:=top 61
noncomputable abbrev Q1:Stmt:=top 64
noncomputable abbrev D8:Stmt:=top 65
noncomputable abbrev P4:Stmt:=top 60
noncomputable abbrev P9:Stmt:=top 56
noncomputable abbrev T2:Stmt:=top 62
noncomputable abbrev P6:Stmt:=top 66
noncomputable abbrev G4:Stmt:=top 67
noncomputable abbrev E9:Stmt:=top 69
noncomputable abbrev L9:Stmt:=top 68
noncomputable abbrev K0:Stmt:=top 72
noncomputable abbrev bz:Stmt:=top 7
noncomputable abbrev Z3:Stmt:=top 6
noncomputable abbrev jq:Stmt:=top 8
noncomputable abbrev dY:Stmt:=top 28
noncomputable abbrev dZ:Stmt:=top 34
noncomputable abbrev ee:Stmt:=top 26
noncomputable abbrev J9:Stmt:=top 38
noncomputable abbrev L0:Stmt:=top 16
noncomputable abbrev D4:Stmt:=top 15
noncomputable abbrev L7:Stmt:=top 39
noncomputable abbrev jo:Stmt:=top 13
noncomputable abbrev js:Stmt:=top 20
noncomputable abbrev oO:Stmt:=top 14
noncomputable abbrev aw:Stmt:=top 22
noncomputable abbrev Y9:Stmt:=top 37
noncomputable abbrev Z0:Stmt:=top 10
noncomputable abbrev Z2:Stmt:=top 9
noncomputable abbrev oN:Stmt:=top 11
noncomputable abbrev jr:Stmt:=top 12
noncomputable abbrev jt:Stmt:=top 19
noncomputable abbrev P1:Stmt:=top 40
noncomputable abbrev oK:Stmt:=top 29
noncomputable abbrev S6:Stmt:=top 32
noncomputable abbrev S7:Stmt:=top 30
noncomputable abbrev S5:Stmt:=top 31
noncomputable abbrev Z1:Stmt:=top 27
noncomputable abbrev Z4:Stmt:=top 33
noncomputable abbrev oP:Stmt:=top 41
noncomputable abbrev oM:Stmt:=top 17
noncomputable abbrev ju:Stmt:=top 43
noncomputable abbrev P3:Stmt:=top 42
noncomputable abbrev Z5:Stmt:=top 44
noncomputable abbrev bx:Stmt:=top 23
noncomputable abbrev oQ:Stmt:=top 24
noncomputable abbrev P2:Stmt:=top 45
noncomputable abbrev P0:Stmt:=top 46
noncomputable abbrev I0:Stmt:=top 70
noncomputable abbrev K1:Stmt:=top 71
noncomputable abbrev T0:Stmt:=top 49
noncomputable abbrev S8:Stmt:=top 51
noncomputable abbrev L8:Stmt:=top 57
noncomputable abbrev Q0:Stmt:=top 63
noncomputable abbrev T1:Stmt:=top 58
noncomputable abbrev P7:Stmt:=top 59
noncomputable abbrev S9:Stmt:=top 48
noncomputable abbrev vQ:Stmt:=top 73
theorem fA:e9 ["script","bound","found","k"] ["script","bound"] (e6 P8):=by walk_at "sc"
theorem mJ:e9 ["top","bottom","one","other"] ["top","bottom"] (e6 Z7):=by walk_at "sc"
theorem mI:e9 ["one","other"] ["one","other"] (e6 Z6):=by walk_at "sc"
theorem fq:e9 ["one","other"] ["one","other"] (e6 P5):=by walk_at "sc"
theorem jl:e9 ["one"] ["one"] (e6 T4):=by walk_at "sc"
theorem fF:e9 ["lines","shares","found","number","share","by"] ["lines","shares"] (e6 Q1):=by walk_at "sc"
theorem Y8:e9 ["lines","shares","numbers"] ["lines","shares"] (e6 D8):=by walk_at "sc"
theorem fo:e9 ["p","q","ray"] ["p","q","ray"] (e6 P4):=by walk_at "sc"
theorem fD:e9 ["one","other"] ["one","other"] (e6 P9):=by walk_at "sc"
theorem jk:e9 ["lines","ray","p","q","r"] ["lines","ray"] (e6 T2):=by walk_at "sc"
theorem ft:e9 ["lines","p","q","told","word","value","ray","shares"] ["lines","p","q","told"] (e6 P6):=by walk_at "sc"
theorem bw:e9 ["found"] ["found"] (e6 G4):=by walk_at "sc"
theorem av:e9 ["found","one"] ["found"] (e6 E9):=by walk_at "sc"
theorem dX:e9 ["found"] ["found"] (e6 L9):=by walk_at "sc"
theorem cw:e9 ["found"] ["found"] (e6 K0):=by walk_at "sc"
theorem oJ:e9 ["one","other"] ["one","other"] (e6 bz):=by walk_at "sc"
theorem mF:e9 ["thing"] ["thing"] (e6 Z3):=by walk_at "sc"
theorem vK:e9 ["top","bottom","share"] ["top","bottom"] (e6 jq):=by walk_at "sc"
theorem jb:e9 ["one","other"] ["one","other"] (e6 dY):=by walk_at "sc"
theorem sQ:e9 ["one","other","bottom","y","u"] ["one","other"] (e6 dZ):=by walk_at "sc"
theorem sR:e9 ["side","p","q","r","number","scale"] ["side"] (e6 ee):=by walk_at "sc"
theorem cu:e9 ["half","wanted","rim","found","one","other"] ["half","wanted"] (e6 J9):=by walk_at "sc"
theorem au:e9 ["ratios","bottom"] ["ratios","bottom"] (e6 L0):=by walk_at "sc"
theorem N7:e9 ["ratios","bottom","one"] ["ratios"] (e6 D4):=by walk_at "sc"
theorem dU:e9 ["half","p","q","bottom","wanted","one","other","of_one","of_other","whole","value","shares"] ["half","p","q"] (e6 L7):=by walk_at "sc"
theorem vJ:e9 ["one","other"] ["one","other"] (e6 jo):=by walk_at "sc"
theorem vM:e9 ["ray","share"] ["ray","share"] (e6 js):=by walk_at "sc"
theorem Ah:e9 ["one","other"] ["one","other"] (e6 oO):=by walk_at "sc"
theorem gY:e9 ["p","q","ray","y","u","top"] ["p","q","ray"] (e6 aw):=by walk_at "sc"
theorem mB:e9 ["p","q","ray","top","bottom"] ["p","q","ray"] (e6 Y9):=by walk_at "sc"
theorem mC:e9 ["one"] ["one"] (e6 Z0):=by walk_at "sc"
theorem mE:e9 ["one"] ["one"] (e6 Z2):=by walk_at "sc"
theorem Ag:e9 ["one","other"] ["one","other"] (e6 oN):=by walk_at "sc"
theorem vL:e9 ["one","other"] ["one","other"] (e6 jr):=by walk_at "sc"
theorem vN:e9 ["one","other","y","u","z","w"] ["one","other"] (e6 jt):=by walk_at "sc"
theorem fj:e9 ["lines","number","p","q","own_p","own_q","r","bend","share","value","ray"] ["lines","number","p","q"] (e6 P1):=by walk_at "sc"
theorem Ae:e9 ["one","other","third"] ["one","other","third"] (e6 oK):=by walk_at "sc"
theorem je:e9 ["sides","here","found","side","bend"] ["sides","here"] (e6 S6):=by walk_at "sc"
theorem jf:e9 ["one","other","more"] ["one","other"] (e6 S7):=by walk_at "sc"
theorem jd:e9 ["sides","found","side"] ["sides"] (e6 S5):=by walk_at "sc"
theorem mD:e9 ["lines","sides","number","line","scale","p","q","r","side"] ["lines"] (e6 Z1):=by walk_at "sc"
theorem mG:e9 ["lines","sides","half","here"] ["lines"] (e6 Z4):=by walk_at "sc"
theorem Ai:e9 ["lines","p","q","half"] ["lines","p","q"] (e6 oP):=by walk_at "sc"
theorem Af:e9 ["one","other"] ["one","other"] (e6 oM):=by walk_at "sc"
theorem vO:e9 ["lines","shares","sums","number","share","weights"] ["lines","shares"] (e6 ju):=by walk_at "sc"
theorem fm:e9 ["lines","shares","last","number","share"] ["lines","shares"] (e6 P3):=by walk_at "sc"
theorem mH:e9 ["lines","shares","p","q","sums"] ["lines","shares","p","q"] (e6 Z5):=by walk_at "sc"
theorem oI:e9 ["line","ray","p","q","r","top","bottom"] ["line","ray"] (e6 bx):=by walk_at "sc"
theorem Aj:e9 ["lines","ray"] ["lines","ray"] (e6 oQ):=by walk_at "sc"
theorem fk:e9 ["lines","p","q","ray"] ["lines","p","q","ray"] (e6 P2):=by walk_at "sc"
theorem fh:e9 ["lines","p","q","told","word","value","ray","shares","bound"] ["lines","p","q","told"] (e6 P0):=by walk_at "sc"
theorem X8:e9 ["one","other"] ["one","other"] (e6 I0):=by walk_at "sc"
theorem cx:e9 ["lines","p","q","line"] ["lines","p","q"] (e6 K1):=by walk_at "sc"
theorem ji:e9 ["pool","base","digit","near","stir"] ["pool","base"] (e6 T0):=by walk_at "sc"
theorem jg:e9 ["pool","base","number","turn_v"] ["pool","base"] (e6 S8):=by walk_at "sc"
theorem dW:e9 ["pool","pick","far"] ["pool"] (e6 L8):=by walk_at "sc"
theorem fE:e9 ["pool","lines","p","q","pick","one","by","other"] ["pool","lines"] (e6 Q0):=by walk_at "sc"
theorem jj:e9 ["pool","p","q"] ["pool"] (e6 T1):=by walk_at "sc"
theorem fu:e9 ["pool","most_lines","found","k","line","pick","ahead","by","one","other"] ["pool","most_lines"] (e6 P7):=by walk_at "sc"
theorem jh:e9 ["cell"] ["cell"] (e6 S9):=by walk_at "sc"
theorem Ec:e9 ["script","cell","pool","lines","around","p","q","handed","found","again"] ["script"] (e6 vQ):=by walk_at "sc"
structure Txt(K:Ms)(mg:Str→Option Value):Prop where
 b_abs:mg "abs" = none
 b_all:mg "all" = none
 b_any:mg "any" = none
 b_bool:mg "bool" = none
 b_enumerate:mg "enumerate" = none
 b_int:mg "int" = none
 b_isinstance:mg "isinstance" = none
 b_len:mg "len" = none
 b_list:mg "list" = none
 b_max:mg "max" = none
 b_min:mg "min" = none
 b_range:mg "range" = none
 b_set:mg "set" = none
 b_sorted:mg "sorted" = none
 b_tuple:mg "tuple" = none
 b_zip:mg "zip" = none
 sub:yt K
 c_MOST_SHARES:GlD K mg "MOST_SHARES" (.int 2)
 c_NOUGHT:GlD K mg "NOUGHT" (.tup [(.int 0),(.int 1)])
 c_ONE:GlD K mg "ONE" (.tup [(.int 1),(.int 1)])
section
variable {P:Program} {w:World} {K:Ms} {mg:Str→Option Value} {base:Heap}
theorem fP(T:Txt K mg)(d:Df K mg "_law_cells" P8 ["script","bound"]):Fn P w K mg base "_law_cells" 1 ["script","bound"] jL:=by
 have sc:=fA
 walk_at "fn"
 obtain⟨xs,nn,rfl,ns,c,rfl,⟨c1,c5⟩,rfl,hl,k⟩:=h
 refine⟨_,(d7 (jst 2 sc.nd (xn (kz (ny rfl T.b_list kO (a9 (bH (d4 0) J5 (J4 (d4 1))) d5)) (C1 (a9 d6 d5))) J5 (J4 (i0 (Dy rfl) rfl T.b_max yn (a9 d6 (a9 (i0 (Io rfl) rfl T.b_min Fz (a9 (d4 1) (a9 (i0 E7 rfl T.b_len B7 (a9 (d4 0) d5)) d5))) d5)))))) (d7 (t9 PassesOwn.never rfl (xj rfl T.b_range (a9 (d4 1) (a9 (i0 E7 rfl T.b_len B7 (a9 (d4 0) d5)) d5))) (jn 3 sc.nd) (d8 (u6 (e8 C3 (e8 g9 (jx (d4 2) (e8 R9 (d4 3) (d4 1))) d6) (jx (d4 0) (d4 3))) (ku (d4 2) (e8 R9 (d4 3) (d4 1)))))) (d8 (d9 (eO (kv (d4 2))))))),?_⟩
 walk_at "sim"
 unfold dSl
 walk_at "sim"
 have l1:(ns.map D.int).length=ns.length:=MA ..
 have e3:DL.O2 (ns.map D.int) none (some (c:Int))=(ns.take c).map D.int:=by rw[pQ,Qu]
 obtain⟨m,hm,hm1,hm2⟩:∃ m:Nat,max 1 (min (c:Int) ((ns.map D.int).length:Int))=(m:Int)∧m≤c∧(c<ns.length→m=c):=⟨max 1 (min c ns.length),by rw[l1];omega,by omega,by omega⟩
 rw[e3,hm,show(ns.take c).map D.int++[D.int 0]=(ns.take c++[0]).map D.int by rw[MR];rfl]
 refine⟨ME (show _≤6 by rw[MA,Nr];omega) (by decide),?_⟩
 have hz:((ns.take c++[0]).take m).length≤c∧(c<ns.length→((ns.take c++[0]).take m).length=c):=by
  rw[Nr,Nu,Nr]
  show min m (min c ns.length+1)≤c∧_
  exact⟨by omega,fun h=>by show min m (min c ns.length+1)=c;have:=hm2 h;omega⟩
 refine⟨_,rfl,fun p hp=>?_⟩
 rw[pQ,← Qu]
 generalize (ns.take c++[0]).take m=ms0 at *
 refine⟨by omega,?_⟩
 refine S0.by (fun i e M'=>(∃ z3:Option D,e=[some (D.vl (ns.map D.int)),some (D.int (c:Int)),some (D.ref p),z3])∧∃ ms:List Int,ms.length=ms0.length∧M'=B5 M p (.lst (ms.map D.int))) ⟨⟨_,rfl⟩,ms0,rfl,rfl⟩ (fun i e M' _ _=>trivial) ?_ ?_
 ·rintro i dd e M' hd ⟨⟨z3,rfl⟩,ms,hml,rfl⟩
  obtain⟨hi,rfl⟩:=hV hd
  have h3:ms.length=c:=by rw[hml];exact hz.2 (by omega)
  have hj:∃ j:Nat,((c:Int)+(i:Int)) % (c:Int)=(j:Int)∧j<c:=⟨((c+i) % c),by rw[← Int.natCast_add,QL],OT _ (by omega)⟩
  obtain⟨j,ej,hj⟩:=hj
  have hgj:ms[j]? = some (ms[j]'(by omega)):=MS (by omega)
  generalize ms[j]'(by omega)=v at hgj
  have hgi:ns[c+i]? = some (ns[c+i]'(by omega)):=MS (by omega)
  generalize ns[c+i]'(by omega)=w at hgi
  walk_at "sim"
  rw[ej]
  refine⟨by omega,_,E2 g8 (t7 (n:=j) (by rw[MV,hgj];rfl)),?_⟩
  walk_at "sim"
  refine⟨IntMulOk.of_right (by decide),?_⟩
  rw[show(c:Int)+(i:Int)=((c+i:Nat):Int)by omega]
  refine⟨_,(show ixD _ (D.vl (ns.map D.int)) _=some (D.int w)from t7 (n:=c+i) (by rw[MV,hgi];rfl)),?_⟩
  walk_at "sim"
  refine⟨by omega,BQ (j:=j) g8 (by rw[MA];omega) ⟨⟨_,rfl⟩,ms.set j (v*31+w),by rw[QN];exact hml,?_⟩⟩
  rw[ai,List.map_set]
 ·rintro e M' ⟨⟨z3,rfl⟩,ms,hml,rfl⟩
  walk_at "sim"
  rw[iP g8,eR hp]
  exact⟨_,fun _ _ h=>h,k ms (by omega)⟩
theorem mY(T:Txt K mg)(d:Df K mg "_law_low" Z7 ["top","bottom"]):Fn P w K mg base "_law_low" 1 ["top","bottom"] E4:=by
 have sc:=mJ
 walk_at "fn"
 obtain⟨a,b,rfl,hb,hl,k⟩:=h
 refine⟨_,(d7 (aY (i:=2) (j:=3) rfl sc.nd rfl rfl (by decide) rfl rfl (a9 (i0 eU rfl T.b_abs ag (a9 (d4 0) d5)) (a9 (i0 eU rfl T.b_abs ag (a9 (d4 1) d5)) d5))) (d7 (bG PassesOwn.never (jtm aU (d4 3) d6) (d8 (aY (i:=2) (j:=3) rfl sc.nd rfl rfl (by decide) rfl rfl (a9 (d4 3) (a9 (e8 R9 (d4 2) (d4 3)) d5))))) (d7 (f9 (jtm eJ (d4 1) d6) (d8 (jst 2 sc.nd (e8 E5 d6 (d4 2)))) f7) (d8 (d9 (g7 (a9 (e8 K4 (d4 0) (d4 2)) (a9 (e8 K4 (d4 1) (d4 2)) d5)))))))),?_⟩
 walk_at "sim"
 refine sv (fun m e M2=>M2=M∧∃ v:Nat,e=[some (.int a),some (.int b),some (.int (v:Int)),some (.int (m:Int))]∧NH v m=NH a.natAbs b.natAbs) b.natAbs ⟨rfl,a.natAbs,rfl,rfl⟩ ?_
 rintro m e M2 ⟨rfl,v,rfl,hg⟩
 walk_at "sim"
 refine⟨fun h0=>⟨by omega,v % m,OT _ (by omega),m,by rw[QL],by rw[← hg];exact(RM.nE v m (by omega)).symm⟩,fun h0=>?_⟩
 have hm:m=0:=by omega
 subst hm
 rw[Qv]at hg
 subst hg
 have hn:=xy (a:=a) hb
 have hlg:=rL (a:=a) hb hl
 have c1:(0 - ((NH a.natAbs b.natAbs:Nat):Int)).natAbs.log2<9000:=by rw[Int.zero_sub,Nz];exact hlg
 refine⟨fun h1=>⟨⟨by omega,c1⟩,⟨by omega,c1⟩,dc hb (by rw[if_pos h1,Int.zero_sub]) k⟩,fun h1=>⟨⟨hn,hlg⟩,⟨hn,hlg⟩,dc hb (by rw[if_neg h1]) k⟩⟩
theorem mX(T:Txt K mg)(d:Df K mg "_law_sum" Z6 ["one","other"])(JB:Fn P w K mg base "_law_low" 1 ["top","bottom"] E4):Fn P w K mg base "_law_sum" 2 ["one","other"] S2:=by
 have sc:=mI
 walk_at "fn"
 obtain⟨q,r,rfl,hz,k⟩:=h
 refine⟨_,(d8 (d9 (jc JB hr (a9 (e8 C3 (e8 g9 (jx (d4 0) d6) (jx (d4 1) d6)) (e8 g9 (jx (d4 1) d6) (jx (d4 0) d6))) (a9 (e8 g9 (jx (d4 0) d6) (jx (d4 1) d6)) d5))))),?_⟩
 walk_at "sim"
 rw[← RM.pY]
 exact⟨mND hz,mND (by omega),mDD hz,Nj (RM.t8 q) (RM.t8 r),lDD hz,k⟩
theorem fM(T:Txt K mg)(d:Df K mg "_law_taken" P5 ["one","other"])(JB:Fn P w K mg base "_law_low" 1 ["top","bottom"] E4):Fn P w K mg base "_law_taken" 2 ["one","other"] D3:=by
 have sc:=fq
 walk_at "fn"
 obtain⟨q,r,rfl,hz,k⟩:=h
 refine⟨_,(d8 (d9 (jc JB hr (a9 (e8 g9 (jx (d4 0) d6) (jx (d4 1) d6)) (a9 (e8 g9 (jx (d4 0) d6) (jx (d4 1) d6)) d5))))),?_⟩
 walk_at "sim"
 rw[← RM.pE]
 exact⟨mNN hz,mDD hz,Nj (RM.t8 q) (RM.t8 r),lDD hz,k⟩
theorem kl(T:Txt K mg)(d:Df K mg "_law_bare" T4 ["one"]):Fn P w K mg base "_law_bare" 1 ["one"] dR:=by
 have sc:=jl
 walk_at "fn"
 obtain⟨q,rfl,k⟩:=h
 refine⟨_,(d8 (d9 (g7 (a9 (i0 eU rfl T.b_abs ag (a9 (jx (d4 0) d6) d5)) (a9 (jx (d4 0) d6) d5))))),?_⟩
 walk_at "sim"
 exact k
theorem fU(T:Txt K mg)(d:Df K mg "_law_added" Q1 ["lines","shares"])(JD:Fn P w K mg base "_law_sum" 2 ["one","other"] S2)(Jz:Fn P w K mg base "_law_taken" 2 ["one","other"] D3)(JR:Fn P w K mg base "_law_bare" 1 ["one"] dR):Fn P w K mg base "_law_added" 3 ["lines","shares"] jG:=by
 have sc:=fF
 walk_at "fn"
 obtain⟨ls,x,rfl,sh,hx,hls,hb,hz,k⟩:=h
 obtain⟨hl2,hm⟩:=rd hb
 refine⟨_,(d7 (jst 2 sc.nd (C1 (a9 (g7 (a9 d6 (a9 d6 d5))) (a9 (g7 (a9 d6 (a9 d6 d5))) (a9 (g7 (a9 d6 (a9 d6 d5))) d5))))) (d7 (t9 PassesOwn.never rfl (m9 (d4 1)) (o7 (n:=2) rfl (e5 (jn 3 sc.nd) (e5 (jn 4 sc.nd) j5))) (d7 (jst 5 sc.nd (C1 (a9 (d4 4) (a9 (d4 4) (a9 (jc JR hr (a9 (d4 4) d5)) d5))))) (d8 (jst 2 sc.nd (A7 [0,2,3,5] ["k"] ["lines","found","number","by"] rfl (by decide +kernel) rfl (by decide +kernel) (by decide +kernel) rfl (Iq ⟨rfl,rfl⟩ ⟨rfl,rfl⟩ ⟨rfl,rfl⟩ ⟨rfl,rfl⟩) (Iq (Or.inl rfl) (Or.inl rfl) (Or.inl rfl) (Or.inl rfl)) (de rfl T.b_range (a9 d6 d5)) (fun _ _ _ _ _ _=>(jn 0 (show(["k","lines","found","number","by"]:List Str).Nodup by decide +kernel))) (fun _ _ _ _ _ _=>p9) (fun _ _ _ _ _ _=>(jc JD hr (a9 (jx (d4 2) (d4 0)) (a9 (jc Jz hr (a9 (jx (d4 4) (d4 0)) (a9 (jx (jx (d4 1) (d4 3)) (d4 0)) d5))) d5))))))))) (d8 (d9 (d4 2))))),?_⟩
 walk_at "sim"
 refine L5 hx ?_
 have sz0:=RM.ak
 refine S0.by (fun i e M'=>M'=M∧(∃(z3 z4 z5:Option D),e=[some (.vl (ls.map f8)),some x,some (.vl [e7 (ad t0 ls (sh.take i)),e7 (ad t1 ls (sh.take i)),e7 (ad t2 ls (sh.take i))]),z3,z4,z5])∧sz (ad t0 ls (sh.take i))≤1+3263*i∧sz (ad t1 ls (sh.take i))≤1+3263*i∧sz (ad t2 ls (sh.take i))≤1+3263*i) ⟨rfl,⟨_,_,_,rfl⟩,by show sz 0≤_;omega,by show sz 0≤_;omega,by show sz 0≤_;omega⟩ (fun i e M' _ h=>by rw[h.1];exact hx) ?_ ?_
 ·rintro i dd e M' hd ⟨rfl,⟨z3,z4,z5,rfl⟩,ra,rb,rc⟩
  obtain⟨s,hs,rfl⟩:=cM hd
  have hsm:=MI hs
  obtain⟨s0,sn,snz⟩:=hm s hsm
  have ssz:=hz s hsm
  obtain⟨j,hj⟩:∃ j:Nat,s.1=(j:Int):=⟨s.1.toNat,by omega⟩
  have hlj:ls[j]? = some (ls[j]'(by omega)):=MS (by omega)
  generalize ls[j]'(by omega)=l at hlj
  obtain⟨y1,y2,y3⟩:=(hls.2 l (MI hlj)).z
  have i2:i<2:=by
   have:=(MH.mp hs).1
   omega
  have sa:=Y7 s.2
  have tk:sh.take (i+1)=sh.take i++[s]:=by rw[NI,hs];rfl
  have gl:ls.getD s.1.toNat (0,0,0)=l:=by rw[hj,MY,MW,hlj];rfl
  rw[tk,X2,X2,X2,gl]
  generalize ad t0 ls (sh.take i)=A at *
  generalize ad t1 ls (sh.take i)=B at *
  generalize ad t2 ls (sh.take i)=C at *
  have m1:=RM.u8 s.2 l.1
  have m2:=RM.u8 s.2 l.2.1
  have m3:=RM.u8 (j4 s.2) l.2.2
  have n1:=RM.J7 A (s.2*l.1)
  have n2:=RM.J7 B (s.2*l.2.1)
  have n3:=RM.J7 C (j4 s.2*l.2.2)
  unfold shD
  walk_at "sim"
  rw[hj,show F0 0 (Int.toNat 3)=([0,1,2]:List Int).map D.int from rfl]
  have atj:ixD M' (D.vl (ls.map f8)) (D.int (j:Int))=some (f8 l):=by show atI (ls.map f8) (j:Int)=_;rw[kR (by rw[MV,hlj];rfl)]
  refine⟨by decide,t6 (fun n:Int=>if n=0 then e7 (A+t0 s.2 l)else if n=1 then e7 (B+t1 s.2 l)else e7 (C+t2 s.2 l)) (by show 3≤1000;decide) trivial (fun n hn Q hQ=>?_) ⟨rfl,⟨_,_,_,rfl⟩,?_,?_,?_⟩⟩
  ·simp only[Mv,MG,or_false]at hn
   rcases hn with rfl|rfl|rfl
   ·walk_at "sim"
    refine⟨_,atj,?_⟩
    walk_at "sim"
    exact⟨by omega,by omega,hQ⟩
   ·walk_at "sim"
    refine⟨_,atj,?_⟩
    walk_at "sim"
    exact⟨by omega,by omega,hQ⟩
   ·walk_at "sim"
    refine⟨_,atj,?_⟩
    walk_at "sim"
    exact⟨by omega,by omega,hQ⟩
  ·show sz (A+s.2*l.1)≤_;omega
  ·show sz (B+s.2*l.2.1)≤_;omega
  ·show sz (C+j4 s.2*l.2.2)≤_;omega
 ·rintro e M' ⟨rfl,⟨z3,z4,z5,rfl⟩,ra,rb,rc⟩
  walk_at "sim"
  rw[MA,NF]
  exact k
theorem Z8(T:Txt K mg)(d:Df K mg "_law_are_shares" D8 ["lines","shares"]):Fn P w K mg base "_law_are_shares" 1 ["lines","shares"] vU:=by
 have sc:=Y8
 walk_at "fn"
 obtain⟨ls,x,rfl,sh,hx,h12,h20,k⟩:=h
 refine⟨_,(d7 (Q7 (i:=2) [] ["number","share"] [] sc.nd rfl (Or.inl rfl) rfl (by decide +kernel) rfl (by decide +kernel) (by decide +kernel) rfl U9 U9 (m9 (d4 1)) (fun _ _ _ _ _ _=>(o7 (n:=2) rfl (e5 (jn 0 (show(["number","share"]:List Str).Nodup by decide +kernel)) (e5 (jn 1 (show(["number","share"]:List Str).Nodup by decide +kernel)) j5)))) (fun _ _ _ _ _ _=>p9) (fun _ _ _ _ _ _=>(d4 0))) (d7 (f9 (A4 (A5 (jtm aU (i0 E7 rfl T.b_len B7 (a9 (d4 1) d5)) d6) (B6 (j8 (i0 (Ip rfl) rfl T.b_any FA (a9 (A7 [] ["number","share"] [] rfl (by decide +kernel) rfl (by decide +kernel) (by decide +kernel) rfl U9 U9 (m9 (d4 1)) (fun _ _ _ _ _ _=>(o7 (n:=2) rfl (e5 (jn 0 (show(["number","share"]:List Str).Nodup by decide +kernel)) (e5 (jn 1 (show(["number","share"]:List Str).Nodup by decide +kernel)) j5)))) (fun _ _ _ _ _ _=>p9) (fun _ _ _ _ _ _=>(jm A2 (jx (d4 1) d6) d6))) d5)))))) (d8 (d9 z9)) f7) (d8 (d9 (B9 (jm (X9 hu) (d4 2) (pH rfl rfl T.b_sorted iF rfl T.b_set Fy (a9 (d4 2) d5))) (E1 (i0 (eT rfl) rfl T.b_all af (a9 (A7 [0] ["number"] ["lines"] rfl (by decide +kernel) rfl (by decide +kernel) (by decide +kernel) rfl (X6 ⟨rfl,rfl⟩) (X6 (Or.inl rfl)) (m9 (d4 2)) (fun _ _ _ _ _ _=>(jn 0 (show(["number","lines"]:List Str).Nodup by decide +kernel))) (fun _ _ _ _ _ _=>p9) (fun _ _ _ _ _ _=>(xo tm eJ d6 (d4 0) (i0 E7 rfl T.b_len B7 (a9 (d4 1) d5))))) d5)))))))),?_⟩
 walk_at "sim"
 refine L5 hx (t6 (xs:=sh) (enc:=shD) (fun s=>.int s.1) (by omega) hx (fun s hs Q hQ=>by unfold shD;walk_at "sim";exact hQ) ?_)
 show pK [x] M _
 rw[gR (rC hx)]
 walk_at "sim"
 rw[MA]
 refine⟨fun c=>?_,fun c=>L5 hx (t6 (xs:=sh) (enc:=shD) (fun s=>.bl (decide (s.2=0))) (by omega) hx (fun s hs Q hQ=>?_) ?_)⟩
 ·have:shB ls.length sh=false:=by unfold shB;rw[decide_eq_false (by omega)];rfl
  rw[this]at k
  exact k
 ·unfold shD
  walk_at "sim"
  rw[show decide (s.2.num=0)=decide (s.2=0)from decide_eq_decide.mpr NM]
  exact hQ
 ·show Fl [D.vl (sh.map fun s=>D.bl (decide (s.2=0)))] M _
  rw[show sh.map (fun s=>D.bl (decide (s.2=0)))=(sh.map fun s=>decide (s.2=0)).map D.bl by rw[NL];rfl]
  walk_at "sim"
  rw[show(sh.map fun s=>D.int s.1)=(sh.map (·.1)).map D.int by rw[NL];rfl]
  refine⟨fun c2=>?_,fun c2=>?_⟩
  ·rw[QE,Py]at c2
   obtain⟨s,hs,e⟩:=c2
   rw[Ac ⟨s,hs,of_decide_eq_true e⟩]at k
   exact k
  have nz:∀ s∈sh,s.2≠0:=fun s hs e=>by
   rw[QE,Qw]at c2
   exact c2 s hs (decide_eq_true e)
  rw[Ea (by omega) nz]at k
  have li:∀ ns:List Int,cl 60 (D.vl (ns.map D.int))=true:=fun ns=>bL fun d hd=>by
   obtain⟨n,_,rfl⟩:=MD.mp hd
   rfl
  have inj:∀ a b:List Int,D.vl (a.map D.int)=D.vl (b.map D.int)↔a=b:=fun a b=>⟨fun e=>by
   injection e with e
   exact(Nv fun x y h=>by injection h).mp e,fun e=>by rw[e]⟩
  refine⟨_,sh.map (·.1),rfl,rfl,by rw[MA];omega,li _,li _,fun e=>?_,fun e=>?_⟩
  ·rw[decide_eq_true ((inj _ _).mp e),Nb]at k
   walk_at "sim"
   refine t6 (fun n:Int=>D.bl (decide (0≤n) && decide (n<(ls.length:Int)))) (by rw[MA];omega) (by simp only[t5]) (fun n hn Q hQ=>?_) ?_
   ·walk_at "sim"
    rw[MA]
    exact⟨fun c=>by rw[decide_eq_true c,Nb]at hQ;exact hQ,fun c=>by rw[decide_eq_false c,Oo]at hQ;exact hQ⟩
   ·show xD [D.vl ((sh.map (·.1)).map fun n:Int=>D.bl (decide (0≤n) && decide (n<(ls.length:Int))))] M R
    rw[show(sh.map (·.1)).map (fun n:Int=>D.bl (decide (0≤n) && decide (n<(ls.length:Int))))=((sh.map (·.1)).map fun n=>decide (0≤n) && decide (n<(ls.length:Int))).map D.bl by generalize sh.map (·.1)=ns;rw[NL];rfl]
    walk_at "sim"
    rw[Pe]
    exact k
  ·rw[decide_eq_false fun z=>e ((inj _ _).mpr z),Oo]at k
   exact k
theorem fL(T:Txt K mg)(d:Df K mg "_law_worth" P4 ["p","q","ray"])(JD:Fn P w K mg base "_law_sum" 2 ["one","other"] S2)(Jz:Fn P w K mg base "_law_taken" 2 ["one","other"] D3):Fn P w K mg base "_law_worth" 3 ["p","q","ray"] cN:=by
 have sc:=fo
 walk_at "fn"
 obtain⟨p,q,y,u,rfl,hz,k⟩:=h
 have m1:=RM.u8 p y
 have m2:=RM.u8 q u
 refine⟨_,(d8 (d9 (jc JD hr (a9 (jc Jz hr (a9 (d4 0) (a9 (jx (d4 2) d6) d5))) (a9 (jc Jz hr (a9 (d4 1) (a9 (jx (d4 2) d6) d5))) d5))))),?_⟩
 walk_at "sim"
 exact⟨by omega,by omega,by omega,k⟩
theorem fQ(T:Txt K mg)(d:Df K mg "_law_below" P9 ["one","other"]):Fn P w K mg base "_law_below" 1 ["one","other"] jO:=by
 have sc:=fD
 walk_at "fn"
 obtain⟨q,r,rfl,hz,k⟩:=h
 refine⟨_,(d8 (d9 (jm eJ (e8 g9 (jx (d4 0) d6) (jx (d4 1) d6)) (e8 g9 (jx (d4 1) d6) (jx (d4 0) d6))))),?_⟩
 walk_at "sim"
 rw[RM.Hs]
 exact⟨j3 _ _ (j9 q) (j0 r) (by omega),j3 _ _ (j9 r) (j0 q) (by omega),k⟩
theorem kj(T:Txt K mg)(d:Df K mg "_law_lets" T2 ["lines","ray"])(Kq:Fn P w K mg base "_law_below" 1 ["one","other"] jO)(JR:Fn P w K mg base "_law_bare" 1 ["one"] dR)(JF:Fn P w K mg base "_law_worth" 3 ["p","q","ray"] cN):Fn P w K mg base "_law_lets" 4 ["lines","ray"] oX:=by
 have sc:=jk
 walk_at "fn"
 obtain⟨ls,y,u,rfl,⟨hls,h3,h4⟩,k⟩:=h
 refine⟨_,(d7 (t9 PassesOwn.never rfl (m9 (d4 0)) (o7 (n:=3) rfl (e5 (jn 2 sc.nd) (e5 (jn 3 sc.nd) (e5 (jn 4 sc.nd) j5)))) (d8 (f9 (j8 (jc Kq hr (a9 (d4 4) (a9 (jc JR hr (a9 (jc JF hr (a9 (d4 2) (a9 (d4 3) (a9 (d4 1) d5)))) d5)) d5)))) (d8 (d9 z9)) f7))) (d8 (d9 z9))),?_⟩
 walk_at "sim"
 refine S0.by (fun i e M'=>M'=M∧(∃ z1 z2 z3:Option D,e=[some (.vl (ls.map f8)),some (r9 y u),z1,z2,z3])∧∀ j l,j<i→ls[j]? = some l→N8 l y u=true) ⟨rfl,⟨_,_,_,rfl⟩,fun j l z=>absurd z (QV j)⟩ (fun i e M' _ _=>by simp only[t5]) ?_ ?_
 ·rintro i dd e M' hd ⟨rfl,⟨z1,z2,z3,rfl⟩,hno⟩
  obtain⟨l,hl,rfl⟩:=bF hd
  have hm:=MI hl
  obtain⟨q1,q2,q3⟩:=(hls.2 l hm).z
  have m1:=RM.u8 l.1 y
  have m2:=RM.u8 l.2.1 u
  have m3:=RM.J7 (l.1*y) (l.2.1*u)
  have m4:=Y7 (l.1*y+l.2.1*u)
  walk_at "sim"
  refine⟨by omega,by omega,fun h=>?_,fun h=>⟨⟨_,_,_,rfl⟩,fun j x hj hx=>?_⟩⟩
  ·rw[wZ hm (by rw[nu,decide_eq_true h];rfl)]at k
   exact k
  ·rcases Nat.lt_succ_iff_lt_or_eq.mp hj with z|z
   ·exact hno j x z hx
   ·subst z
    obtain rfl:x=l:=by rw[hl]at hx;exact(Option.some.inj hx).symm
    rw[nu,decide_eq_false h];rfl
 ·rintro e M' ⟨rfl,⟨z1,z2,z3,rfl⟩,hno⟩
  walk_at "sim"
  rw[pG fun i l e=>hno i l (by rw[MA];exact(MH.mp e).1) e]at k
  exact k
theorem fN(T:Txt K mg)(d:Df K mg "_law_right" P6 ["lines","p","q","told"])(Kc:Fn P w K mg base "_law_added" 3 ["lines","shares"] jG)(JM:Fn P w K mg base "_law_are_shares" 1 ["lines","shares"] vU)(JF:Fn P w K mg base "_law_worth" 3 ["p","q","ray"] cN)(Kk:Fn P w K mg base "_law_lets" 4 ["lines","ray"] oX):Fn P w K mg base "_law_right" 5 ["lines","p","q","told"] jF:=by
 have sc:=ft
 walk_at "fn"
 obtain⟨ls,p,q,t,rfl,m,ht,hls,⟨hp,hq⟩,hm,k⟩:=h
 have h12:=hls.1
 cases m with
 | free z =>
  obtain rfl:t = .tup [.str "free",r9 z.1 z.2]:=ht
  obtain⟨z1,z2⟩:=hm.free z rfl
  have k:R (.bl (decide (0<p*z.1+q*z.2) && ls.all fun l=>decide (l.1*z.1+l.2.1*z.2=0))) M:=k
  refine⟨_,(d7 (f9 (jtm cg (jx (d4 3) d6) C9) (d7 (f9 (jtm tm (jx (jc JF hr (a9 (d4 1) (a9 (d4 2) (a9 (jx (d4 3) d6) d5)))) d6) d6) (d8 (d9 z9)) f7) (d8 (d9 (i0 (eT rfl) rfl T.b_all af (a9 (A7 [3] ["line"] ["told"] rfl (by decide +kernel) rfl (by decide +kernel) (by decide +kernel) rfl (X6 ⟨rfl,rfl⟩) (X6 (Or.inl rfl)) (m9 (d4 0)) (fun _ _ _ _ _ _=>(jn 0 (show(["line","told"]:List Str).Nodup by decide +kernel))) (fun _ _ _ _ _ _=>p9) (fun _ _ _ _ _ _=>(jm A2 (jx (jc JF hr (a9 (jx (d4 0) d6) (a9 (jx (d4 0) d6) (a9 (jx (d4 1) d6) d5)))) d6) d6))) d5))))) f7) (d7 (u6 (d4 3) (o7 (n:=4) rfl (e5 (jn 4 sc.nd) (e5 (jn 5 sc.nd) (e5 (jn 6 sc.nd) (e5 (jn 7 sc.nd) j5)))))) (d7 (f9 (A4 (A5 (u7 (j8 (jc Kk hr (a9 (d4 0) (a9 (d4 6) d5))))) (A5 (jtm (mZ hu) (jc JF hr (a9 (d4 1) (a9 (d4 2) (a9 (d4 6) d5)))) (d4 5)) (B6 (u7 (j8 (jc JM hr (a9 (d4 0) (a9 (d4 7) d5))))))))) (d8 (d9 z9)) f7) (d8 (d9 (jm (X9 hu) (jc Kc hr (a9 (d4 0) (a9 (d4 7) d5))) (C1 (a9 (d4 1) (a9 (d4 2) (a9 (d4 5) d5)))))))))),?_⟩
  walk_at "sim"
  have np:(p*z.1+q*z.2).num≤0 ↔ ¬ 0<p*z.1+q*z.2:=by rw[← nh];omega
  rw[np]
  refine⟨by omega,fun c=>?_,fun c=>?_⟩
  ·rw[decide_eq_false c]at k
   exact k
  ·rw[decide_eq_true (Decidable.not_not.mp c),Nb]at k
   refine t6 (fun l=>D.bl (decide (l.1*z.1+l.2.1*z.2=0))) (by omega) (by simp only[t5]) (fun l hl Q hQ=>?_) ?_
   ·obtain⟨y1,y2,y3⟩:=(hls.2 l hl).z
    walk_at "sim"
    refine⟨by omega,?_⟩
    rw[show decide ((l.1*z.1+l.2.1*z.2).num=0)=decide (l.1*z.1+l.2.1*z.2=0)from decide_eq_decide.mpr NM]
    exact hQ
   ·rw[show ls.map (fun l=>D.bl (decide (l.1*z.1+l.2.1*z.2=0)))=(ls.map fun l=>decide (l.1*z.1+l.2.1*z.2=0)).map D.bl by rw[NL];rfl]
    walk_at "sim"
    rw[show(ls.map fun l=>decide (l.1*z.1+l.2.1*z.2=0)).all id=ls.all fun l=>decide (l.1*z.1+l.2.1*z.2=0)by rw[Pe];rfl]
    exact k
 | most v z sh =>
  obtain⟨x,rfl,hx⟩:=ht
  obtain⟨zv,⟨z1,z2⟩,z20,zs⟩:=hm.most v z sh rfl
  have k:R (.bl (E6 ls z.1 z.2 && decide (p*z.1+q*z.2=v) && shB ls.length sh && decide (ad t0 ls sh=p∧ad t1 ls sh=q∧ad t2 ls sh=v))) M:=k
  refine⟨_,(d7 (f9 (jtm cg (jx (d4 3) d6) C9) (d7 (f9 (jtm tm (jx (jc JF hr (a9 (d4 1) (a9 (d4 2) (a9 (jx (d4 3) d6) d5)))) d6) d6) (d8 (d9 z9)) f7) (d8 (d9 (i0 (eT rfl) rfl T.b_all af (a9 (A7 [3] ["line"] ["told"] rfl (by decide +kernel) rfl (by decide +kernel) (by decide +kernel) rfl (X6 ⟨rfl,rfl⟩) (X6 (Or.inl rfl)) (m9 (d4 0)) (fun _ _ _ _ _ _=>(jn 0 (show(["line","told"]:List Str).Nodup by decide +kernel))) (fun _ _ _ _ _ _=>p9) (fun _ _ _ _ _ _=>(jm A2 (jx (jc JF hr (a9 (jx (d4 0) d6) (a9 (jx (d4 0) d6) (a9 (jx (d4 1) d6) d5)))) d6) d6))) d5))))) f7) (d7 (u6 (d4 3) (o7 (n:=4) rfl (e5 (jn 4 sc.nd) (e5 (jn 5 sc.nd) (e5 (jn 6 sc.nd) (e5 (jn 7 sc.nd) j5)))))) (d7 (f9 (A4 (A5 (u7 (j8 (jc Kk hr (a9 (d4 0) (a9 (d4 6) d5))))) (A5 (jtm (mZ hu) (jc JF hr (a9 (d4 1) (a9 (d4 2) (a9 (d4 6) d5)))) (d4 5)) (B6 (u7 (j8 (jc JM hr (a9 (d4 0) (a9 (d4 7) d5))))))))) (d8 (d9 z9)) f7) (d8 (d9 (jm (X9 hu) (jc Kc hr (a9 (d4 0) (a9 (d4 7) d5))) (C1 (a9 (d4 1) (a9 (d4 2) (a9 (d4 5) d5)))))))))),?_⟩
  walk_at "sim"
  refine⟨fun c=>absurd c (by decide),fun _=>⟨⟨hls,z1,z2⟩,fun c=>?_,fun c=>⟨by omega,fun c2=>?_,fun c2=>⟨sh,hx,h12,z20,fun c3=>?_,fun c3=>⟨sh,hx,hls,c3,zs,?_⟩⟩⟩⟩⟩
  ·rw[c]at k;exact k
  ·rw[decide_eq_false c2,NA]at k;exact k
  ·rw[c3,NA]at k;exact k
  ·rw[c,decide_eq_true c2,c3,Nb,Nb]at k
   rw[xW (b:=decide (ad t0 ls sh=p∧ad t1 ls sh=q∧ad t2 ls sh=v)) ?_]
   ·exact k
   ·rw[decide_eq_true_eq]
    constructor
    ·intro e
     injection e with e
     injection e with e1 e
     injection e with e2 e
     injection e with e3 e
     exact⟨G2 e1,G2 e2,G2 e3⟩
    ·rintro⟨e1,e2,e3⟩
     rw[e1,e2,e3]
theorem bC(T:Txt K mg)(d:Df K mg "_law_is_ratio" G4 ["found"]):Fn P w K mg base "_law_is_ratio" 1 ["found"] eA:=by
 have sc:=bw
 walk_at "fn"
 obtain⟨q,rfl,k⟩:=h
 refine⟨_,(d7 (f9 (A4 (A5 (u7 (j8 (i0 (U7 T.sub) rfl T.b_isinstance m5 (a9 (d4 0) (a9 (U2 rfl T.b_tuple U8) d5))))) (B6 (jtm wQ (i0 E7 rfl T.b_len B7 (a9 (d4 0) d5)) d6)))) (d8 (d9 z9)) f7) (d8 (d9 (B9 (i0 (eT rfl) rfl T.b_all af (a9 (A7 [] ["part"] [] rfl (by decide +kernel) rfl (by decide +kernel) (by decide +kernel) rfl U9 U9 (m9 (d4 0)) (fun _ _ _ _ _ _=>(jn 0 (show(["part"]:List Str).Nodup by decide +kernel))) (fun _ _ _ _ _ _=>p9) (fun _ _ _ _ _ _=>(B9 (i0 (U7 T.sub) rfl T.b_isinstance m5 (a9 (d4 0) (a9 (U2 rfl T.b_int pU) d5))) (E1 (rF (i0 (U7 T.sub) rfl T.b_isinstance m5 (a9 (d4 0) (a9 (U2 rfl T.b_bool kP) d5)))))))) d5)) (E1 (jm aU (jx (d4 0) d6) d6)))))),?_⟩
 walk_at "sim"
 show yu (D.tup [.int q.num,.int (q.den:Int)]) M _
 walk_at "sim"
 refine t6 (xs:=[q.num,(q.den:Int)]) (enc:=D.int) (fun _=>.bl true) (by show 2≤1000;decide) (.inl rfl) (fun n hn Q hQ=>?_) ?_
 ·walk_at "sim"
  exact hQ
 ·show xD [D.vl ([true,true].map D.bl)] M _
  walk_at "sim"
  have d:=q.den_pos
  rw[decide_eq_true (show(0:Int)<(q.den:Int)by omega)]
  exact⟨fun _=>k,fun c=>absurd c (by decide)⟩
theorem aT(T:Txt K mg)(d:Df K mg "_law_is_shares" E9 ["found"])(JC:Fn P w K mg base "_law_is_ratio" 1 ["found"] eA):Fn P w K mg base "_law_is_shares" 2 ["found"] vW:=by
 have sc:=av
 walk_at "fn"
 obtain⟨l,rfl,sh,hm,h20,k⟩:=h
 refine⟨_,(d7 (f9 (u7 (j8 (i0 (U7 T.sub) rfl T.b_isinstance m5 (a9 (d4 0) (a9 (U2 rfl T.b_list kO) d5))))) (d8 (d9 z9)) f7) (d7 (t9 PassesOwn.never rfl (m9 (d4 0)) (jn 1 sc.nd) (d7 (f9 (A4 (A5 (u7 (j8 (i0 (U7 T.sub) rfl T.b_isinstance m5 (a9 (d4 1) (a9 (U2 rfl T.b_tuple U8) d5))))) (A5 (jtm wQ (i0 E7 rfl T.b_len B7 (a9 (d4 1) d5)) d6) (A5 (j8 (i0 (U7 T.sub) rfl T.b_isinstance m5 (a9 (jx (d4 1) d6) (a9 (U2 rfl T.b_bool kP) d5)))) (B6 (u7 (j8 (i0 (U7 T.sub) rfl T.b_isinstance m5 (a9 (jx (d4 1) d6) (a9 (U2 rfl T.b_int pU) d5)))))))))) (d8 (d9 z9)) f7) (d8 (f9 (u7 (j8 (jc JC hr (a9 (jx (d4 1) d6) d5)))) (d8 (d9 z9)) f7)))) (d8 (d9 z9)))),?_⟩
 walk_at "sim"
 rw[p8 (b:=true) (zX hm) rfl]
 walk_at "sim"
 refine L5 (.inr (.inl ⟨l,rfl,hm⟩)) ?_
 refine S0.by (fun i e M'=>M'=M∧∃ z1:Option D,e=[some (.ref l),z1]) ⟨rfl,_,rfl⟩ (fun i e M' _ h=>by rw[h.1];exact .inr (.inl ⟨l,rfl,hm⟩)) ?_ ?_
 ·rintro i dd e M' hd ⟨rfl,z1,rfl⟩
  obtain⟨s,hs,rfl⟩:=cM hd
  have hd:shD s = .tup [.int s.1,e7 s.2]:=rfl
  rw[hd]
  walk_at "sim"
  exact⟨fun c=>absurd rfl c,fun _=>⟨_,rfl⟩⟩
 ·rintro e M' ⟨rfl,z1,rfl⟩
  walk_at "sim"
  exact k
theorem eF(T:Txt K mg)(d:Df K mg "_law_is_ray" L9 ["found"])(JC:Fn P w K mg base "_law_is_ratio" 1 ["found"] eA):Fn P w K mg base "_law_is_ray" 2 ["found"] oZ:=by
 have sc:=dX
 walk_at "fn"
 obtain⟨y,u,rfl,k⟩:=h
 refine⟨_,(d8 (d9 (B9 (i0 (U7 T.sub) rfl T.b_isinstance m5 (a9 (d4 0) (a9 (U2 rfl T.b_tuple U8) d5))) (B9 (jm A2 (i0 E7 rfl T.b_len B7 (a9 (d4 0) d5)) d6) (E1 (i0 (eT rfl) rfl T.b_all af (a9 (A7 [] ["part"] [] rfl (by decide +kernel) rfl (by decide +kernel) (by decide +kernel) rfl U9 U9 (m9 (d4 0)) (fun _ _ _ _ _ _=>(jn 0 (show(["part"]:List Str).Nodup by decide +kernel))) (fun _ _ _ _ _ _=>p9) (fun _ _ _ _ _ _=>(jc JC hr (a9 (d4 0) d5)))) d5))))))),?_⟩
 walk_at "sim"
 refine⟨fun _=>t6 (xs:=[y,u]) (enc:=e7) (fun _=>.bl true) (by show 2≤1000;decide) (.inl rfl) (fun n hn Q hQ=>?_) ?_,fun c=>absurd rfl c⟩
 ·walk_at "sim"
  exact hQ
 ·show xD [D.vl ([true,true].map D.bl)] M _
  walk_at "sim"
  exact k
theorem cB(T:Txt K mg)(d:Df K mg "_law_is_told" K0 ["found"])(JX:Fn P w K mg base "_law_is_shares" 2 ["found"] vW)(JZ:Fn P w K mg base "_law_is_ray" 2 ["found"] oZ)(JC:Fn P w K mg base "_law_is_ratio" 1 ["found"] eA):Fn P w K mg base "_law_is_told" 3 ["found"] jH:=by
 have sc:=cw
 walk_at "fn"
 obtain⟨t,rfl,m,ht,k⟩:=h
 refine⟨_,(d7 (f9 (A4 (A5 (u7 (j8 (i0 (U7 T.sub) rfl T.b_isinstance m5 (a9 (d4 0) (a9 (U2 rfl T.b_tuple U8) d5))))) (B6 (jtm Bc (i0 E7 rfl T.b_len B7 (a9 (d4 0) d5)) (g7 (a9 d6 (a9 d6 d5))))))) (d8 (d9 z9)) f7) (d7 (f9 (jtm A2 (i0 E7 rfl T.b_len B7 (a9 (d4 0) d5)) d6) (d8 (d9 (B9 (jm cg (jx (d4 0) d6) C9) (E1 (jc JZ hr (a9 (jx (d4 0) d6) d5)))))) f7) (d8 (d9 (B9 (jm cg (jx (d4 0) d6) C9) (B9 (jc JC hr (a9 (jx (d4 0) d6) d5)) (B9 (jc JZ hr (a9 (jx (d4 0) d6) d5)) (E1 (jc JX hr (a9 (jx (d4 0) d6) d5)))))))))),?_⟩
 rcases ht with⟨z,rfl,rfl⟩|⟨v,z,sh,l,rfl,rfl,hm,h20⟩
 ·walk_at "sim"
  refine rz (n:=2) (.inl rfl) ?_
  walk_at "sim"
  exact⟨fun _=>k,fun c=>absurd rfl c⟩
 ·walk_at "sim"
  refine rz (n:=4) (.inr rfl) ?_
  walk_at "sim"
  exact⟨fun c=>absurd c (by decide),fun _=>⟨sh,hm,h20,k⟩⟩
theorem pD(T:Txt K mg)(d:Df K mg "divisor" bz ["one","other"]):Fn P w K mg base "divisor" 1 ["one","other"] N4:=by
 have sc:=oJ
 refine h7 d sc (fun ds M R Y h=>?_) (fun f cdv A outer s H E ds M R Y hr h=>?_)
 ·obtain⟨a,b,rfl,_⟩:=h;rfl
 ·obtain⟨a,b,rfl,k⟩:=h
  refine⟨_,(d7 (bG PassesOwn.never (jtm wQ (d4 1) d6) (d8 (aY (i:=0) (j:=1) rfl sc.nd rfl rfl (by decide) rfl rfl (a9 (d4 1) (a9 (e8 R9 (d4 0) (d4 1)) d5))))) (d8 (d9 (d4 0)))),?_⟩
  refine⟨fun m e M'=>M'=M∧∃ u:Nat,e=[some (.int (u:Int)),some (.int (m:Int))]∧NH u m=NH a b,⟨b,rfl,a,rfl,rfl⟩,?_⟩
  rintro v e M' ⟨rfl,u,rfl,hg⟩
  refine⟨_,rfl,_,rfl,_,rfl,?_⟩
  refine Hx (fun h0=>?_) (fun h0=>?_)
  ·have hv:0<v:=by omega
   refine⟨_,rfl,_,rfl,_,rfl,_,_,rfl,rfl,by omega,_,_,rfl,?_⟩
   exact⟨u % v,OT _ hv,rfl,v,rfl,by rw[← RM.nE u v (by omega)];exact hg⟩
  ·have hv:v=0:=by omega
   subst hv
   rw[Qv]at hg
   subst hg
   exact⟨_,rfl,k⟩
theorem mU(T:Txt K mg)(d:Df K mg "is_whole" Z3 ["thing"]):Fn P w K mg base "is_whole" 1 ["thing"] qV:=by
 have sc:=mF
 refine h7 d sc (fun ds M R Y h=>?_) (fun f cdv A outer s H E ds M R Y hr h=>?_)
 ·obtain⟨n,rfl,_⟩:=h;rfl
 ·obtain⟨n,rfl,k⟩:=h
  refine⟨_,(d8 (d9 (B9 (i0 (U7 T.sub) rfl T.b_isinstance m5 (a9 (d4 0) (a9 (U2 rfl T.b_int pU) d5))) (E1 (rF (i0 (U7 T.sub) rfl T.b_isinstance m5 (a9 (d4 0) (a9 (U2 rfl T.b_bool kP) d5)))))))),?_⟩
  refine⟨_,rfl,_,_,_,_,rfl,rfl,rfl,_,rfl,?_⟩
  refine Hw ?_
  exact⟨_,rfl,_,_,_,_,rfl,rfl,rfl,_,rfl,k⟩
theorem wK(T:Txt K mg)(d:Df K mg "ratio" jq ["top","bottom"])(Kr:Fn P w K mg base "is_whole" 1 ["thing"] qV)(JN:Fn P w K mg base "divisor" 1 ["one","other"] N4):Fn P w K mg base "ratio" 2 ["top","bottom"] E4:=by
 have sc:=vK
 refine h7 d sc (fun ds M R Y h=>?_) (fun f cdv A outer s H E ds M R Y hr h=>?_)
 ·obtain⟨p,b,rfl,_⟩:=h;rfl
 ·obtain⟨a,b,rfl,hb,hl,k⟩:=h
  refine⟨_,(d7 (f9 (A4 (A5 (u7 (j8 (jc Kr hr (a9 (d4 0) d5)))) (A5 (u7 (j8 (jc Kr hr (a9 (d4 1) d5)))) (B6 (jtm A2 (d4 1) d6))))) (d8 tE) f7) (d7 (jst 2 sc.nd (jc JN hr (a9 (i0 eU rfl T.b_abs ag (a9 (d4 0) d5)) (a9 (i0 eU rfl T.b_abs ag (a9 (d4 1) d5)) d5)))) (d7 (f9 (jtm eJ (d4 1) d6) (d8 (jst 2 sc.nd (U3 (d4 2)))) f7) (d8 (d9 (g7 (a9 (e8 K4 (d4 0) (d4 2)) (a9 (e8 K4 (d4 1) (d4 2)) d5)))))))),?_⟩
  refine⟨_,rfl,_,rfl,true,rfl,?_⟩
  refine Hy ?_
  refine⟨_,rfl,_,rfl,true,rfl,?_⟩
  refine Hy ?_
  refine⟨_,rfl,_,rfl,_,rfl,?_⟩
  refine xr (fun h=>absurd h hb) (fun _=>?_)
  refine⟨_,rfl,_,rfl,_,rfl,_,rfl,a.natAbs,b.natAbs,rfl,?_⟩
  have hn:=xy (a:=a) hb
  have hlg:=rL (a:=a) hb hl
  refine⟨_,rfl,_,rfl,_,rfl,?_⟩
  refine xr (fun h1=>?_) (fun h1=>?_)
  ·have c1:∀ i:Int,CFd i (-((NH a.natAbs b.natAbs:Nat):Int)):=fun i=>⟨by omega,by rw[Nz];exact hlg⟩
   refine⟨_,rfl,_,rfl,_,rfl,_,rfl,_,_,rfl,rfl,c1 _,_,rfl,_,rfl,_,_,rfl,rfl,c1 _,sl 2,?_⟩
   exact dc hb (by rw[if_pos h1]) k
  ·have c1:∀ i:Int,CFd i ((NH a.natAbs b.natAbs:Nat):Int):=fun i=>⟨hn,hlg⟩
   refine⟨_,rfl,_,rfl,_,_,rfl,rfl,c1 _,_,rfl,_,rfl,_,_,rfl,rfl,c1 _,sl 2,?_⟩
   exact dc hb (by rw[if_neg h1]) k
theorem AU(T:Txt K mg)(d:Df K mg "veer" dY ["one","other"]):Fn P w K mg base "veer" 1 ["one","other"] eu:=by
 have sc:=jb
 walk_at "fn"
 obtain⟨a,b,rfl,⟨ha,hb⟩,k⟩:=h
 unfold sdD
 refine⟨_,(d8 (d9 (e8 E5 (e8 g9 (jx (d4 0) d6) (jx (d4 1) d6)) (e8 g9 (jx (d4 0) d6) (jx (d4 1) d6))))),?_⟩
 walk_at "sim"
 exact⟨j3 _ _ ha.p hb.q (by decide),j3 _ _ ha.q hb.p (by decide),k⟩
theorem sY(T:Txt K mg)(d:Df K mg "met_at" dZ ["one","other"])(JH:Fn P w K mg base "ratio" 2 ["top","bottom"] E4)(JL:Fn P w K mg base "veer" 1 ["one","other"] eu):Fn P w K mg base "met_at" 3 ["one","other"] Ee:=by
 have sc:=sQ
 walk_at "fn"
 obtain⟨a,b,rfl,⟨ha,hb,hv⟩,k⟩:=h
 refine⟨_,(d7 (jst 2 sc.nd (jc JL hr (a9 (d4 0) (a9 (d4 1) d5)))) (d7 (jst 3 sc.nd (jc JH hr (a9 (e8 E5 (e8 g9 (jx (d4 0) d6) (jx (d4 1) d6)) (e8 g9 (jx (d4 1) d6) (jx (d4 0) d6))) (a9 (d4 2) d5)))) (d7 (jst 4 sc.nd (jc JH hr (a9 (e8 E5 (e8 g9 (jx (d4 0) d6) (jx (d4 1) d6)) (e8 g9 (jx (d4 1) d6) (jx (d4 0) d6))) (a9 (d4 2) d5)))) (d8 (d9 (g7 (a9 (d4 3) (a9 (d4 4) d5)))))))),?_⟩
 walk_at "sim"
 have lv:(veZ a b).natAbs.log2<9000:=Mt (K7 (ha.ve hb) (by decide)) (by decide)
 refine⟨⟨ha,hb⟩,j3 _ _ ha.r hb.q (by decide),j3 _ _ hb.r ha.q (by decide),hv,lv,j3 _ _ ha.p hb.r (by decide),j3 _ _ hb.p ha.r (by decide),hv,lv,?_⟩
 rw[← wb]at k
 exact k
theorem pB(T:Txt K mg)(d:Df K mg "veer" dY ["one","other"]):Fn P w K mg base "veer" 1 ["one","other"] jw:=by
 have sc:=jb
 walk_at "fn"
 obtain⟨a,x,y,rfl,⟨ha,hw⟩,k⟩:=h
 unfold sdD
 refine⟨_,(d8 (d9 (e8 E5 (e8 g9 (jx (d4 0) d6) (jx (d4 1) d6)) (e8 g9 (jx (d4 0) d6) (jx (d4 1) d6))))),?_⟩
 walk_at "sim"
 exact⟨j3 _ _ ha.p hw.2 (by decide),j3 _ _ ha.q hw.1 (by decide),k⟩
theorem pA(T:Txt K mg)(d:Df K mg "veer" dY ["one","other"]):Fn P w K mg base "veer" 1 ["one","other"] jv:=by
 have sc:=jb
 walk_at "fn"
 obtain⟨x,y,b,rfl,⟨hb,hw⟩,k⟩:=h
 unfold sdD
 refine⟨_,(d8 (d9 (e8 E5 (e8 g9 (jx (d4 0) d6) (jx (d4 1) d6)) (e8 g9 (jx (d4 0) d6) (jx (d4 1) d6))))),?_⟩
 walk_at "sim"
 exact⟨j3 _ _ hw.1 hb.q (by decide),j3 _ _ hw.2 hb.p (by decide),k⟩
theorem sZ(T:Txt K mg)(d:Df K mg "facing" ee ["side"]):Fn P w K mg base "facing" 1 ["side"] Ak:=by
 have sc:=sR
 walk_at "fn"
 obtain⟨a,rfl,k⟩:=h
 unfold sdD
 refine⟨_,(d7 (u6 (d4 0) (o7 (n:=5) rfl (e5 (jn 1 sc.nd) (e5 (jn 2 sc.nd) (e5 (jn 3 sc.nd) (e5 (jn 4 sc.nd) (e5 (jn 5 sc.nd) j5))))))) (d8 (d9 (g7 (a9 (U3 (d4 1)) (a9 (U3 (d4 2)) (a9 (d4 3) (a9 (d4 4) (a9 (U3 (d4 5)) d5))))))))),?_⟩
 walk_at "sim"
 exact k
theorem cA(T:Txt K mg)(d:Df K mg "sides_around" J9 ["half","wanted"])(Kf:Fn P w K mg base "veer" 1 ["one","other"] jv)(Kg:Fn P w K mg base "veer" 1 ["one","other"] jw)(Kp:Fn P w K mg base "facing" 1 ["side"] Ak):Fn P w K mg base "sides_around" 2 ["half","wanted"] Ei:=by
 have sc:=cu
 walk_at "fn"
 obtain⟨half,x,y,rfl,⟨hl,hs,hw⟩,k⟩:=h
 refine⟨_,(d7 (jst 2 sc.nd (kz (d4 0) (A7 [] ["side"] [] rfl (by decide +kernel) rfl (by decide +kernel) (by decide +kernel) rfl U9 U9 (m9 (d4 0)) (fun _ _ _ _ _ _=>(jn 0 (show(["side"]:List Str).Nodup by decide +kernel))) (fun _ _ _ _ _ _=>p9) (fun _ _ _ _ _ _=>(jc Kp hr (a9 (d4 0) d5)))))) (d7 (jst 3 sc.nd Q8) (d7 (t9 PassesOwn.never rfl (Bp rfl T.b_zip (a9 (d4 2) (a9 (kz (bH (d4 2) (J4 d6) J5) (bH (d4 2) J5 (J4 d6))) d5))) (o7 (n:=2) rfl (e5 (jn 4 sc.nd) (e5 (jn 5 sc.nd) j5))) (d8 (f9 (A4 (Q9 (jtm Ho (jc Kg hr (a9 (d4 4) (a9 (d4 1) d5))) d6) (J1 (jtm aU (jc Kf hr (a9 (d4 1) (a9 (d4 5) d5))) d6)))) (d8 (jst 3 sc.nd (g7 (a9 (d4 4) (a9 (d4 5) d5))))) f7))) (d8 (d9 (d4 3)))))),?_⟩
 walk_at "sim"
 refine t6 (fun s=>sdD (i9 s)) (by omega) (by simp only[t5]) (fun s hm Q hQ=>?_) ?_
 ·walk_at "sim"
  exact hQ
 have em:half.map (fun s=>sdD (i9 s))=(half.map i9).map sdD:=by rw[NL];rfl
 rw[em]
 walk_at "sim"
 have hrl:(cy half).length≤60:=by unfold cy;rw[Nu,MA];omega
 have hrs:∀ s∈cy half,SzS s:=fun s hm=>by
  rcases MX.mp hm with hm|hm
  ·exact hs s hm
  ·obtain⟨t,ht,rfl⟩:=MD.mp hm
   obtain⟨a,b,c⟩:=hs t ht
   exact⟨by show(-t.1).natAbs<_;rw[Nz];exact a,by show(-t.2.1).natAbs<_;rw[Nz];exact b,c⟩
 have l1:(Ol sdD half).length+(Ol sdD (Ol i9 half)).length≤60:=by rw[MA,MA,MA];omega
 have k:R (AO ((cF (cy half)).foldl (bo (x,y)) none)) M:=k
 rw[B8 (by omega),Aq]
 generalize cy half=rm at *
 have c1:DL.O2 (rm.map sdD) (some 1) none=(rm.drop 1).map sdD:=by rw[show(1:Int)=((1:Nat):Int)from rfl,BE,List.map_drop]
 have c2:DL.O2 (rm.map sdD) none (some 1)=(rm.take 1).map sdD:=by rw[show(1:Int)=((1:Nat):Int)from rfl,pQ,Qu]
 rw[c1,c2,B8 (by rw[MA,MA,Oq,Nr];omega),← MR,tS]
 have ez:rm.zip (rm.drop 1++rm.take 1)=cF rm:=rfl
 rw[ez]
 refine S0.by (fun i e M'=>M'=M∧∃ z4 z5:Option D,e=[some (D.vl (Ol sdD half)),some (D.vl [D.int x,D.int y]),some (D.vl (rm.map sdD)),some (AO (((cF rm).take i).foldl (bo (x,y)) none)),z4,z5]) ⟨rfl,_,_,rfl⟩ (fun i e M' _ _=>by simp only[t5,and_self]) ?_ ?_
 ·rintro i dd e M' hd ⟨rfl,z4,z5,rfl⟩
  rw[MV]at hd
  cases hq:(cF rm)[i]? with
  | none=>rw[hq]at hd;cases hd
  | some ab =>
   rw[hq]at hd
   obtain rfl:=Option.some.inj hd
   have e1:((cF rm).take (i+1)).foldl (bo (x,y)) none=bo (x,y) (((cF rm).take i).foldl (bo (x,y)) none) ab:=by
    rw[NI,hq,NV];rfl
   have hm:=MI hq
   obtain⟨ha,hb⟩:ab.1∈rm∧ab.2∈rm:=by
    have hz:=OX (show(ab.1,ab.2)∈rm.zip (rm.drop 1++rm.take 1)from hm)
    refine⟨hz.1,?_⟩
    rcases MX.mp hz.2 with h|h
    ·exact Qb h
    ·exact Om h
   rw[e1]
   generalize ((cF rm).take i).foldl (bo (x,y)) none=f at *
   walk_at "sim"
   unfold bo
   refine⟨⟨hrs _ ha,hw⟩,fun h1=>⟨⟨hrs _ hb,hw⟩,fun h2=>⟨some (sdD ab.1),some (sdD ab.2),?_⟩,fun h2=>⟨some (sdD ab.1),some (sdD ab.2),?_⟩⟩,fun h1=>⟨some (sdD ab.1),some (sdD ab.2),?_⟩⟩
   ·rw[if_pos ⟨h1,h2⟩];rfl
   ·rw[if_neg (fun z=>h2 z.2)]
   ·rw[if_neg (fun z=>h1 z.1)]
 ·rw[MA,NF]
  rintro e M' ⟨rfl,z4,z5,rfl⟩
  walk_at "sim"
  exact k
theorem cz(T:Txt K mg)(d:Df K mg "tops_over" L0 ["ratios","bottom"]):Fn P w K mg base "tops_over" 1 ["ratios","bottom"] oS:=by
 have sc:=au
 walk_at "fn"
 obtain⟨p,q,c,rfl,⟨⟨h1,h2⟩,rfl⟩,k⟩:=h
 refine⟨_,(d8 (d9 (A7 [1] ["one"] ["bottom"] rfl (by decide +kernel) rfl (by decide +kernel) (by decide +kernel) rfl (X6 ⟨rfl,rfl⟩) (X6 (Or.inl rfl)) (m9 (d4 0)) (fun _ _ _ _ _ _=>(jn 0 (show(["one","bottom"]:List Str).Nodup by decide +kernel))) (fun _ _ _ _ _ _=>p9) (fun _ _ _ _ _ _=>(e8 g9 (jx (d4 0) d6) (e8 K4 (d4 1) (jx (d4 0) d6))))))),?_⟩
 walk_at "sim"
 refine t6 (xs:=[p,q]) (enc:=e7) (fun r=>.int (O5 r (cb2 p q))) (by show 2≤1000;decide) (by simp only[v7]) (fun r hr Q hQ=>?_) k
 have hrz:sz r≤1100:=by
  simp only[Mv,MG,or_false]at hr
  rcases hr with rfl|rfl
  ·exact h1
  ·exact h2
 have d0:=r.den_pos
 have hd:r.den<2 ^ 1100:=o8 r hrz
 have ef:((cb2 p q:Nat):Int).fdiv (r.den:Int)=((cb2 p q / r.den:Nat):Int):=by rw[bf (by omega) (by omega)];rfl
 walk_at "sim"
 rw[ef]
 exact⟨⟨by omega,Mt (K7 (by rw[MC];exact hd) (by decide)) (by decide)⟩,j3 1100 2200 (L1 r hrz) (by rw[MC];exact MP (Oe _ _) (yi h1 h2)) (by decide),hQ⟩
theorem X4(T:Txt K mg)(d:Df K mg "common_bottom" D4 ["ratios"])(JN:Fn P w K mg base "divisor" 1 ["one","other"] N4):Fn P w K mg base "common_bottom" 2 ["ratios"] Eh:=by
 have sc:=N7
 walk_at "fn"
 obtain⟨p,q,rfl,⟨h1,h2⟩,k⟩:=h
 refine⟨_,(d7 (jst 1 sc.nd d6) (d7 (t9 PassesOwn.never rfl (m9 (d4 0)) (jn 2 sc.nd) (d8 (jst 1 sc.nd (e8 g9 (e8 K4 (d4 1) (jc JN hr (a9 (d4 1) (a9 (jx (d4 2) d6) d5)))) (jx (d4 2) d6))))) (d8 (d9 (d4 1))))),?_⟩
 walk_at "sim"
 refine S0.by (fun i e M'=>M'=M∧∃ z:Option D,e=[some (r9 p q),some (.int ((([p,q].take i).foldl (fun c q=>A3 c q.den) 1:Nat):Int)),z]) ⟨rfl,_,rfl⟩ (fun i e M' _ h=>by rw[h.1];simp only[v7]) ?_ ?_
 ·rintro i dd e M' hd ⟨rfl,z,rfl⟩
  obtain⟨r,hr,hrz,hi,rfl⟩:∃ r:Rat,[p,q][i]? = some r∧sz r≤1100∧i<2∧dd=e7 r:=by
   have hi:i<2:=(MH.mp hd).1
   rcases(show i=0∨i=1 by omega)with rfl|rfl
   ·cases hd;exact⟨p,rfl,h1,hi,rfl⟩
   ·cases hd;exact⟨q,rfl,h2,hi,rfl⟩
  have e1:([p,q].take (i+1)).foldl (fun c q=>A3 c q.den) 1=A3 (([p,q].take i).foldl (fun c q=>A3 c q.den) 1) r.den:=by
   rw[NI,hr,NV];rfl
  have hc:0<([p,q].take i).foldl (fun c q=>A3 c q.den) 1∧([p,q].take i).foldl (fun c q=>A3 c q.den) 1<2 ^ 1101:=by
   rcases(show i=0∨i=1 by omega)with rfl|rfl
   ·exact⟨Nat.one_pos,Qs (by decide)⟩
   ·refine⟨by show 0<A3 1 p.den;rw[Q6];exact Pr (by decide) p.den_pos,?_⟩
    show A3 1 p.den<_
    have:=C7 1 p.den
    exact MP (by omega) (U0 (o8 p h1) (by decide))
  have hd2:r.den<2 ^ 1100:=o8 r hrz
  rw[e1]
  obtain⟨hc0,hb⟩:=hc
  generalize ([p,q].take i).foldl (fun c q=>A3 c q.den) 1=c at *
  have g0:0<NH c r.den:=Ov _ r.den_pos
  have g1:NH c r.den<2 ^ 1100:=MP (Nat.le_of_dvd r.den_pos (QC _ _)) hd2
  have ef:(c:Int).fdiv (NH c r.den:Nat)=((c / NH c r.den:Nat):Int):=by rw[bf (by omega) (by omega)];rfl
  walk_at "sim"
  rw[ef]
  refine⟨⟨by omega,Mt (K7 (by rw[MC];exact g1) (by decide)) (by decide)⟩,?_,some (e7 r),?_⟩
  ·exact j3 1101 1100 (by rw[MC];exact MP (Oe _ _) hb) (by rw[MC];exact hd2) (by decide)
  ·unfold A3
   rw[OC]
 ·rintro e M' ⟨rfl,z,rfl⟩
  walk_at "sim"
  exact k
theorem eD(T:Txt K mg)(d:Df K mg "most_around" L7 ["half","p","q"])(KZ:Fn P w K mg base "met_at" 3 ["one","other"] Ee)(JH:Fn P w K mg base "ratio" 2 ["top","bottom"] E4)(JL:Fn P w K mg base "veer" 1 ["one","other"] eu)(Kg:Fn P w K mg base "veer" 1 ["one","other"] jw)(Kf:Fn P w K mg base "veer" 1 ["one","other"] jv)(Kh:Fn P w K mg base "sides_around" 2 ["half","wanted"] Ei)(Ki:Fn P w K mg base "tops_over" 1 ["ratios","bottom"] oS)(JP:Fn P w K mg base "common_bottom" 2 ["ratios"] Eh):Fn P w K mg base "most_around" 4 ["half","p","q"] oU:=by
 have sc:=dU
 walk_at "fn"
 obtain⟨half,p,q,rfl,⟨⟨hl,hs⟩,⟨hp,hq⟩,a,b,ea,⟨sa,sb⟩,hv,hn,ca,cb⟩,k⟩:=h
 have wz:=IA hp hq
 refine⟨_,(d7 (jst 3 sc.nd (jc JP hr (a9 (g7 (a9 (d4 1) (a9 (d4 2) d5))) d5))) (d7 (jst 4 sc.nd (jc Ki hr (a9 (g7 (a9 (d4 1) (a9 (d4 2) d5))) (a9 (d4 3) d5)))) (d7 (u6 (jc Kh hr (a9 (d4 0) (a9 (d4 4) d5))) (o7 (n:=2) rfl (e5 (jn 5 sc.nd) (e5 (jn 6 sc.nd) j5)))) (d7 (jst 7 sc.nd (jc Kf hr (a9 (d4 4) (a9 (d4 6) d5)))) (d7 (jst 8 sc.nd (jc Kg hr (a9 (d4 5) (a9 (d4 4) d5)))) (d7 (jst 9 sc.nd (e8 g9 (d4 3) (jc JL hr (a9 (d4 5) (a9 (d4 6) d5))))) (d7 (jst 10 sc.nd (jc JH hr (a9 (e8 C3 (e8 g9 (d4 7) (jx (d4 5) d6)) (e8 g9 (d4 8) (jx (d4 6) d6))) (a9 (d4 9) d5)))) (d7 (jst 11 sc.nd (C1 (a9 (g7 (a9 (jx (d4 5) d6) (a9 (jc JH hr (a9 (e8 g9 (d4 7) (jx (d4 5) d6)) (a9 (d4 9) d5))) d5))) (a9 (g7 (a9 (jx (d4 6) d6) (a9 (jc JH hr (a9 (e8 g9 (d4 8) (jx (d4 6) d6)) (a9 (d4 9) d5))) d5))) d5)))) (d8 (d9 (g7 (a9 C9 (a9 (d4 10) (a9 (jc KZ hr (a9 (d4 5) (a9 (d4 6) d5))) (a9 (i0 ym rfl T.b_sorted iF (a9 (A7 [] ["pair"] [] rfl (by decide +kernel) rfl (by decide +kernel) (by decide +kernel) rfl U9 U9 (m9 (d4 11)) (fun _ _ _ _ _ _=>(jn 0 (show(["pair"]:List Str).Nodup by decide +kernel))) (fun _ _ _ _ _ _=>(tF (jtm (mZ hu) (jx (d4 0) d6) (A6 rfl T.c_NOUGHT)))) (fun _ _ _ _ _ _=>(d4 0))) d5)) d5))))))))))))))),?_⟩
 walk_at "sim"
 refine⟨⟨hp,hq⟩,⟨hp,hq⟩,⟨hl,hs,wz⟩,?_⟩
 have ea':kS half ((wtF p q).1,(wtF p q).2)=some (a,b):=ea
 rw[ea']
 unfold AO
 walk_at "sim"
 have k:nY (match kS half (wtF p q)with|none=>N3.free (0,0)|some (a,b)=>.most (vlF a b (wtF p q) (cb2 p q)) (ry (tri a) (tri b)) (shF a b (wtF p q) (cb2 p q))) M R:=k
 rw[ea]at k
 have c0:=bh p q
 have cl:=yi hp hq
 have vl:=sa.ve sb
 have w1:(wVe (wtF p q) b).natAbs<2 ^ 3401:=by
  have h1:=B2 wz.1 sb.q
  have h2:=B2 wz.2 sb.p
  unfold wVe
  have:=Oj ((wtF p q).1*b.2.1) ((wtF p q).2*b.1)
  rw[show 3401=2200+1200+1 from rfl,NJ]
  omega
 have w2:(veW a (wtF p q)).natAbs<2 ^ 3401:=by
  have h1:=B2 sa.p wz.2
  have h2:=B2 sa.q wz.1
  unfold veW
  have:=Oj (a.1*(wtF p q).2) (a.2.1*(wtF p q).1)
  rw[show 3401=1200+2200+1 from rfl,NJ]
  omega
 have wn:(((cb2 p q:Nat):Int)*veZ a b).natAbs<2 ^ 4601:=by
  have:=B2 (a:=((cb2 p q:Nat):Int)) (by rw[MC];exact cl) vl
  exact this
 have w0:((cb2 p q:Nat):Int)*veZ a b≠0:=Nj (by omega) (by omega)
 have wl:(((cb2 p q:Nat):Int)*veZ a b).natAbs.log2<9000:=Mt (K7 wn (by decide)) (by decide)
 refine⟨⟨sb,wz⟩,⟨sa,wz⟩,⟨sa,sb⟩,j3 2200 2401 (by rw[MC];exact cl) vl (by decide),j3 _ _ w1 sa.r (by decide),j3 _ _ w2 sb.r (by decide),w0,wl,?_⟩
 refine⟨.int a.2.2.2.1,rfl,.int a.2.2.2.2,rfl,_,_,rfl,rfl,j3 _ _ w1 ca (by decide),?_⟩
 show E4 [.int (wVe (wtF p q) b*a.2.2.2.2),.int (((cb2 p q:Nat):Int)*veZ a b)] M _ Y0
 walk_at "sim"
 refine⟨w0,wl,.int b.2.2.2.1,rfl,.int b.2.2.2.2,rfl,_,_,rfl,rfl,j3 _ _ w2 cb (by decide),?_⟩
 show E4 [.int (veW a (wtF p q)*b.2.2.2.2),.int (((cb2 p q:Nat):Int)*veZ a b)] M _ Y0
 walk_at "sim"
 refine⟨w0,wl,⟨sa,sb,by omega⟩,?_⟩
 have eS:∀(n:Int) (r:Rat),D.tup [.int n,e7 r]=shD (n,r):=fun _ _=>rfl
 refine kF (xs:=[(a.2.2.2.1,MZ (wVe (wtF p q) b*a.2.2.2.2) (((cb2 p q:Nat):Int)*veZ a b)),(b.2.2.2.1,MZ (veW a (wtF p q)*b.2.2.2.2) (((cb2 p q:Nat):Int)*veZ a b))]) (enc:=shD) (fun s=>decide (s.2≠0)) shD (by show 2≤1000;decide) (by simp only[t5]) (fun s hs Q N h1 h2=>?_) ?_
 ·unfold shD at h1 ⊢
  walk_at "sim"
  exact⟨fun h=>h1 (decide_eq_true h),fun h=>h2 (decide_eq_false fun z=>z h)⟩
 ·have k:∀ l,M l=none→R (.tup [.str "most",e7 (vlF a b (wtF p q) (cb2 p q)),rD (ry (tri a) (tri b)),.ref l]) (B5 M l (.lst ((shF a b (wtF p q) (cb2 p q)).map shD))):=k
  unfold shF at k
  have two:∀ fs:List (Int × Rat),(fs.length<2 ∨ ∃ x y,fs=[x,y]∧x.1≠y.1)→(∀ l,M l=none→R (.tup [.str "most",e7 (vlF a b (wtF p q) (cb2 p q)),rD (ry (tri a) (tri b)),.ref l]) (B5 M l (.lst ((dQ fs).map shD))))→HF [.vl (fs.map shD)] M fun x M1=>R (.tup [.str "most",e7 (vlF a b (wtF p q) (cb2 p q)),rD (ry (tri a) (tri b)),x]) M1:=fun fs hf kf=>by
   refine⟨_,fs.map shD,rfl,rfl,?_⟩
   rcases hf with hf|⟨x,y,rfl,hne⟩
   ·have es:dQ fs=fs:=by
     match fs,hf with
     | [],_=>rfl
     | [_],_=>rfl
    rw[es]at kf
    exact .inl ⟨by rw[MA];exact hf,fun ad had=>kf ad had⟩
   ·refine .inr ⟨x.1,y.1,[e7 x.2],[e7 y.2],rfl,hne,fun ad had=>?_⟩
    have kf:=kf ad had
    have kf:R (.tup [.str "most",e7 (vlF a b (wtF p q) (cb2 p q)),rD (ry (tri a) (tri b)),.ref ad]) (B5 M ad (.lst ((if y.1<x.1 then[y,x]else[x,y]).map shD))):=kf
    by_cases c:y.1<x.1
    ·rw[if_pos c]at kf ⊢;exact kf
    ·rw[if_neg c]at kf ⊢;exact kf
  refine two _ ?_ k
  generalize MZ (wVe (wtF p q) b*a.2.2.2.2) (((cb2 p q:Nat):Int)*veZ a b)=r1
  generalize MZ (veW a (wtF p q)*b.2.2.2.2) (((cb2 p q:Nat):Int)*veZ a b)=r2
  by_cases q1:r1=0
  ·left
   rw[Nx (by simp[q1])]
   exact MP (Of _ _) (by show 1<2;decide)
  ·by_cases q2:r2=0
   ·left
    rw[Nh (by simp[q1]),Nx (by simp[q2])]
    show 1<2;decide
   ·right
    refine⟨(a.2.2.2.1,r1),(b.2.2.2.1,r2),?_,hn⟩
    rw[Nh (by simp[q1]),Nh (by simp[q2])];rfl
theorem wJ(T:Txt K mg)(d:Df K mg "times" jo ["one","other"])(JH:Fn P w K mg base "ratio" 2 ["top","bottom"] E4):Fn P w K mg base "times" 3 ["one","other"] D3:=by
 have sc:=vJ
 refine h7 d sc (fun ds M R Y h=>?_) (fun f cdv A outer s H E ds M R Y hr h=>?_)
 ·obtain⟨q,r,rfl,_⟩:=h;rfl
 ·obtain⟨q,r,rfl,hz,k⟩:=h
  refine⟨_,(d8 (d9 (jc JH hr (a9 (e8 g9 (jx (d4 0) d6) (jx (d4 1) d6)) (a9 (e8 g9 (jx (d4 0) d6) (jx (d4 1) d6)) d5))))),?_⟩
  refine⟨_,rfl,_,rfl,_,rfl,_,rfl,_,_,rfl,rfl,mNN hz,_,rfl,_,rfl,_,rfl,_,rfl,_,_,rfl,rfl,mDD hz,_,_,rfl,Nj (RM.t8 q) (RM.t8 r),lDD hz,?_⟩
  rw[RM.pE]at k
  exact k
theorem wM(T:Txt K mg)(d:Df K mg "grown" js ["ray","share"])(JU:Fn P w K mg base "times" 3 ["one","other"] D3):Fn P w K mg base "grown" 4 ["ray","share"] pb:=by
 have sc:=vM
 walk_at "fn"
 obtain⟨y,u,g,rfl,⟨h1,h2⟩,k⟩:=h
 refine⟨_,(d8 (d9 (g7 (a9 (jc JU hr (a9 (jx (d4 0) d6) (a9 (d4 1) d5))) (a9 (jc JU hr (a9 (jx (d4 0) d6) (a9 (d4 1) d5))) d5))))),?_⟩
 walk_at "sim"
 exact⟨h1,h2,k⟩
theorem AY(T:Txt K mg)(d:Df K mg "over" oO ["one","other"])(JH:Fn P w K mg base "ratio" 2 ["top","bottom"] E4):Fn P w K mg base "over" 3 ["one","other"] oA:=by
 have sc:=Ah
 refine h7 d sc (fun ds M R Y h=>?_) (fun f cdv A outer s H E ds M R Y hr h=>?_)
 ·obtain⟨q,r,rfl,_⟩:=h;rfl
 ·obtain⟨q,r,rfl,h0,hz,k⟩:=h
  refine⟨_,(d8 (d9 (jc JH hr (a9 (e8 g9 (jx (d4 0) d6) (jx (d4 1) d6)) (a9 (e8 g9 (jx (d4 0) d6) (jx (d4 1) d6)) d5))))),?_⟩
  refine⟨_,rfl,_,rfl,_,rfl,_,rfl,_,_,rfl,rfl,mND hz,_,rfl,_,rfl,_,rfl,_,rfl,_,_,rfl,rfl,mDN hz,_,_,rfl,Nj (RM.t8 q) (EU h0),lDN hz,?_⟩
  rw[RM.xQ]at k
  exact k
theorem sX(T:Txt K mg)(d:Df K mg "sum_by" aw ["p","q","ray"]):Fn P w K mg base "sum_by" 1 ["p","q","ray"] V7:=by
 have sc:=gY
 walk_at "fn"
 obtain⟨p,q,y,u,rfl,hz,k⟩:=h
 refine⟨_,(d7 (u6 (d4 2) (o7 (n:=2) rfl (e5 (jn 3 sc.nd) (e5 (jn 4 sc.nd) j5)))) (d7 (jst 5 sc.nd (e8 C3 (e8 g9 (e8 g9 (e8 g9 (jx (d4 0) d6) (jx (d4 3) d6)) (jx (d4 1) d6)) (jx (d4 4) d6)) (e8 g9 (e8 g9 (e8 g9 (jx (d4 1) d6) (jx (d4 4) d6)) (jx (d4 0) d6)) (jx (d4 3) d6)))) (d8 (d9 (g7 (a9 (d4 5) (a9 (e8 g9 (e8 g9 (e8 g9 (jx (d4 0) d6) (jx (d4 3) d6)) (jx (d4 1) d6)) (jx (d4 4) d6)) d5))))))),?_⟩
 walk_at "sim"
 exact⟨j3 _ _ (j9 p) (j9 y) (by omega),j3 _ _ (m7 (j9 p) (j9 y)) (j0 q) (by omega),j3 _ _ (m7 (m7 (j9 p) (j9 y)) (j0 q)) (j0 u) (by omega),j3 _ _ (j9 q) (j9 u) (by omega),j3 _ _ (m7 (j9 q) (j9 u)) (j0 p) (by omega),j3 _ _ (m7 (m7 (j9 q) (j9 u)) (j0 p)) (j0 y) (by omega),j3 _ _ (j0 p) (j0 y) (by omega),j3 _ _ (m7 (j0 p) (j0 y)) (j0 q) (by omega),j3 _ _ (m7 (m7 (j0 p) (j0 y)) (j0 q)) (j0 u) (by omega),k⟩
theorem mQ(T:Txt K mg)(d:Df K mg "value_of" Y9 ["p","q","ray"])(JH:Fn P w K mg base "ratio" 2 ["top","bottom"] E4)(JK:Fn P w K mg base "sum_by" 1 ["p","q","ray"] V7):Fn P w K mg base "value_of" 3 ["p","q","ray"] vR:=by
 have sc:=mB
 walk_at "fn"
 obtain⟨p,q,y,u,rfl,hz,k⟩:=h
 refine⟨_,(d7 (u6 (jc JK hr (a9 (d4 0) (a9 (d4 1) (a9 (d4 2) d5)))) (o7 (n:=2) rfl (e5 (jn 3 sc.nd) (e5 (jn 4 sc.nd) j5)))) (d8 (d9 (jc JH hr (a9 (d4 3) (a9 (d4 4) d5)))))),?_⟩
 walk_at "sim"
 have b:=pV p q y u
 refine⟨by omega,FC p q y u,Mt (K7 (U0 b (show _≤8001 by omega)) (by decide)) (by decide),?_⟩
 rw[iS]
 exact k
theorem mR(T:Txt K mg)(d:Df K mg "unsigned" Z0 ["one"]):Fn P w K mg base "unsigned" 1 ["one"] dR:=by
 have sc:=mC
 walk_at "fn"
 obtain⟨q,rfl,k⟩:=h
 refine⟨_,(d8 (d9 (g7 (a9 (i0 eU rfl T.b_abs ag (a9 (jx (d4 0) d6) d5)) (a9 (jx (d4 0) d6) d5))))),?_⟩
 walk_at "sim"
 exact k
theorem mT(T:Txt K mg)(d:Df K mg "opposite" Z2 ["one"]):Fn P w K mg base "opposite" 1 ["one"] qW:=by
 have sc:=mE
 refine h7 d sc (fun ds M R Y h=>?_) (fun f cdv A outer s H E ds M R Y hr h=>?_)
 ·obtain⟨q,rfl,_⟩:=h;rfl
 ·obtain⟨q,rfl,k⟩:=h
  refine⟨_,(d8 (d9 (g7 (a9 (U3 (jx (d4 0) d6)) (a9 (jx (d4 0) d6) d5))))),?_⟩
  refine⟨_,rfl,_,rfl,_,rfl,_,rfl,_,rfl,sl 2,?_⟩
  have e:e7 (-q) = .tup [.int (-q.num),.int (q.den:Int)]:=by unfold e7;rw[Pq,Qi]
  rw[e]at k
  exact k
theorem AX(T:Txt K mg)(d:Df K mg "plus" oN ["one","other"])(JH:Fn P w K mg base "ratio" 2 ["top","bottom"] E4):Fn P w K mg base "plus" 3 ["one","other"] S2:=by
 have sc:=Ag
 refine h7 d sc (fun ds M R Y h=>?_) (fun f cdv A outer s H E ds M R Y hr h=>?_)
 ·obtain⟨q,r,rfl,_⟩:=h;rfl
 ·obtain⟨q,r,rfl,hz,k⟩:=h
  refine⟨_,(d8 (d9 (jc JH hr (a9 (e8 C3 (e8 g9 (jx (d4 0) d6) (jx (d4 1) d6)) (e8 g9 (jx (d4 1) d6) (jx (d4 0) d6))) (a9 (e8 g9 (jx (d4 0) d6) (jx (d4 1) d6)) d5))))),?_⟩
  refine⟨_,rfl,_,rfl,_,rfl,_,rfl,_,_,rfl,rfl,mND hz,_,rfl,_,rfl,_,rfl,_,rfl,_,_,rfl,rfl,mND (by omega),_,rfl,_,rfl,_,rfl,_,rfl,_,rfl,_,_,rfl,rfl,mDD hz,_,_,rfl,Nj (RM.t8 q) (RM.t8 r),lDD hz,?_⟩
  rw[RM.pY]at k
  exact k
theorem wL(T:Txt K mg)(d:Df K mg "minus" jr ["one","other"])(LM:Fn P w K mg base "plus" 3 ["one","other"] S2)(JQ:Fn P w K mg base "opposite" 1 ["one"] qW):Fn P w K mg base "minus" 4 ["one","other"] iW:=by
 have sc:=vL
 refine h7 d sc (fun ds M R Y h=>?_) (fun f cdv A outer s H E ds M R Y hr h=>?_)
 ·obtain⟨q,r,rfl,_⟩:=h;rfl
 ·obtain⟨q,r,rfl,hz,k⟩:=h
  refine⟨_,(d8 (d9 (jc LM hr (a9 (d4 0) (a9 (jc JQ hr (a9 (d4 1) d5)) d5))))),?_⟩
  refine⟨_,rfl,_,rfl,r,rfl,q,-r,rfl,by rw[RM.bu];exact hz,?_⟩
  rw[Qq]at k
  exact k
theorem wN(T:Txt K mg)(d:Df K mg "cross" jt ["one","other"])(Lh:Fn P w K mg base "minus" 4 ["one","other"] iW)(JU:Fn P w K mg base "times" 3 ["one","other"] D3):Fn P w K mg base "cross" 5 ["one","other"] jK:=by
 have sc:=vN
 walk_at "fn"
 obtain⟨y,u,z,w,rfl,hz,k⟩:=h
 refine⟨_,(d7 (u6 (d4 0) (o7 (n:=2) rfl (e5 (jn 2 sc.nd) (e5 (jn 3 sc.nd) j5)))) (d7 (u6 (d4 1) (o7 (n:=2) rfl (e5 (jn 4 sc.nd) (e5 (jn 5 sc.nd) j5)))) (d8 (d9 (jc Lh hr (a9 (jc JU hr (a9 (d4 2) (a9 (d4 5) d5))) (a9 (jc JU hr (a9 (d4 4) (a9 (d4 3) d5))) d5))))))),?_⟩
 walk_at "sim"
 have m1:=RM.u8 y w
 have m2:=RM.u8 z u
 exact⟨by omega,by omega,by omega,k⟩
theorem fH(T:Txt K mg)(d:Df K mg "most_along" P1 ["lines","number","p","q"])(Li:Fn P w K mg base "grown" 4 ["ray","share"] pb)(La:Fn P w K mg base "over" 3 ["one","other"] oA)(KN:Fn P w K mg base "value_of" 3 ["p","q","ray"] vR)(JU:Fn P w K mg base "times" 3 ["one","other"] D3)(JY:Fn P w K mg base "unsigned" 1 ["one"] dR)(JQ:Fn P w K mg base "opposite" 1 ["one"] qW)(Lj:Fn P w K mg base "cross" 5 ["one","other"] jK):Fn P w K mg base "most_along" 6 ["lines","number","p","q"] oT:=by
 have sc:=fj
 walk_at "fn"
 obtain⟨x,n,p,q,rfl,ls,l,j,hx,rfl,hj,ok,hpq,⟨hp,hq⟩,k⟩:=h
 have z1:=ok.p6
 have z2:=ok.q6
 have z3:=ok.r6
 have r0:=ok.pos
 have ne:=ok.ne
 rcases hx with rfl|rfl
 all_goals
  refine⟨_,(d7 (u6 (jx (d4 0) (d4 1)) (o7 (n:=3) rfl (e5 (jn 4 sc.nd) (e5 (jn 5 sc.nd) (e5 (jn 6 sc.nd) j5))))) (d7 (jst 7 sc.nd (jc Lj hr (a9 (g7 (a9 (d4 4) (a9 (d4 5) d5))) (a9 (g7 (a9 (d4 2) (a9 (d4 3) d5))) d5)))) (d7 (f9 (jtm eJ (jx (d4 7) d6) d6) (d8 (d9 (g7 (a9 C9 (a9 (g7 (a9 (d4 5) (a9 (jc JQ hr (a9 (d4 4) d5)) d5))) d5))))) f7) (d7 (f9 (jtm aU (jx (d4 7) d6) d6) (d8 (d9 (g7 (a9 C9 (a9 (g7 (a9 (jc JQ hr (a9 (d4 5) d5)) (a9 (d4 4) d5))) d5))))) f7) (d7 (jst 8 sc.nd (nA (jtm (X9 hu) (d4 4) (A6 rfl T.c_NOUGHT)) (jc La hr (a9 (d4 3) (a9 (d4 5) d5))) (jc La hr (a9 (d4 2) (a9 (d4 4) d5))))) (d7 (jst 9 sc.nd (jc JU hr (a9 (jc JY hr (a9 (d4 8) d5)) (a9 (d4 6) d5)))) (d7 (jst 10 sc.nd (jc Li hr (a9 (g7 (a9 (d4 2) (a9 (d4 3) d5))) (a9 (jc La hr (a9 (d4 9) (a9 (jc KN hr (a9 (d4 2) (a9 (d4 3) (a9 (g7 (a9 (d4 2) (a9 (d4 3) d5))) d5)))) d5))) d5)))) (d8 (d9 (g7 (a9 C9 (a9 (d4 9) (a9 (d4 10) (a9 (bI (a9 (g7 (a9 (d4 1) (a9 (d4 8) d5))) d5)) d5)))))))))))))),?_⟩
  walk_at "sim"
  refine⟨f8 l,by show atI (ls.map f8) (j:Int)=_;rw[kR (by rw[MV,hj];rfl)],?_⟩
  walk_at "sim"
  have sq:=iV hpq
  have a3:=RM.u8 p p
  have a4:=RM.u8 q q
  have a5:=RM.J7 (p*p) (q*q)
  rw[cj,nh]
  unfold F6 at k
  refine⟨by omega,fun c1=>?_,fun c1=>⟨fun c2=>?_,fun c2=>⟨fun c3=>?_,fun c3=>?_⟩⟩⟩
  ·rw[if_pos c1]at k;exact k
  ·rw[if_neg c1,if_pos c2]at k;exact k
  ·have n2:l.2.1≠0:=fun w=>ne ⟨c3,w⟩
   have a1:=RM.Y6 q l.2.1 n2
   have a2:=Y7 (q / l.2.1)
   have a6:=RM.u8 (j4 (q / l.2.1)) l.2.2
   have a7:=RM.Y6 (j4 (q / l.2.1)*l.2.2) (p*p+q*q) (D6 sq)
   rw[if_neg c1,if_neg c2,if_pos c3]at k
   exact⟨n2,by omega,by omega,by omega,D6 sq,by omega,⟨by omega,by omega⟩,k⟩
  ·have a1:=RM.Y6 p l.1 c3
   have a2:=Y7 (p / l.1)
   have a6:=RM.u8 (j4 (p / l.1)) l.2.2
   have a7:=RM.Y6 (j4 (p / l.1)*l.2.2) (p*p+q*q) (D6 sq)
   rw[if_neg c1,if_neg c2,if_neg c3]at k
   exact⟨c3,by omega,by omega,by omega,D6 sq,by omega,⟨by omega,by omega⟩,k⟩
theorem AV(T:Txt K mg)(d:Df K mg "turn" oK ["one","other","third"])(JL:Fn P w K mg base "veer" 1 ["one","other"] eu):Fn P w K mg base "turn" 2 ["one","other","third"] vS:=by
 have sc:=Ae
 walk_at "fn"
 obtain⟨a,b,c,rfl,⟨ha,hb,hc⟩,k⟩:=h
 refine⟨_,(d8 (d9 (e8 C3 (e8 E5 (e8 g9 (jx (d4 0) d6) (jc JL hr (a9 (d4 1) (a9 (d4 2) d5)))) (e8 g9 (jx (d4 1) d6) (jc JL hr (a9 (d4 0) (a9 (d4 2) d5))))) (e8 g9 (jx (d4 2) d6) (jc JL hr (a9 (d4 0) (a9 (d4 1) d5))))))),?_⟩
 walk_at "sim"
 have v1:=ha.ve hb
 have v2:=ha.ve hc
 have v3:=hb.ve hc
 exact⟨⟨hb,hc⟩,j3 _ _ ha.r v3 (by decide),⟨ha,hc⟩,j3 _ _ hb.r v2 (by decide),⟨ha,hb⟩,j3 _ _ hc.r v1 (by decide),k⟩
theorem jY(T:Txt K mg)(d:Df K mg "next_side" S6 ["sides","here"])(JL:Fn P w K mg base "veer" 1 ["one","other"] eu)(LN:Fn P w K mg base "turn" 2 ["one","other","third"] vS):Fn P w K mg base "next_side" 3 ["sides","here"] Ed:=by
 have sc:=je
 walk_at "fn"
 obtain⟨ss,g,rfl,⟨hg,hz⟩,k⟩:=h
 refine⟨_,(d7 (jst 2 sc.nd Q8) (d7 (t9 PassesOwn.never rfl (m9 (d4 0)) (jn 3 sc.nd) (d8 (f9 (jtm aU (jc JL hr (a9 (d4 1) (a9 (d4 3) d5))) d6) (d7 (jst 4 sc.nd (nA (jtm Ja (d4 2) Q8) (U3 d6) (jc LN hr (a9 (d4 1) (a9 (d4 2) (a9 (d4 3) d5)))))) (d8 (f9 (A4 (A5 (jtm eJ (d4 4) d6) (B6 (A4 (Q9 (jtm A2 (d4 4) d6) (J1 (jtm aU (jc JL hr (a9 (d4 2) (a9 (d4 3) d5))) d6))))))) (d8 (jst 2 sc.nd (d4 3))) f7))) f7))) (d8 (d9 (d4 2))))),?_⟩
 walk_at "sim"
 refine S0.by (fun i e M'=>M'=M∧(∀ f,(ss.take i).foldl (Q4 g) none=some f→SzS f)∧∃ z3 z4:Option D,e=[some (.vl (ss.map sdD)),some (sdD g),some (mP ((ss.take i).foldl (Q4 g) none)),z3,z4]) ⟨rfl,fun f z=>(by cases z),_,_,rfl⟩ (fun i e M' _ h=>by rw[h.1];simp only[t5]) ?_ ?_
 ·rintro i dd e M' hd ⟨rfl,hf,z3,z4,rfl⟩
  rw[MV]at hd
  cases hq:ss[i]? with
  | none=>rw[hq]at hd;cases hd
  | some t =>
   rw[hq]at hd
   obtain rfl:=Option.some.inj hd
   have ht:=hz t (MI hq)
   have e1:(ss.take (i+1)).foldl (Q4 g) none=Q4 g ((ss.take i).foldl (Q4 g) none) t:=by
    rw[NI,hq,NV];rfl
   rw[e1]
   generalize (ss.take i).foldl (Q4 g) none=f at *
   walk_at "sim"
   refine⟨⟨hg,ht⟩,fun z=>?_,fun z=>?_⟩
   ·cases f with
    | none =>
     have en:Q4 g none t=some t:=by unfold Q4;rw[if_pos z];rfl
     rw[en,show mP none=D.non from rfl,md (b:=true) rfl]
     walk_at "sim"
     refine⟨fun f' hf'=>by cases hf';exact ht,_,_,rfl⟩
    | some f =>
     have hff:=hf f rfl
     rw[show mP (some f)=sdD f from rfl,md (b:=false) rfl]
     walk_at "sim"
     refine⟨⟨hg,hff,ht⟩,?_⟩
     have en:∀ b:Bool,BL g (some f) t=b→Q4 g (some f) t=if b=true then some t else some f:=fun b hb=>by unfold Q4;rw[if_pos z,hb]
     have done:∀ b:Bool,BL g (some f) t=b→(∀ f',Q4 g (some f) t=some f'→SzS f')∧mP (Q4 g (some f) t)=if b=true then sdD t else sdD f:=fun b hb=>by
      rw[en b hb]
      cases b with
      | true=>exact⟨fun f' h=>by cases h;exact ht,rfl⟩
      | false=>exact⟨fun f' h=>by cases h;exact hff,rfl⟩
     refine⟨fun z1=>?_,fun z1=>⟨fun z2=>⟨⟨hff,ht⟩,fun z3=>?_,fun z3=>?_⟩,fun z2=>?_⟩⟩
     ·obtain⟨q1,q2⟩:=done true (by show(decide _ || _)=true;rw[decide_eq_true z1];rfl)
      exact⟨q1,some (sdD t),some (.int (tnZ g f t)),by rw[q2];rfl⟩
     ·obtain⟨q1,q2⟩:=done true (by show(decide _ || (decide _ && decide _))=true;rw[decide_eq_true z2,decide_eq_true z3,Bool.or_eq_true];exact .inr rfl)
      exact⟨q1,some (sdD t),some (.int (tnZ g f t)),by rw[q2];rfl⟩
     ·obtain⟨q1,q2⟩:=done false (by show(decide _ || (decide _ && decide _))=false;rw[decide_eq_false z1,decide_eq_false z3,NA];rfl)
      exact⟨q1,some (sdD t),some (.int (tnZ g f t)),by rw[q2];rfl⟩
     ·obtain⟨q1,q2⟩:=done false (by show(decide _ || (decide _ && decide _))=false;rw[decide_eq_false z1,decide_eq_false z2];rfl)
      exact⟨q1,some (sdD t),some (.int (tnZ g f t)),by rw[q2];rfl⟩
   ·have en:Q4 g f t=f:=by unfold Q4;rw[if_neg z]
    rw[en]
    exact⟨hf,_,_,rfl⟩
 ·rintro e M' ⟨rfl,hf,z3,z4,rfl⟩
  walk_at "sim"
  rw[MA,NF]
  exact k
theorem jZ(T:Txt K mg)(d:Df K mg "juts_more" S7 ["one","other"]):Fn P w K mg base "juts_more" 1 ["one","other"] vV:=by
 have sc:=jf
 walk_at "fn"
 obtain⟨a,b,rfl,⟨ha,hb⟩,k⟩:=h
 refine⟨_,(d7 (jst 2 sc.nd (e8 E5 (e8 g9 (jx (d4 0) d6) (jx (d4 1) d6)) (e8 g9 (jx (d4 1) d6) (jx (d4 0) d6)))) (d7 (f9 (jtm A2 (d4 2) d6) (d8 (jst 2 sc.nd (e8 E5 (e8 g9 (jx (d4 0) d6) (jx (d4 1) d6)) (e8 g9 (jx (d4 1) d6) (jx (d4 0) d6))))) f7) (d8 (d9 (jm aU (d4 2) d6))))),?_⟩
 walk_at "sim"
 refine⟨j3 _ _ ha.p hb.r (by decide),j3 _ _ hb.p ha.r (by decide),fun z=>⟨j3 _ _ ha.q hb.r (by decide),j3 _ _ hb.q ha.r (by decide),?_⟩,fun z=>?_⟩
 ·unfold D9 at k
  rw[if_pos z]at k
  exact k
 ·unfold D9 at k
  rw[if_neg z]at k
  exact k
theorem jX(T:Txt K mg)(d:Df K mg "outermost" S5 ["sides"])(KC:Fn P w K mg base "juts_more" 1 ["one","other"] vV):Fn P w K mg base "outermost" 2 ["sides"] vT:=by
 have sc:=jd
 walk_at "fn"
 obtain⟨ss,rfl,⟨s,r,e⟩,hz,k⟩:=h
 have e0:ss.headD (0,0,0,0,0)=s:=by rw[e];rfl
 rw[e0]at k
 refine⟨_,(d7 (jst 1 sc.nd (jx (d4 0) d6)) (d7 (t9 PassesOwn.never rfl (m9 (d4 0)) (jn 2 sc.nd) (d8 (f9 (j8 (jc KC hr (a9 (d4 2) (a9 (d4 1) d5)))) (d8 (jst 1 sc.nd (d4 2))) f7))) (d8 (d9 (d4 1))))),?_⟩
 walk_at "sim"
 have ei:atI (ss.map sdD) 0=some (sdD s):=by rw[e];exact t7 (n:=0) rfl
 refine⟨_,ei,?_⟩
 have hs:SzS s:=hz s (by rw[e];exact Mz)
 refine S0.by (fun i e M'=>M'=M∧∃ z:Option D,e=[some (.vl (ss.map sdD)),some (sdD (C6 (ss.take i) s)),z]) ⟨rfl,_,rfl⟩ (fun i e M' _ h=>by rw[h.1];simp only[t5]) ?_ ?_
 ·rintro i dd e M' hd ⟨rfl,z,rfl⟩
  rw[MV]at hd
  cases hq:ss[i]? with
  | none=>rw[hq]at hd;cases hd
  | some t =>
   rw[hq]at hd
   obtain rfl:=Option.some.inj hd
   have ht:=hz t (MI hq)
   have ho:SzS (C6 (ss.take i) s):=by
    rcases aS (ss.take i) s with h|h
    ·rw[h];exact hs
    ·exact hz _ (Om h)
   have e1:C6 (ss.take (i+1)) s=if D9 t (C6 (ss.take i) s)=true then t else C6 (ss.take i) s:=by
    unfold C6
    rw[NI,hq,NV];rfl
   rw[e1]
   walk_at "sim"
   refine⟨⟨ht,ho⟩,fun z=>⟨some (sdD t),?_⟩,fun z=>⟨some (sdD t),?_⟩⟩
   ·rw[if_pos z]
   ·rw[if_neg (by rw[z];decide)]
 ·rintro e M' ⟨rfl,z,rfl⟩
  walk_at "sim"
  rw[MA,NF]
  exact k
theorem jV(T:Txt K mg)(d:Df K mg "tops_over" L0 ["ratios","bottom"]):Fn P w K mg base "tops_over" 1 ["ratios","bottom"] oR:=by
 have sc:=au
 walk_at "fn"
 obtain⟨l,c,rfl,⟨hl,rfl⟩,k⟩:=h
 refine⟨_,(d8 (d9 (A7 [1] ["one"] ["bottom"] rfl (by decide +kernel) rfl (by decide +kernel) (by decide +kernel) rfl (X6 ⟨rfl,rfl⟩) (X6 (Or.inl rfl)) (m9 (d4 0)) (fun _ _ _ _ _ _=>(jn 0 (show(["one","bottom"]:List Str).Nodup by decide +kernel))) (fun _ _ _ _ _ _=>p9) (fun _ _ _ _ _ _=>(e8 g9 (jx (d4 0) d6) (e8 K4 (d4 1) (jx (d4 0) d6))))))),?_⟩
 walk_at "sim"
 refine L5 (ds:=[l.1,l.2.1,l.2.2].map e7) (by show m6 M (.tup _) _;rw[v7];rfl) ?_
 refine t6 (xs:=[l.1,l.2.1,l.2.2]) (enc:=e7) (fun q=>.int (O5 q (cbL l))) (by show 3≤1000;decide) (by show m6 M (.tup _) _;rw[v7];rfl) (fun q hq Q hQ=>?_) k
 have hqs:sz q≤1300:=by
  simp only[Mv,MG,or_false]at hq
  rcases hq with rfl|rfl|rfl
  ·exact hl.p
  ·exact hl.q
  ·exact hl.r
 have d0:=q.den_pos
 have hd:q.den<2 ^ 1300:=o8 q hqs
 have ef:((cbL l:Nat):Int).fdiv (q.den:Int)=((cbL l / q.den:Nat):Int):=by rw[bf (by omega) (by omega)];rfl
 walk_at "sim"
 rw[ef]
 refine⟨⟨by omega,Mt (K7 (by rw[MC];exact hd) (by decide)) (by decide)⟩,j3 1300 3901 (L1 q hqs) (by rw[MC];exact MP (Oe _ _) hl.cb) (by decide),hQ⟩
theorem bB(T:Txt K mg)(d:Df K mg "common_bottom" D4 ["ratios"])(JN:Fn P w K mg base "divisor" 1 ["one","other"] N4):Fn P w K mg base "common_bottom" 2 ["ratios"] Eg:=by
 have sc:=N7
 walk_at "fn"
 obtain⟨l,rfl,hl,k⟩:=h
 refine⟨_,(d7 (jst 1 sc.nd d6) (d7 (t9 PassesOwn.never rfl (m9 (d4 0)) (jn 2 sc.nd) (d8 (jst 1 sc.nd (e8 g9 (e8 K4 (d4 1) (jc JN hr (a9 (d4 1) (a9 (jx (d4 2) d6) d5)))) (jx (d4 2) d6))))) (d8 (d9 (d4 1))))),?_⟩
 walk_at "sim"
 refine L5 (ds:=[l.1,l.2.1,l.2.2].map e7) (by show m6 M (.tup _) _;rw[v7];rfl) ?_
 refine S0.by (fun i e M'=>M'=M∧∃ z:Option D,e=[some (f8 l),some (.int ((([l.1,l.2.1,l.2.2].take i).foldl (fun c q=>A3 c q.den) 1:Nat):Int)),z]) ⟨rfl,_,rfl⟩ (fun i e M' _ h=>by rw[h.1];show m6 M (.tup _) _;rw[v7];rfl) ?_ ?_
 ·rintro i dd e M' hd ⟨rfl,z,rfl⟩
  rw[MV]at hd
  cases hq:[l.1,l.2.1,l.2.2][i]? with
  | none=>rw[hq]at hd;cases hd
  | some q =>
   rw[hq]at hd
   obtain rfl:=Option.some.inj hd
   have e1:([l.1,l.2.1,l.2.2].take (i+1)).foldl (fun c q=>A3 c q.den) 1=A3 (([l.1,l.2.1,l.2.2].take i).foldl (fun c q=>A3 c q.den) 1) q.den:=by
    rw[NI,hq,NV];rfl
   have hi:=(MH.mp hq).1
   have hqs:sz q≤1300:=by
    have:=MI hq
    simp only[Mv,MG,or_false]at this
    rcases this with rfl|rfl|rfl
    ·exact hl.p
    ·exact hl.q
    ·exact hl.r
   have hc:0<([l.1,l.2.1,l.2.2].take i).foldl (fun c q=>A3 c q.den) 1:=by
    have:∀(xs:List Rat) (c:Nat),0<c→0<xs.foldl (fun c q=>A3 c q.den) c:=fun xs=>by
     induction xs with
     | nil=>exact fun c h=>h
     | cons x xs ih=>exact fun c h=>ih _ (by show 0<A3 c x.den;rw[Q6];exact Pr h x.den_pos)
    exact this _ _ (by decide)
   have hd:q.den<2 ^ 1300:=o8 q hqs
   rw[e1]
   have hb:([l.1,l.2.1,l.2.2].take i).foldl (fun c q=>A3 c q.den) 1<2 ^ 4000:=by
    have:=kH ([l.1,l.2.1,l.2.2].take i) 1 1 (fun x hx=>hl.all x (Om hx)) (by decide)
    refine Mt this (My (by decide) ?_)
    have:([l.1,l.2.1,l.2.2].take i).length≤3:=by rw[Nr];exact OM _ _
    omega
   generalize ([l.1,l.2.1,l.2.2].take i).foldl (fun c q=>A3 c q.den) 1=c at *
   have g0:0<NH c q.den:=Ov _ q.den_pos
   have g1:NH c q.den<2 ^ 1300:=MP (Nat.le_of_dvd q.den_pos (QC _ _)) hd
   have ef:(c:Int).fdiv (NH c q.den:Nat)=((c / NH c q.den:Nat):Int):=by rw[bf (by omega) (by omega)];rfl
   walk_at "sim"
   rw[ef]
   refine⟨⟨by omega,Mt (K7 (by rw[MC];exact g1) (by decide)) (by decide)⟩,?_,some (e7 q),?_⟩
   ·exact j3 4000 1300 (by rw[MC];exact MP (Oe _ _) hb) (by rw[MC];exact hd) (by decide)
   ·unfold A3
    rw[OC]
 ·rintro e M' ⟨rfl,z,rfl⟩
  walk_at "sim"
  exact k
theorem mS(T:Txt K mg)(d:Df K mg "sides_of" Z1 ["lines"])(Kp:Fn P w K mg base "facing" 1 ["side"] Ak)(KD:Fn P w K mg base "tops_over" 1 ["ratios","bottom"] oR)(Ka:Fn P w K mg base "common_bottom" 2 ["ratios"] Eg):Fn P w K mg base "sides_of" 3 ["lines"] jz:=by
 have sc:=mD
 walk_at "fn"
 obtain⟨x0,ls,rfl,hx0,hok,k⟩:=h
 rcases hx0 with rfl|rfl
 all_goals
  refine⟨_,(d7 (jst 1 sc.nd (bI d5)) (d7 (t9 PassesOwn.never rfl (xk rfl T.b_enumerate (a9 (d4 0) d5)) (o7 (n:=2) rfl (e5 (jn 2 sc.nd) (e5 (jn 3 sc.nd) j5))) (d7 (jst 4 sc.nd (jc Ka hr (a9 (d4 3) d5))) (d7 (u6 (jc KD hr (a9 (d4 3) (a9 (d4 4) d5))) (xl (n:=3) rfl (e5 (jn 5 sc.nd) (e5 (jn 6 sc.nd) (e5 (jn 7 sc.nd) j5))))) (d7 (jst 8 sc.nd (g7 (a9 (d4 5) (a9 (d4 6) (a9 (d4 7) (a9 (d4 2) (a9 (d4 4) d5))))))) (d7 (U1 (nv PySem.F.slot_list_append PySem.F.type_list_append O1 (d4 1) (a9 (d4 8) d5))) (d8 (U1 (nv PySem.F.slot_list_append PySem.F.type_list_append O1 (d4 1) (a9 (jc Kp hr (a9 (d4 8) d5)) d5))))))))) (d8 (d9 (eO (kv (d4 1))))))),?_⟩
  walk_at "sim"
  intro p hp
  refine S0.by (fun i e M'=>M'=B5 M p (.lst ((L6 0 (ls.take i)).map sdD))∧∃ z0 z2 z3 z4 z5 z6 z7 z8:Option D,e=[z0,some (.ref p),z2,z3,z4,z5,z6,z7,z8]) ⟨rfl,_,_,_,_,_,_,_,_,rfl⟩ (fun i e M' _ _=>by simp only[t5,v7]) ?_ ?_
  ·rintro i dd e M' hd ⟨rfl,z0,z2,z3,z4,z5,z6,z7,z8,rfl⟩
   obtain⟨d,hd2,rfl⟩:=xO hd
   obtain⟨l,hl,rfl⟩:=bF hd2
   have hm:=hok.2 l (MI hl)
   have h12:=hok.1
   have hi:=(MH.mp hl).1
   walk_at "sim"
   refine⟨hm,hm,?_⟩
   have es:D.tup [.int (g6 l 0).1,.int (g6 l 0).2.1,.int (g6 l 0).2.2.1,.int (i:Int),.int ((cbL l:Nat):Int)]=sdD (g6 l i):=rfl
   have hln:((L6 0 (ls.take i)).map sdD).length≤24:=by
    rw[MA,cJ,Nr];omega
   rw[es]
   refine eZ g8 (fe g8 (by omega) ?_)
   rw[ai]
   refine eZ g8 ?_
   walk_at "sim"
   refine fe g8 (by rw[Nu];show _+1<1000;omega) ⟨?_,_,_,_,_,_,_,_,_,rfl⟩
   rw[ai,my ls 0 i l hl,QH,MR,Pm]
   rfl
  ·rintro e M' ⟨rfl,z0,z2,z3,z4,z5,z6,z7,z8,rfl⟩
   walk_at "sim"
   rw[iP g8,eR hp]
   walk_at "sim"
   rw[R3,MA,NF]
   exact⟨_,fun _ _ h=>h,k⟩
theorem mV(T:Txt K mg)(d:Df K mg "half_rim" Z4 ["lines"])(JL:Fn P w K mg base "veer" 1 ["one","other"] eu)(Kl:Fn P w K mg base "next_side" 3 ["sides","here"] Ed)(KG:Fn P w K mg base "outermost" 2 ["sides"] vT)(KO:Fn P w K mg base "sides_of" 3 ["lines"] jz):Fn P w K mg base "half_rim" 4 ["lines"] rf:=by
 have sc:=mG
 walk_at "fn"
 obtain⟨x0,ls,rfl,hx0,hok,k⟩:=h
 have hlo:∀ l∈ls,LineOk l:=fun l hl=>(hok.2 l hl).toLineOk
 rcases hx0 with rfl|rfl
 all_goals
  refine⟨_,(d7 (f9 (jtm A2 (i0 E7 rfl T.b_len B7 (a9 (d4 0) d5)) d6) (d8 (d9 (eO (C1 d5)))) f7) (d7 (jst 1 sc.nd (jc KO hr (a9 (d4 0) d5))) (d7 (jst 2 sc.nd (bI (a9 (jc KG hr (a9 (d4 1) d5)) d5))) (d7 (jst 3 sc.nd (jc Kl hr (a9 (d4 1) (a9 (jx (d4 2) d6) d5)))) (d7 (bG PassesOwn.never (A4 (Q9 (jtm cY (d4 3) Q8) (J1 (jtm aU (jc JL hr (a9 (jx (d4 2) d6) (a9 (d4 3) d5))) d6)))) (d7 (U1 (nv PySem.F.slot_list_append PySem.F.type_list_append O1 (d4 2) (a9 (d4 3) d5))) (d8 (jst 3 sc.nd (jc Kl hr (a9 (d4 1) (a9 (d4 3) d5))))))) (d8 (d9 (eO (kv (d4 2)))))))))),?_⟩
  walk_at "sim"
  refine⟨fun h0=>?_,fun h0=>?_⟩
  ·have e:ls=[]:=by
    cases ls with
    | nil=>rfl
    | cons a b=>rw[MA,Ng]at h0;omega
   subst e
   exact yx (fun _ _ h=>h) k
  ·have hp:∀ s∈f6 ls,0<s.2.2.1:=cI hlo (i:=0)
   have hz:∀ s∈f6 ls,SzS s:=sN hok
   have hln:=cJ ls 0
   have h12:=hok.1
   obtain⟨s1,r,es⟩:∃ s r,f6 ls=s :: r:=by
    cases ls with
    | nil=>exact absurd rfl h0
    | cons a b=>exact⟨_,_,rfl⟩
   have hln:(f6 ls).length≤24:=by show(L6 0 ls).length≤24;omega
   refine⟨hok,⟨s1,r,es⟩,hz,fun p hpn=>?_⟩
   have eh:(f6 ls).headD (0,0,0,0,0)=s1:=by rw[es];rfl
   rw[eh]
   have ek:G7 (f6 ls)=C6 (f6 ls) s1 :: Q3 (C6 (f6 ls) s1) (f6 ls) (f6 ls).length (K5 (C6 (f6 ls) s1) (f6 ls)):=by rw[es];rfl
   have m0:C6 (f6 ls) s1∈f6 ls:=by
    rcases aS (f6 ls) s1 with h|h
    ·rw[h,es];exact Mz
    ·exact h
   rw[ek]at k
   generalize C6 (f6 ls) s1=h0 at *
   generalize f6 ls=ss at *
   refine⟨_,E2 g8 rfl,?_⟩
   walk_at "sim"
   refine⟨⟨hz _ m0,hz⟩,?_⟩
   refine sv (fun m e M'=>∃(pre:List Sd) (o:Option Sd) (z0:Option D),e=[z0,some (.vl (ss.map sdD)),some (.ref p),some (mP o)]∧M'=B5 M p (.lst ((h0 :: pre).map sdD))∧pre++Q3 h0 ss m o=Q3 h0 ss ss.length (K5 h0 ss)∧pre.length+m≤24∧(∀ f,o=some f→f∈ss)∧∀ f,o=some f→0<veZ h0 f→tM h0 ss f<m) ss.length ⟨[],K5 h0 ss,_,rfl,rfl,rfl,by simpa using hln,fun f hf=>(J3 hp hf).1,fun f hf hv=>Mt (bg hp hf (.inl rfl) hv) (ye h0 ss h0)⟩ ?_
   rintro m e M' ⟨pre,o,z0,rfl,rfl,hr,hlm,ho,hc⟩
   have fin:Q3 h0 ss m o=[]→FN (D.ref p) (B5 M p (.lst ((h0 :: pre).map sdD))) (fun x M1=>FP x M1 R):=fun hn=>by
    rw[hn,OA]at hr
    rw[iP g8,eR hpn,hr]
    exact yx (fun _ _ h=>h) k
   cases o with
   | none =>
    rw[show mP none=D.non from rfl]
    walk_at "sim"
    rw[md (b:=true) rfl]
    walk_at "sim"
    exact fin (by cases m<;>rfl)
   | some f =>
    have hf:=ho f rfl
    rw[show mP (some f)=sdD f from rfl]
    walk_at "sim"
    rw[md (b:=false) rfl]
    walk_at "sim"
    refine⟨_,E2 g8 (t7 (n:=0) rfl),?_⟩
    walk_at "sim"
    refine⟨⟨hz _ m0,hz _ hf⟩,fun hv=>?_,fun hv=>?_⟩
    ·have hcm:=hc f rfl hv
     obtain⟨m,rfl⟩:∃ m',m=m'+1:=⟨m - 1,by omega⟩
     have er:Q3 h0 ss (m+1) (some f)=f :: Q3 h0 ss m (K5 f ss):=if_pos hv
     rw[er]at hr
     refine eZ g8 (fe g8 (by rw[Ng,MA];omega) ⟨⟨hz _ hf,hz⟩,m,Pu _,pre++[f],K5 f ss,_,rfl,?_,by rw[Pm];exact hr,by rw[Nu];show pre.length+1+m≤24;omega,fun g hg=>(J3 hp hg).1,fun g hg hg2=>?_⟩)
     ·rw[ai]
      congr 2
      rw[MR];rfl
     ·have:=bg hp hg (.inr hv) hg2
      omega
    ·refine fin ?_
     cases m with
     | zero=>rfl
     | succ m=>exact if_neg hv
theorem AZ(T:Txt K mg)(d:Df K mg "most" oP ["lines","p","q"])(Kn:Fn P w K mg base "most_around" 4 ["half","p","q"] oU)(Ks:Fn P w K mg base "most_along" 6 ["lines","number","p","q"] oT)(KP:Fn P w K mg base "half_rim" 4 ["lines"] rf):Fn P w K mg base "most" 7 ["lines","p","q"] jC:=by
 have sc:=Ai
 walk_at "fn"
 obtain⟨x0,ls,p,q,rfl,hx0,⟨hls,hp,hq⟩,k⟩:=h
 have hlo:=hls.lo
 have hsz:=hls.szs
 have hsc:=hls.scale
 have hlen:=xw hlo
 have h12:=hls.1
 refine⟨_,(d7 (f9 (A4 (Q9 (jtm (X9 hu) (d4 1) (A6 rfl T.c_NOUGHT)) (J1 (jtm (X9 hu) (d4 2) (A6 rfl T.c_NOUGHT))))) (d8 (d9 (g7 (a9 C9 (a9 (A6 rfl T.c_NOUGHT) (a9 (g7 (a9 (A6 rfl T.c_NOUGHT) (a9 (A6 rfl T.c_NOUGHT) d5))) (a9 (bI d5) d5))))))) f7) (d7 (jst 3 sc.nd (jc KP hr (a9 (d4 0) d5))) (d7 (f9 (jtm A2 (i0 E7 rfl T.b_len B7 (a9 (d4 3) d5)) d6) (d8 (d9 (g7 (a9 C9 (a9 (g7 (a9 (d4 1) (a9 (d4 2) d5))) d5))))) f7) (d7 (f9 (jtm A2 (i0 E7 rfl T.b_len B7 (a9 (d4 3) d5)) d6) (d8 (d9 (jc Ks hr (a9 (d4 0) (a9 (jx (jx (d4 3) d6) d6) (a9 (d4 1) (a9 (d4 2) d5))))))) f7) (d8 (d9 (jc Kn hr (a9 (d4 3) (a9 (d4 1) (a9 (d4 2) d5)))))))))),?_⟩
 walk_at "sim"
 refine⟨fun c1=>⟨fun c2 l hl=>?_,fun c2=>?_⟩,fun c1=>?_⟩
 ·unfold K6 at k
  rw[if_pos ⟨c1,c2⟩]at k
  exact k l hl
 all_goals
  have c:¬ (p=0∧q=0):=by first|exact fun z=>c2 z.2|exact fun z=>c1 z.1
  unfold K6 at k
  rw[if_neg c]at k
  refine⟨x0,ls,rfl,hx0,hls.ok,?_⟩
  walk_at "sim"
  refine⟨fun h0=>?_,fun h0=>⟨fun h1=>?_,fun h1=>?_⟩⟩
  ·have e:G7 (f6 ls)=[]:=by
    rw[MA]at h0
    exact OP (by omega)
   rw[e]at k
   exact k
  ·obtain⟨h0',e⟩:∃ h,G7 (f6 ls)=[h]:=by
    rw[MA]at h1
    exact List.length_eq_one_iff.mp (by omega)
   have hne:ls≠[]:=fun z=>by rw[z]at e;cases e
   obtain⟨g0,m,e',m0,_⟩:=F5 hlo hne
   rw[e]at e'
   cases e'
   obtain⟨l,j,el,en,_⟩:=S4 m0
   rw[e]at k ⊢
   have k:nY (F6 (ls.getD h0'.2.2.2.1.toNat (0,0,0)) h0'.2.2.2.1 p q) M R:=k
   rw[en,MY,MW,el]at k
   refine⟨sdD h0',rfl,.int h0'.2.2.2.1,rfl,x0,h0'.2.2.2.1,p,q,rfl,ls,l,j,hx0,en,el,hls.2 l (MI el),c,⟨hp,hq⟩,?_⟩
   rw[en];exact k
  ·obtain⟨h0',x,l,e⟩:∃ h0 x l,G7 (f6 ls)=h0 :: x :: l:=by
    cases e:G7 (f6 ls)with
    | nil=>rw[e]at h0;exact absurd rfl h0
    | cons a r =>
     cases r with
     | nil=>rw[e]at h1;exact absurd rfl h1
     | cons b r=>exact⟨a,b,r,rfl⟩
   obtain⟨a,b,ea,A⟩:=bj hlo e (qS c)
   have hne:ls≠[]:=fun z=>by rw[z]at e;cases e
   have hin:∀ s∈G7 (f6 ls),s∈f6 ls:=Bx hlo
   rw[e]at k hlen hin ⊢
   exact⟨⟨⟨by omega,fun s hs=>hsz s (hin s hs)⟩,⟨hp,hq⟩,a,b,ea,⟨hsz a A.ma,hsz b A.mb⟩,A.ve,rq A.ma A.mb (by have:=A.ve;omega),hsc a A.ma,hsc b A.mb⟩,k⟩
theorem AW(T:Txt K mg)(d:Df K mg "same" oM ["one","other"]):Fn P w K mg base "same" 1 ["one","other"] jA:=by
 have sc:=Af
 walk_at "fn"
 obtain⟨x,y,rfl,a,b,rfl,rfl,⟨h1,h2⟩,⟨h3,h4⟩,k⟩:=h
 unfold rwD
 refine⟨_,(d8 (d9 (jm A2 (e8 g9 (jx (d4 0) d6) (jx (d4 1) d6)) (e8 g9 (jx (d4 1) d6) (jx (d4 0) d6))))),?_⟩
 walk_at "sim"
 exact⟨j3 _ _ h1 h4 (by omega),j3 _ _ h3 h2 (by omega),k⟩
theorem jW(T:Txt K mg)(d:Df K mg "sum_by" aw ["p","q","ray"]):Fn P w K mg base "sum_by" 1 ["p","q","ray"] jy:=by
 have sc:=gY
 walk_at "fn"
 obtain⟨d,x,w,rfl,a,rfl,⟨h1,h2⟩,⟨h3,h4⟩,k⟩:=h
 unfold rwD
 have o:(Rat.num 1).natAbs<2 ^ 1:=by decide
 have o2:((Rat.den 1:Nat):Int).natAbs<2 ^ 1:=by decide
 refine⟨_,(d7 (u6 (d4 2) (o7 (n:=2) rfl (e5 (jn 3 sc.nd) (e5 (jn 4 sc.nd) j5)))) (d7 (jst 5 sc.nd (e8 C3 (e8 g9 (e8 g9 (e8 g9 (jx (d4 0) d6) (jx (d4 3) d6)) (jx (d4 1) d6)) (jx (d4 4) d6)) (e8 g9 (e8 g9 (e8 g9 (jx (d4 1) d6) (jx (d4 4) d6)) (jx (d4 0) d6)) (jx (d4 3) d6)))) (d8 (d9 (g7 (a9 (d4 5) (a9 (e8 g9 (e8 g9 (e8 g9 (jx (d4 0) d6) (jx (d4 3) d6)) (jx (d4 1) d6)) (jx (d4 4) d6)) d5))))))),?_⟩
 walk_at "sim"
 exact⟨j3 _ _ h1 o (by omega),j3 _ _ (m7 h1 o) (j0 x) (by omega),j3 _ _ (m7 (m7 h1 o) (j0 x)) (j0 w) (by omega),j3 _ _ (j9 x) (j9 w) (by omega),j3 _ _ (m7 (j9 x) (j9 w)) h2 (by omega),j3 _ _ (m7 (m7 (j9 x) (j9 w)) h2) o2 (by omega),j3 _ _ h2 o2 (by omega),j3 _ _ (m7 h2 o2) (j0 x) (by omega),j3 _ _ (m7 (m7 h2 o2) (j0 x)) (j0 w) (by omega),k⟩
theorem wO(T:Txt K mg)(d:Df K mg "added" ju ["lines","shares"])(KH:Fn P w K mg base "sum_by" 1 ["p","q","ray"] jy)(JY:Fn P w K mg base "unsigned" 1 ["one"] dR):Fn P w K mg base "added" 2 ["lines","shares"] pj:=by
 have sc:=vO
 walk_at "fn"
 obtain⟨ls,x,rfl,sh,hx,hls,hb,hz,k⟩:=h
 obtain⟨hl2,hm⟩:=rd hb
 refine⟨_,(d7 (jst 2 sc.nd (C1 (a9 (A6 rfl T.c_NOUGHT) (a9 (A6 rfl T.c_NOUGHT) (a9 (A6 rfl T.c_NOUGHT) d5))))) (d7 (t9 PassesOwn.never rfl (m9 (d4 1)) (o7 (n:=2) rfl (e5 (jn 3 sc.nd) (e5 (jn 4 sc.nd) j5))) (d7 (jst 5 sc.nd (g7 (a9 (d4 4) (a9 (d4 4) (a9 (jc JY hr (a9 (d4 4) d5)) d5))))) (d8 (Q7 (i:=2) [] ["one","part","weight"] [] sc.nd rfl (Or.inl rfl) rfl (by decide +kernel) rfl (by decide +kernel) (by decide +kernel) rfl U9 U9 (xi rfl T.b_zip (a9 (d4 2) (a9 (jx (d4 0) (d4 3)) (a9 (d4 5) d5)))) (fun _ _ _ _ _ _=>(o7 (n:=3) rfl (e5 (jn 0 (show(["one","part","weight"]:List Str).Nodup by decide +kernel)) (e5 (jn 1 (show(["one","part","weight"]:List Str).Nodup by decide +kernel)) (e5 (jn 2 (show(["one","part","weight"]:List Str).Nodup by decide +kernel)) j5))))) (fun _ _ _ _ _ _=>p9) (fun _ _ _ _ _ _=>(jc KH hr (a9 (d4 0) (a9 (d4 1) (a9 (g7 (a9 (A6 rfl T.c_ONE) (a9 (d4 2) d5))) d5))))))))) (d8 (d9 (d4 2))))),?_⟩
 walk_at "sim"
 refine L5 hx ?_
 refine S0.by (fun i e M'=>M'=M∧∃(a b c:Int × Int) (z3 z4 z5:Option D),e=[some (.vl (ls.map f8)),some x,some (.vl [rwD a,rwD b,rwD c]),z3,z4,z5]∧Raw (1+3549*i) a (ad t0 ls (sh.take i))∧Raw (1+3549*i) b (ad t1 ls (sh.take i))∧Raw (1+3549*i) c (ad t2 ls (sh.take i))) ⟨rfl,(0,1),(0,1),(0,1),_,_,_,rfl,Raw.zero,Raw.zero,Raw.zero⟩ (fun i e M' _ h=>by rw[h.1];exact hx) ?_ ?_
 ·rintro i dd e M' hd ⟨rfl,a,b,c,z3,z4,z5,rfl,ra,rb,rc⟩
  obtain⟨s,hs,rfl⟩:=cM hd
  have hsm:=MI hs
  obtain⟨s0,sn,snz⟩:=hm s hsm
  have ssz:=hz s hsm
  obtain⟨j,hj⟩:∃ j:Nat,s.1=(j:Int):=⟨s.1.toNat,by omega⟩
  have hlj:ls[j]? = some (ls[j]'(by omega)):=MS (by omega)
  generalize ls[j]'(by omega)=l at hlj
  have ok:=hls.2 l (MI hlj)
  unfold shD
  walk_at "sim"
  rw[hj]
  refine⟨f8 l,by show atI (ls.map f8) (j:Int)=_;rw[kR (by rw[MV,hlj];rfl)],?_⟩
  walk_at "sim"
  refine⟨_,_,_,[rwD a,rwD b,rwD c],[e7 l.1,e7 l.2.1,e7 l.2.2],[e7 s.2,e7 s.2,e7 (j4 s.2)],rfl,.inr (.inr rfl),.inl rfl,.inl rfl,MM 3,MM 3,?_⟩
  have i2:i<2:=by
   have:=(MH.mp hs).1
   omega
  have pw:∀{v:Int},v.natAbs<2 ^ (1+3549*i)→v.natAbs<2 ^ 5000:=fun h=>Mt h (My (by decide) (by omega))
  have z1:=ok.p6
  have z2:=ok.q6
  have z3':=ok.r6
  have sa:=Y7 s.2
  have tk:sh.take (i+1)=sh.take i++[s]:=by rw[NI,hs];rfl
  have gl:ls.getD s.1.toNat (0,0,0)=l:=by rw[hj,MY,MW,hlj];rfl
  have fit:∀{n:Nat} {v:Int × Int} {g:Rat},Raw n v g→n≤1+3549*(i+1)→Raw (1+3549*(i+1)) v g:=fun h hn=>⟨h.pos,h.val,Mt h.s1 (My (by decide) hn),Mt h.s2 (My (by decide) hn)⟩
  show yG [none,none,none] _ BD _ (Ol (fun t:(Int × Int) × Rat × Rat=>D.tup [rwD t.1,e7 t.2.1,e7 t.2.2]) [(a,l.1,s.2),(b,l.2.1,s.2),(c,l.2.2,j4 s.2)]) _ M' _
  refine t6 (fun t:(Int × Int) × Rat × Rat=>rwD (hG t.1 t.2.1 t.2.2)) (by show 3≤1000;decide) ⟨.inr (.inr rfl),.inl rfl,.inl rfl⟩ (fun t ht Q hQ=>?_) ?_
  ·simp only[Mv,MG,or_false]at ht
   rcases ht with rfl|rfl|rfl
   ·walk_at "sim"
    exact⟨a,rfl,⟨pw ra.s1,pw ra.s2⟩,⟨by omega,by omega⟩,hQ⟩
   ·walk_at "sim"
    exact⟨b,rfl,⟨pw rb.s1,pw rb.s2⟩,⟨by omega,by omega⟩,hQ⟩
   ·walk_at "sim"
    exact⟨c,rfl,⟨pw rc.s1,pw rc.s2⟩,⟨by omega,by omega⟩,hQ⟩
  ·refine⟨rfl,hG a l.1 s.2,hG b l.2.1 s.2,hG c l.2.2 (j4 s.2),_,_,_,rfl,?_⟩
   rw[tk,X2,X2,X2,gl]
   exact⟨fit (ra.step z1 ssz) (by omega),fit (rb.step z2 ssz) (by omega),fit (rc.step (m:=548) (by omega) (show sz (j4 s.2)≤3000 by omega)) (by omega)⟩
 ·rintro e M' ⟨rfl,a,b,c,z3,z4,z5,rfl,ra,rb,rc⟩
  walk_at "sim"
  rw[MA,NF]at ra rb rc
  have fit:∀{v:Int × Int} {g:Rat},Raw (1+3549*sh.length) v g→Raw 9000 v g:=fun h=>⟨h.pos,h.val,Mt h.s1 (My (by decide) (by omega)),Mt h.s2 (My (by decide) (by omega))⟩
  exact k a b c (fit ra) (fit rb) (fit rc)
theorem fK(T:Txt K mg)(d:Df K mg "are_shares" P3 ["lines","shares"]):Fn P w K mg base "are_shares" 1 ["lines","shares"] ph:=by
 have sc:=fm
 walk_at "fn"
 obtain⟨ls,x,rfl,sh,hx,h12,k⟩:=h
 refine⟨_,(d7 (f9 (jtm aU (i0 E7 rfl T.b_len B7 (a9 (d4 1) d5)) (A6 rfl T.c_MOST_SHARES)) (d8 (d9 z9)) f7) (d7 (jst 2 sc.nd (U3 d6)) (d7 (t9 PassesOwn.never rfl (m9 (d4 1)) (o7 (n:=2) rfl (e5 (jn 3 sc.nd) (e5 (jn 4 sc.nd) j5))) (d7 (f9 (A4 (A5 (jtm tm (d4 3) (d4 2)) (A5 (jtm Ho (d4 3) (i0 E7 rfl T.b_len B7 (a9 (d4 0) d5))) (B6 (jtm (X9 hu) (d4 4) (A6 rfl T.c_NOUGHT)))))) (d8 (d9 z9)) f7) (d8 (jst 2 sc.nd (d4 3))))) (d8 (d9 z9))))),?_⟩
 walk_at "sim"
 rw[gR (rC hx)]
 walk_at "sim"
 rw[MA]
 have hno:¬ sh.length≤2→shB ls.length sh=false:=fun z=>by unfold shB;rw[decide_eq_false z];rfl
 refine⟨fun hc=>?_,fun hc=>L5 hx ?_⟩
 ·rw[hno (by omega)]at k
  exact k
 have e0:shB ls.length sh=K2 ls.length (-1) sh:=by unfold shB;rw[decide_eq_true (by omega)];rfl
 refine S0.by (fun i e M'=>M'=M∧∃(a:Int) (z3 z4:Option D),e=[some (.vl (ls.map f8)),some x,some (.int a),z3,z4]∧K2 ls.length (-1) sh=K2 ls.length a (sh.drop i)) ⟨rfl,-1,_,_,rfl,rfl⟩ (fun i e M' _ h=>by rw[h.1];exact hx) ?_ ?_
 ·rintro i dd e M' hd ⟨rfl,a,z3,z4,rfl,ih⟩
  obtain⟨s,hs,rfl⟩:=cM hd
  have hi:=(MH.mp hs).1
  rw[Pj hi,(MH.mp hs).2]at ih
  unfold shD
  walk_at "sim"
  rw[MA]
  have bad:¬ (a<s.1∧s.1<(ls.length:Int)∧s.2≠0)→R (D.bl false) M':=fun hb=>by
   rw[Ap hb]at ih
   rw[e0,ih]at k
   exact k
  refine⟨fun c1=>bad fun z=>by omega,fun c1=>⟨fun c2=>bad fun z=>by omega,fun c2=>⟨fun c3=>bad fun z=>z.2.2 c3,fun c3=>⟨s.1,_,_,rfl,?_⟩⟩⟩⟩
  rw[ih,T7 (by omega) (by omega) c3]
 ·rintro e M' ⟨rfl,a,z3,z4,rfl,ih⟩
  walk_at "sim"
  rw[MA,List.drop_length]at ih
  rw[e0,ih]at k
  exact k
theorem mW(T:Txt K mg)(d:Df K mg "bound_by" Z5 ["lines","shares","p","q"])(Ko:Fn P w K mg base "same" 1 ["one","other"] jA)(Lk:Fn P w K mg base "added" 2 ["lines","shares"] pj)(Kt:Fn P w K mg base "are_shares" 1 ["lines","shares"] ph):Fn P w K mg base "bound_by" 3 ["lines","shares","p","q"] pe:=by
 have sc:=mH
 walk_at "fn"
 obtain⟨ls,x,p,q,rfl,sh,hx,hls,hz,⟨hp,hq⟩,kn,ky⟩:=h
 refine⟨_,(d7 (f9 (u7 (j8 (jc Kt hr (a9 (d4 0) (a9 (d4 1) d5))))) (d8 (d9 Q8)) f7) (d7 (jst 4 sc.nd (jc Lk hr (a9 (d4 0) (a9 (d4 1) d5)))) (d7 (f9 (A4 (A5 (u7 (j8 (jc Ko hr (a9 (jx (d4 4) d6) (a9 (d4 2) d5))))) (B6 (u7 (j8 (jc Ko hr (a9 (jx (d4 4) d6) (a9 (d4 3) d5)))))))) (d8 (d9 Q8)) f7) (d8 (d9 (jx (d4 4) d6)))))),?_⟩
 walk_at "sim"
 refine⟨sh,hx,hls.1,fun hb=>kn fun z=>(by rw[z.1]at hb;cases hb),fun hb=>⟨sh,hx,hls,hb,hz,fun a b c ra rb rc=>⟨a,_,rfl,jQ p,FF ra,BK (by omega),fun h1=>kn fun z=>h1 (ra.eq.mpr z.2.1),fun h1=>⟨b,_,rfl,jQ q,FF rb,BK (by omega),fun h2=>kn fun z=>h2 (rb.eq.mpr z.2.2),fun h2=>ky ⟨hb,ra.eq.mp h1,rb.eq.mp h2⟩ c rc⟩⟩⟩⟩
theorem pC(T:Txt K mg)(d:Df K mg "lets_by" bx ["line","ray"])(JK:Fn P w K mg base "sum_by" 1 ["p","q","ray"] V7):Fn P w K mg base "lets_by" 2 ["line","ray"] ey:=by
 have sc:=oI
 walk_at "fn"
 obtain⟨l,y,u,rfl,⟨⟨h1,h2,h3⟩,h4,h5⟩,k⟩:=h
 refine⟨_,(d7 (u6 (d4 0) (o7 (n:=3) rfl (e5 (jn 2 sc.nd) (e5 (jn 3 sc.nd) (e5 (jn 4 sc.nd) j5))))) (d7 (u6 (jc JK hr (a9 (d4 2) (a9 (d4 3) (a9 (d4 1) d5)))) (o7 (n:=2) rfl (e5 (jn 5 sc.nd) (e5 (jn 6 sc.nd) j5)))) (d8 (d9 (jm tm (e8 g9 (i0 eU rfl T.b_abs ag (a9 (d4 5) d5)) (jx (d4 4) d6)) (e8 g9 (jx (d4 4) d6) (d4 6))))))),?_⟩
 walk_at "sim"
 have e:decide (((O6 l.1 l.2.1 y u).natAbs:Int)*(l.2.2.den:Int)≤l.2.2.num*K9 l.1 l.2.1 y u)=N8 l y u:=by
  rw[Oc,decide_eq_true_iff];exact tD
 rw[e]
 exact⟨by omega,j3 _ _ (by rw[MC];exact vn _ _ _ _) (j0 _) (by omega),j3 _ _ (j9 _) (pV _ _ _ _) (by omega),k⟩
theorem Ba(T:Txt K mg)(d:Df K mg "lets" oQ ["lines","ray"])(KS:Fn P w K mg base "lets_by" 2 ["line","ray"] ey):Fn P w K mg base "lets" 3 ["lines","ray"] oY:=by
 have sc:=Aj
 walk_at "fn"
 obtain⟨ls,y,u,rfl,⟨h1,h2,h3,h4⟩,k⟩:=h
 refine⟨_,(d8 (d9 (i0 (eT rfl) rfl T.b_all af (a9 (A7 [1] ["line"] ["ray"] rfl (by decide +kernel) rfl (by decide +kernel) (by decide +kernel) rfl (X6 ⟨rfl,rfl⟩) (X6 (Or.inl rfl)) (m9 (d4 0)) (fun _ _ _ _ _ _=>(jn 0 (show(["line","ray"]:List Str).Nodup by decide +kernel))) (fun _ _ _ _ _ _=>p9) (fun _ _ _ _ _ _=>(jc KS hr (a9 (d4 0) (a9 (d4 1) d5))))) d5)))),?_⟩
 walk_at "sim"
 refine t6 (fun l=>D.bl (N8 l y u)) (by omega) (by simp only[t5,v7]) (fun l hl Q hQ=>?_) ?_
 ·walk_at "sim"
  exact⟨⟨h2 l hl,h3,h4⟩,hQ⟩
 ·rw[show ls.map (fun l=>D.bl (N8 l y u))=(ls.map fun l=>N8 l y u).map D.bl by rw[NL];rfl]
  walk_at "sim"
  rw[show(ls.map fun l=>N8 l y u).all id=E6 ls y u by rw[Pe];rfl]
  exact k
theorem fJ(T:Txt K mg)(d:Df K mg "free_right" P2 ["lines","p","q","ray"])(JK:Fn P w K mg base "sum_by" 1 ["p","q","ray"] V7):Fn P w K mg base "free_right" 2 ["lines","p","q","ray"] pd:=by
 have sc:=fk
 walk_at "fn"
 obtain⟨ls,p,q,y,u,rfl,⟨hls,⟨hp,hq⟩,hy,hu⟩,k⟩:=h
 refine⟨_,(d7 (f9 (jtm tm (jx (jc JK hr (a9 (d4 1) (a9 (d4 2) (a9 (d4 3) d5)))) d6) d6) (d8 (d9 z9)) f7) (d8 (d9 (i0 (eT rfl) rfl T.b_all af (a9 (A7 [3] ["line"] ["ray"] rfl (by decide +kernel) rfl (by decide +kernel) (by decide +kernel) rfl (X6 ⟨rfl,rfl⟩) (X6 (Or.inl rfl)) (m9 (d4 0)) (fun _ _ _ _ _ _=>(jn 0 (show(["line","ray"]:List Str).Nodup by decide +kernel))) (fun _ _ _ _ _ _=>p9) (fun _ _ _ _ _ _=>(jm A2 (jx (jc JK hr (a9 (jx (d4 0) d6) (a9 (jx (d4 0) d6) (a9 (d4 1) d5)))) d6) d6))) d5))))),?_⟩
 walk_at "sim"
 have h12:=hls.1
 unfold nF at k
 refine⟨by omega,fun c=>?_,fun c=>?_⟩
 ·rw[decide_eq_false (show ¬ 0<p*y+q*u from fun z=>absurd ((qT p q y u).mpr z) (by omega))]at k
  exact k
 ·rw[decide_eq_true (show 0<p*y+q*u from(qT p q y u).mp (by omega)),Nb]at k
  refine t6 (fun l=>D.bl (decide (l.1*y+l.2.1*u=0))) (by omega) (by simp only[t5]) (fun l hl Q hQ=>?_) ?_
  ·have ok:=hls.2 l hl
   have z1:=ok.p6
   have z2:=ok.q6
   walk_at "sim"
   refine⟨by omega,?_⟩
   rw[show decide (O6 l.1 l.2.1 y u=0)=decide (l.1*y+l.2.1*u=0)from decide_eq_decide.mpr (vm _ _ _ _)]
   exact hQ
  ·rw[show ls.map (fun l=>D.bl (decide (l.1*y+l.2.1*u=0)))=(ls.map fun l=>decide (l.1*y+l.2.1*u=0)).map D.bl by rw[NL];rfl]
   walk_at "sim"
   rw[show(ls.map fun l=>decide (l.1*y+l.2.1*u=0)).all id=ls.all fun l=>decide (l.1*y+l.2.1*u=0)by rw[Pe];rfl]
   exact k
theorem fG(T:Txt K mg)(d:Df K mg "most_right" P0 ["lines","p","q","told"])(Ko:Fn P w K mg base "same" 1 ["one","other"] jA)(Ku:Fn P w K mg base "bound_by" 3 ["lines","shares","p","q"] pe)(JK:Fn P w K mg base "sum_by" 1 ["p","q","ray"] V7)(Ll:Fn P w K mg base "lets" 3 ["lines","ray"] oY)(Kd:Fn P w K mg base "free_right" 2 ["lines","p","q","ray"] pd):Fn P w K mg base "most_right" 4 ["lines","p","q","told"] oV:=by
 have sc:=fh
 walk_at "fn"
 obtain⟨ls,p,q,t,rfl,m,ht,hls,⟨hp,hq⟩,hm,k⟩:=h
 cases m with
 | free z =>
  obtain rfl:t = .tup [.str "free",r9 z.1 z.2]:=ht
  obtain⟨z1,z2⟩:=hm.free z rfl
  refine⟨_,(d7 (f9 (jtm A2 (i0 E7 rfl T.b_len B7 (a9 (d4 3) d5)) d6) (d8 (d9 (B9 (jm cg (jx (d4 3) d6) C9) (E1 (jc Kd hr (a9 (d4 0) (a9 (d4 1) (a9 (d4 2) (a9 (jx (d4 3) d6) d5))))))))) f7) (d7 (u6 (d4 3) (o7 (n:=4) rfl (e5 (jn 4 sc.nd) (e5 (jn 5 sc.nd) (e5 (jn 6 sc.nd) (e5 (jn 7 sc.nd) j5)))))) (d7 (f9 (A4 (A5 (jtm CY (d4 4) C9) (A5 (u7 (j8 (jc Ll hr (a9 (d4 0) (a9 (d4 6) d5))))) (B6 (u7 (j8 (jc Ko hr (a9 (jc JK hr (a9 (d4 1) (a9 (d4 2) (a9 (d4 6) d5)))) (a9 (d4 5) d5))))))))) (d8 (d9 z9)) f7) (d7 (jst 8 sc.nd (jc Ku hr (a9 (d4 0) (a9 (d4 7) (a9 (d4 1) (a9 (d4 2) d5)))))) (d8 (d9 (B9 (jm cY (d4 8) Q8) (E1 (jc Ko hr (a9 (d4 8) (a9 (d4 5) d5))))))))))),?_⟩
  walk_at "sim"
  exact⟨fun _=>⟨⟨hls,⟨hp,hq⟩,z1,z2⟩,k⟩,fun c=>absurd rfl c⟩
 | most v z sh =>
  obtain⟨x,rfl,hx⟩:=ht
  obtain⟨zv,⟨z1,z2⟩,_,zs⟩:=hm.most v z sh rfl
  have k:R (.bl (E6 ls z.1 z.2 && decide (p*z.1+q*z.2=v) && shB ls.length sh && decide (ad t0 ls sh=p∧ad t1 ls sh=q∧ad t2 ls sh=v))) M:=k
  have tl:=vn p q z.1 z.2
  have bl:=pV p q z.1 z.2
  refine⟨_,(d7 (f9 (jtm A2 (i0 E7 rfl T.b_len B7 (a9 (d4 3) d5)) d6) (d8 (d9 (B9 (jm cg (jx (d4 3) d6) C9) (E1 (jc Kd hr (a9 (d4 0) (a9 (d4 1) (a9 (d4 2) (a9 (jx (d4 3) d6) d5))))))))) f7) (d7 (u6 (d4 3) (o7 (n:=4) rfl (e5 (jn 4 sc.nd) (e5 (jn 5 sc.nd) (e5 (jn 6 sc.nd) (e5 (jn 7 sc.nd) j5)))))) (d7 (f9 (A4 (A5 (jtm CY (d4 4) C9) (A5 (u7 (j8 (jc Ll hr (a9 (d4 0) (a9 (d4 6) d5))))) (B6 (u7 (j8 (jc Ko hr (a9 (jc JK hr (a9 (d4 1) (a9 (d4 2) (a9 (d4 6) d5)))) (a9 (d4 5) d5))))))))) (d8 (d9 z9)) f7) (d7 (jst 8 sc.nd (jc Ku hr (a9 (d4 0) (a9 (d4 7) (a9 (d4 1) (a9 (d4 2) d5)))))) (d8 (d9 (B9 (jm cY (d4 8) Q8) (E1 (jc Ko hr (a9 (d4 8) (a9 (d4 5) d5))))))))))),?_⟩
  walk_at "sim"
  refine⟨fun c=>absurd c (by decide),fun _=>⟨⟨hls.1,fun l hl=>?_,by omega,by omega⟩,fun c=>?_,fun c=>⟨by omega,(O6 p q z.1 z.2,K9 p q z.1 z.2),_,rfl,jQ v,⟨Mt tl (My (by decide) (by omega)),Mt bl (My (by decide) (by omega))⟩,BK (by omega),fun c2=>?_,fun c2=>⟨sh,hx,hls,zs,⟨hp,hq⟩,fun c3=>?_,fun c3 r rr=>?_⟩⟩⟩⟩
  ·have ok:=hls.2 l hl
   have a1:=ok.p6
   have a2:=ok.q6
   have a3:=ok.r6
   exact⟨by omega,by omega,by omega⟩
  ·rw[c]at k;exact k
  ·rw[decide_eq_false (show ¬ p*z.1+q*z.2=v from fun e=>c2 ((ou p q z.1 z.2 v).mpr e)),NA]at k
   exact k
  ·rw[md (b:=true) rfl]
   walk_at "sim"
   have e:(shB ls.length sh && decide (ad t0 ls sh=p∧ad t1 ls sh=q∧ad t2 ls sh=v))=false:=by
    rw[QA]
    intro e
    rw[Na,decide_eq_true_eq]at e
    exact c3 ⟨e.1,e.2.1,e.2.2.1⟩
   rw[Bool.and_assoc,e,NA]at k
   exact k
  ·rw[md (b:=false) rfl]
   walk_at "sim"
   refine⟨r,_,rfl,jQ v,FF rr,BK (by omega),?_⟩
   rw[c,decide_eq_true ((ou p q z.1 z.2 v).mp c2),c3.1,Nb,Nb]at k
   rw[show decide (r.1*(v.den:Int)=v.num*r.2)=decide (ad t0 ls sh=p∧ad t1 ls sh=q∧ad t2 ls sh=v)from decide_eq_decide.mpr ⟨fun e=>⟨c3.2.1,c3.2.2,rr.eq.mp e⟩,fun e=>rr.eq.mpr e.2.2⟩]
   exact k
theorem bD(T:Txt K mg)(d:Df K mg "_law_along" I0 ["one","other"])(Jz:Fn P w K mg base "_law_taken" 2 ["one","other"] D3):Fn P w K mg base "_law_along" 3 ["one","other"] vX:=by
 have sc:=X8
 walk_at "fn"
 obtain⟨l,m,rfl,⟨⟨h1,h2,h3⟩,⟨h4,h5,h6⟩⟩,k⟩:=h
 refine⟨_,(d8 (d9 (jm (X9 hu) (jc Jz hr (a9 (jx (d4 0) d6) (a9 (jx (d4 1) d6) d5))) (jc Jz hr (a9 (jx (d4 0) d6) (a9 (jx (d4 1) d6) d5)))))),?_⟩
 walk_at "sim"
 exact⟨by omega,by omega,k⟩
theorem fT(T:Txt K mg)(d:Df K mg "_law_along" I0 ["one","other"])(Jz:Fn P w K mg base "_law_taken" 2 ["one","other"] D3):Fn P w K mg base "_law_along" 3 ["one","other"] vY:=by
 have sc:=X8
 walk_at "fn"
 obtain⟨l,p,q,rfl,⟨⟨h1,h2,h3⟩,hp,hq⟩,k⟩:=h
 refine⟨_,(d8 (d9 (jm (X9 hu) (jc Jz hr (a9 (jx (d4 0) d6) (a9 (jx (d4 1) d6) d5))) (jc Jz hr (a9 (jx (d4 0) d6) (a9 (jx (d4 1) d6) d5)))))),?_⟩
 walk_at "sim"
 exact⟨by omega,by omega,k⟩
theorem cC(T:Txt K mg)(d:Df K mg "_law_is_free" K1 ["lines","p","q"])(Kb:Fn P w K mg base "_law_along" 3 ["one","other"] vX)(Kv:Fn P w K mg base "_law_along" 3 ["one","other"] vY):Fn P w K mg base "_law_is_free" 4 ["lines","p","q"] jI:=by
 have sc:=cx
 walk_at "fn"
 obtain⟨ls,p,q,rfl,⟨hls,hp,hq⟩,k⟩:=h
 refine⟨_,(d7 (f9 (A4 (Q9 (jtm A2 (jx (d4 1) d6) d6) (J1 (jtm A2 (jx (d4 2) d6) d6)))) (d8 (d9 z9)) f7) (d7 (t9 PassesOwn.never rfl (m9 (d4 0)) (jn 3 sc.nd) (d8 (f9 (A4 (A5 (j8 (jc Kv hr (a9 (d4 3) (a9 (g7 (a9 (d4 1) (a9 (d4 2) d5))) d5)))) (B6 (u7 (j8 (jc Kb hr (a9 (d4 3) (a9 (jx (d4 0) d6) d5)))))))) (d8 (d9 z9)) f7))) (d8 (d9 z9)))),?_⟩
 walk_at "sim"
 unfold L4 at k
 rw[NM,NM]
 refine⟨fun c1=>⟨fun c2=>?_,fun c2=>?_⟩,fun c1=>?_⟩
 ·rw[decide_eq_true c1,decide_eq_true c2]at k
  exact k
 all_goals
  have c:(!(decide (p=0) && decide (q=0)))=true:=by
   first
   | (rw[decide_eq_false c2,NA];rfl)
   | (rw[decide_eq_false c1];rfl)
  rw[c,Nb]at k
  refine S0.by (fun i e M'=>M'=M∧(∃ z1:Option D,e=[some (.vl (ls.map f8)),some (e7 p),some (e7 q),z1])∧∀ l∈ls.take i,((!decide (l.1*q=l.2.1*p)) && decide (l.1*(ls.headD (0,0,0)).2.1=l.2.1*(ls.headD (0,0,0)).1))=true) ⟨rfl,⟨_,rfl⟩,fun l hl=>by cases hl⟩ (fun i e M' _ _=>by simp only[t5]) ?_ ?_
  ·rintro i dd e M' hd ⟨rfl,⟨z1,rfl⟩,hno⟩
   obtain⟨l,hl,rfl⟩:=bF hd
   have hm:=MI hl
   have bad:((!decide (l.1*q=l.2.1*p)) && decide (l.1*(ls.headD (0,0,0)).2.1=l.2.1*(ls.headD (0,0,0)).1))=false→R (D.bl false) M':=fun hb=>by
    have:(ls.all fun l=>(!decide (l.1*q=l.2.1*p)) && decide (l.1*(ls.headD (0,0,0)).2.1=l.2.1*(ls.headD (0,0,0)).1))=false:=by
     rw[Qz]
     exact⟨l,hm,by rw[hb];decide⟩
    rw[this]at k
    exact k
   have tk:ls.take (i+1)=ls.take i++[l]:=by rw[NI,hl];rfl
   cases ls with
   | nil=>cases hm
   | cons g r =>
    walk_at "sim"
    refine⟨⟨(hls.2 l hm).z,hp,hq⟩,fun b1=>bad (by rw[decide_eq_true b1];rfl),fun b1=>⟨⟨(hls.2 l hm).z,(hls.2 g Mz).z⟩,fun b2=>bad (by rw[decide_eq_false (show ¬ l.1*((g :: r).headD (0,0,0)).2.1=l.2.1*((g :: r).headD (0,0,0)).1 from b2),NA]),fun b2=>⟨⟨_,rfl⟩,fun x hx=>?_⟩⟩⟩
    rw[tk]at hx
    rcases MX.mp hx with hx|hx
    ·exact hno x hx
    ·rw[Nc.mp hx,decide_eq_false b1,decide_eq_true (show l.1*((g :: r).headD (0,0,0)).2.1=l.2.1*((g :: r).headD (0,0,0)).1 from b2)]
     rfl
  ·rintro e M' ⟨rfl,⟨z1,rfl⟩,hno⟩
   walk_at "sim"
   rw[MA,NF]at hno
   rw[NG.mpr hno]at k
   exact k
theorem kg(T:Txt K mg)(d:Df K mg "_law_next" T0 ["pool","base"]):Fn P w K mg base "_law_next" 1 ["pool","base"] J8:=by
 have sc:=ji
 refine h7 d sc (fun ds M R Y h=>?_) (fun f cdv A outer s H E ds M R Y hr h=>?_)
 ·obtain⟨p,b,rfl,_⟩:=h;rfl
 ·obtain⟨p,b,rfl,⟨x,y,z,hM⟩,hb,hl,k⟩:=h
  refine⟨_,(d7 (f9 (jtm aU (jx (d4 0) d6) d6) (d7 (jst 2 sc.nd (e8 R9 (jx (d4 0) d6) (d4 1))) (d7 (u6 (e8 K4 (jx (d4 0) d6) (d4 1)) (ku (d4 0) d6)) (d8 (d9 (d4 2))))) f7) (d7 (u6 (e8 C3 (jx (d4 0) d6) d6) (ku (d4 0) d6)) (d7 (jst 3 sc.nd (e8 R9 (e8 C3 (jx (d4 0) d6) (e8 g9 d6 (jx (d4 0) d6))) d6)) (d7 (jst 4 sc.nd (e8 R9 (e8 g9 (e8 C3 (d4 3) d6) (e8 C3 (d4 3) d6)) d6)) (d8 (d9 (e8 R9 (e8 K4 (e8 R9 (e8 g9 (d4 4) (d4 4)) d6) d6) (d4 1)))))))),?_⟩
  refine⟨_,rfl,_,E2 hM rfl,_,rfl,_,rfl,?_⟩
  refine xr (fun h0=>?_) (fun h0=>?_)
  ·refine⟨_,rfl,_,E2 hM rfl,_,rfl,_,_,rfl,rfl,hb,?_⟩
   refine⟨_,rfl,_,E2 hM rfl,_,rfl,_,_,rfl,rfl,⟨by omega,hl⟩,_,rfl,_,_,_,_,rfl,rfl,hM,rfl,?_⟩
   exact⟨_,rfl,k _ _ (Og _ (by omega)) (NQ _ hb) (q9.upd _ _ _)⟩
  ·refine⟨_,rfl,_,E2 hM rfl,_,rfl,_,rfl,_,_,_,_,rfl,rfl,hM,rfl,?_⟩
   refine⟨_,rfl,_,E2 g8 rfl,_,rfl,_,E2 g8 rfl,_,_,rfl,rfl,Bi (by decide) (by decide),_,rfl,_,_,rfl,rfl,(by show(0:Int)<1000000007;decide),?_⟩
   refine⟨_,rfl,_,rfl,_,rfl,_,rfl,_,_,rfl,rfl,Jc (by decide) (by decide) (by decide) (by decide),_,_,rfl,rfl,(by show(0:Int)<998244353;decide),?_⟩
   refine⟨_,rfl,_,rfl,_,_,rfl,rfl,Hr (by decide) (by decide),_,_,rfl,rfl,(by show(0:Int)<2147483647;decide),_,_,rfl,rfl,Jp,_,rfl,_,_,rfl,rfl,hb,?_⟩
   exact k _ _ (Og _ (by omega)) (NQ _ hb) (q9.upd _ _ _)
theorem kc(T:Txt K mg)(d:Df K mg "_law_wide" S8 ["pool","base"])(Jy:Fn P w K mg base "_law_next" 1 ["pool","base"] J8):Fn P w K mg base "_law_wide" 2 ["pool","base"] J8:=by
 have sc:=jg
 refine h7 d sc (fun ds M R Y h=>?_) (fun f cdv A outer s H E ds M R Y hr h=>?_)
 ·obtain⟨p,b,rfl,_⟩:=h;rfl
 ·obtain⟨p,b,rfl,⟨x,y,z,hM⟩,hb,hl,k⟩:=h
  refine⟨_,(d7 (f9 (A4 (A5 (jtm aU (jx (d4 0) d6) d6) (B6 (jtm eJ (d4 1) (e8 rp d6 d6))))) (d8 (d9 (jc Jy hr (a9 (d4 0) (a9 (d4 1) d5))))) f7) (d7 (jst 2 sc.nd d6) (d7 (t9 PassesOwn.never rfl (de rfl T.b_range (a9 (e8 C3 d6 (e8 K4 (Bt (d4 1)) d6)) d5)) (jn 3 sc.nd) (d8 (jst 2 sc.nd (e8 C3 (e8 g9 (d4 2) d6) (jc Jy hr (a9 (d4 0) (a9 d6 d5))))))) (d8 (d9 (e8 R9 (d4 2) (d4 1))))))),?_⟩
  refine⟨_,rfl,_,E2 hM rfl,_,rfl,_,rfl,?_⟩
  have again:Fu (nJ J8 [] Y0 (rX (X5 0) (rX (X5 1) Fv))) { nx:=fun _ M'=>R .non M',rt:=R } (U5 ["pool","base","number","turn"] [.ref p,.int b]) M :=
   ⟨_,rfl,_,rfl,p,b,rfl,⟨x,y,z,hM⟩,hb,hl,k⟩
  refine xr (fun h0=>?_) (fun h0=>?_)
  ·exact Hw again
  ·refine⟨_,rfl,_,_,rfl,rfl,cp6,_,rfl,_,rfl,?_⟩
   refine xr (fun h1=>?_) (fun h1=>?_)
   ·exact again
   ·have hbits:=BJ hl
    have e20:((Builtin.Int.intBits b:Nat):Int).fdiv 20=((Builtin.Int.intBits b:Nat):Int) / 20:=bf (by omega) (by decide)
    refine⟨_,rfl,_,rfl,_,_,rfl,rfl,Ig,_,rfl,_,rfl,by rw[e20];omega,by rw[e20];omega,?_⟩
    refine⟨fun i e M'=>∃(n:Int) (t:Option D),e=[some (.ref p),some (.int b),some (.int n),t]∧q9 p M M',⟨0,none,rfl,q9.refl ⟨x,y,z,hM⟩⟩,fun _ _ _ _ _=>trivial,?_,?_⟩
    ·rintro i dd e M' hd ⟨n,t,rfl,st⟩
     refine⟨_,rfl,_,_,rfl,rfl,Jd (by decide) (by decide),_,rfl,p,_,rfl,st.pool,by decide,by decide,fun r M2 h0 h1 st2=>?_⟩
     exact⟨_,rfl,_,_,rfl,st.trans st2⟩
    ·rintro e M' ⟨n,t,rfl,st⟩
     exact⟨_,rfl,_,rfl,_,_,rfl,rfl,hb,k _ _ (Og _ (by omega)) (NQ _ hb) st⟩
theorem eE(T:Txt K mg)(d:Df K mg "_law_number" L8 ["pool"])(JB:Fn P w K mg base "_law_low" 1 ["top","bottom"] E4)(Km:Fn P w K mg base "_law_wide" 2 ["pool","base"] J8)(Jy:Fn P w K mg base "_law_next" 1 ["pool","base"] J8):Fn P w K mg base "_law_number" 3 ["pool"] aq:=by
 have sc:=dW
 walk_at "fn"
 obtain⟨p,rfl,hp,k⟩:=h
 refine⟨_,(d7 (jst 1 sc.nd (jc Jy hr (a9 (d4 0) (a9 d6 d5)))) (d7 (f9 (jtm eJ (d4 1) d6) (d8 (d9 (jc JB hr (a9 (e8 E5 (jc Jy hr (a9 (d4 0) (a9 d6 d5))) d6) (a9 (jx (C1 (a9 d6 (a9 d6 (a9 d6 (a9 d6 (a9 d6 (a9 d6 d5))))))) (jc Jy hr (a9 (d4 0) (a9 d6 d5)))) d5))))) f7) (d7 (f9 (jtm A2 (d4 1) d6) (d8 (d9 (jc JB hr (a9 (e8 E5 (jc Jy hr (a9 (d4 0) (a9 d6 d5))) d6) (a9 (e8 C3 d6 (jc Jy hr (a9 (d4 0) (a9 d6 d5)))) d5))))) f7) (d7 (f9 (jtm A2 (d4 1) d6) (d7 (jst 2 sc.nd (e8 E5 (e8 rp d6 d6) d6)) (d8 (d9 (jc JB hr (a9 (e8 E5 (jc Km hr (a9 (d4 0) (a9 (e8 C3 (e8 g9 d6 (d4 2)) d6) d5))) (d4 2)) (a9 (e8 C3 d6 (jc Km hr (a9 (d4 0) (a9 (d4 2) d5)))) d5)))))) f7) (d8 (d9 (g7 (a9 d6 (a9 d6 d5))))))))),?_⟩
 walk_at "sim"
 have e12:(10:Int) ^ Int.toNat 12=1000000000000:=by decide
 have lg:∀{b:Int},b.natAbs<2 ^ 41→b.natAbs.log2<9000:=fun{b} hb=>K7 (Mt hb (My (by decide) (by decide))) (by decide)
 refine⟨hp,by decide,fun r M1 r0 r1 s1=>⟨fun h1=>⟨s1.pool,by decide,fun t M2 t0 t1 s2=>⟨s2.pool,by decide,fun v M3 v0 v1 s3=>?_⟩⟩,fun h1=>⟨fun h2=>⟨s1.pool,by decide,fun t M2 t0 t1 s2=>⟨s2.pool,by decide,fun v M3 v0 v1 s3=>⟨by omega,lg (by omega),k _ _ (M0 (by decide) (by omega) (by omega) (by omega)) (s1.trans (s2.trans s3))⟩⟩⟩,fun h2=>⟨fun h3=>?_,fun h3=>k _ _ (by decide) s1⟩⟩⟩⟩
 ·refine R0 (by omega) (by show v<6;omega) fun d hd=>?_
  have hd':∃ b:Int,d = .int b∧0<b∧b≤4:=by
   simp only[Mv,MG,or_false]at hd
   rcases hd with rfl|rfl|rfl|rfl|rfl|rfl
   ·exact⟨1,rfl,by decide,by decide⟩
   ·exact⟨1,rfl,by decide,by decide⟩
   ·exact⟨1,rfl,by decide,by decide⟩
   ·exact⟨2,rfl,by decide,by decide⟩
   ·exact⟨3,rfl,by decide,by decide⟩
   ·exact⟨4,rfl,by decide,by decide⟩
  obtain⟨b,rfl,b0,b1⟩:=hd'
  walk_at "sim"
  exact⟨by omega,lg (by omega),k _ _ (M0 (by decide) (by omega) (by omega) (by omega)) (s1.trans (s2.trans s3))⟩
 ·rw[e12]
  refine⟨Jo,Bi (by decide) (by decide),s1.pool,by decide,lg (by decide),fun t M2 t0 t1 s2=>⟨s2.pool,by decide,lg (by decide),fun v M3 v0 v1 s3=>⟨by omega,lg (by omega),k _ _ (M0 (by decide) (by omega) (by omega) (by omega)) (s1.trans (s2.trans s3))⟩⟩⟩
theorem fR(T:Txt K mg)(d:Df K mg "_law_asked" Q0 ["pool","lines"])(JD:Fn P w K mg base "_law_sum" 2 ["one","other"] S2)(Jy:Fn P w K mg base "_law_next" 1 ["pool","base"] J8)(Jz:Fn P w K mg base "_law_taken" 2 ["one","other"] D3)(JB:Fn P w K mg base "_law_low" 1 ["top","bottom"] E4)(JJ:Fn P w K mg base "_law_number" 3 ["pool"] aq):Fn P w K mg base "_law_asked" 4 ["pool","lines"] pf:=by
 have sc:=fE
 walk_at "fn"
 obtain⟨p,ls,rfl,⟨hp,hls⟩,k⟩:=h
 have h12:=hls.1
 refine⟨_,(d7 (aY (i:=2) (j:=3) rfl sc.nd rfl rfl (by decide) rfl rfl (a9 (jc JJ hr (a9 (d4 0) d5)) (a9 (jc JJ hr (a9 (d4 0) d5)) d5))) (d7 (jst 4 sc.nd (jc Jy hr (a9 (d4 0) (a9 d6 d5)))) (d7 (f9 (jtm A2 (d4 4) d6) (d8 (d9 (g7 (a9 (g7 (a9 d6 (a9 d6 d5))) (a9 (g7 (a9 d6 (a9 d6 d5))) d5))))) f7) (d7 (f9 (A4 (A5 (jtm (X9 hu) (d4 1) (C1 d5)) (B6 (jtm eJ (d4 4) d6)))) (d8 (d9 (g7 (a9 (d4 2) (a9 (d4 3) d5))))) f7) (d7 (jst 5 sc.nd (jx (d4 1) (jc Jy hr (a9 (d4 0) (a9 (i0 E7 rfl T.b_len B7 (a9 (d4 1) d5)) d5))))) (d7 (f9 (jtm eJ (d4 4) d6) (d7 (jst 6 sc.nd (jc JB hr (a9 (e8 C3 d6 (jc Jy hr (a9 (d4 0) (a9 d6 d5)))) (a9 (jx (C1 (a9 d6 (a9 d6 (a9 (U3 d6) d5)))) (jc Jy hr (a9 (d4 0) (a9 d6 d5)))) d5)))) (d8 (d9 (g7 (a9 (jc Jz hr (a9 (d4 6) (a9 (jx (d4 5) d6) d5))) (a9 (jc Jz hr (a9 (d4 6) (a9 (jx (d4 5) d6) d5))) d5)))))) f7) (d7 (jst 7 sc.nd (jx (d4 1) (jc Jy hr (a9 (d4 0) (a9 (i0 E7 rfl T.b_len B7 (a9 (d4 1) d5)) d5))))) (d8 (d9 (g7 (a9 (jc JD hr (a9 (jx (d4 5) d6) (a9 (jx (d4 7) d6) d5))) (a9 (jc JD hr (a9 (jx (d4 5) d6) (a9 (jx (d4 7) d6) d5))) d5)))))))))))),?_⟩
 walk_at "sim"
 rw[MA]
 refine⟨hp,fun a M1 ha s1=>⟨s1.pool,fun b M2 hb s2=>⟨s2.pool,by decide,fun r M3 r0 r8 s3=>⟨fun _=>?_,fun _=>⟨?_,fun _=>?_,fun hne=>⟨fun _=>?_,fun _=>⟨s3.pool,?_,?_,fun t M4 t0 t1 s4=>?_⟩⟩⟩⟩⟩⟩⟩
 ·exact k 0 0 M3 (by rw[RM.ak];decide) (by rw[RM.ak];decide) (s1.trans (s2.trans s3))
 ·exact bL fun x hx=>by
   obtain⟨z,hz,rfl⟩:=MD.mp hx
   rfl
 ·exact k a b M3 (by omega) (by omega) (s1.trans (s2.trans s3))
 ·exact k a b M3 (by omega) (by omega) (s1.trans (s2.trans s3))
 ·have:ls≠[]:=fun z=>hne (by rw[z];rfl)
  have:=Qn.mpr this
  omega
 ·exact MP (Pz _) (by omega)
 ·refine R0 t0 (by rw[MA];exact t1) fun d hd=>?_
  obtain⟨l,hl,rfl⟩:=MD.mp hd
  have ok:=(hls.2 l hl).z
  have z1:=ok.p
  have z2:=ok.q
  have st4:=s1.trans (s2.trans (s3.trans s4))
  refine⟨fun _=>⟨s4.pool,by decide,fun c M5 c0 c5 s5=>⟨s5.pool,by decide,fun e M6 e0 e3 s6=>?_⟩⟩,fun _=>?_⟩
  ·refine R0 e0 (by show e<3;exact e3) fun d hd=>?_
   obtain⟨f,rfl,f0,f1⟩:∃ f:Int,d = .int f∧f≠0∧f.natAbs≤2:=by
    simp only[Mv,MG,or_false]at hd
    rcases hd with rfl|rfl|rfl
    ·exact⟨1,rfl,by decide,by decide⟩
    ·exact⟨2,rfl,by decide,by decide⟩
    ·exact⟨-1,rfl,by decide,by decide⟩
   walk_at "sim"
   have sm:sz (MZ (1+c) f)≤4:=M0 (by decide) (by omega) (by omega) f0
   have m1:=RM.u8 (MZ (1+c) f) l.1
   have m2:=RM.u8 (MZ (1+c) f) l.2.1
   refine⟨f0,MP (Pz _) (by omega),by omega,by omega,?_⟩
   exact k _ _ M6 (by omega) (by omega) (st4.trans (s5.trans s6))
  ·refine⟨s4.pool,?_,?_,fun v M5 v0 v1 s5=>?_⟩
   ·have:ls≠[]:=fun z=>by rw[z]at hl;cases hl
    have:=Qn.mpr this
    omega
   ·exact MP (Pz _) (by omega)
   ·refine R0 v0 (by rw[MA];exact v1) fun d hd=>?_
    obtain⟨m,hm,rfl⟩:=MD.mp hd
    have ok2:=(hls.2 m hm).z
    have y1:=ok2.p
    have y2:=ok2.q
    have m1:=RM.J7 l.1 m.1
    have m2:=RM.J7 l.2.1 m.2.1
    walk_at "sim"
    exact⟨by omega,by omega,k _ _ M5 (by omega) (by omega) (st4.trans s5)⟩
theorem ki(T:Txt K mg)(d:Df K mg "_law_line" T1 ["pool"])(JB:Fn P w K mg base "_law_low" 1 ["top","bottom"] E4)(Jy:Fn P w K mg base "_law_next" 1 ["pool","base"] J8)(JJ:Fn P w K mg base "_law_number" 3 ["pool"] aq):Fn P w K mg base "_law_line" 4 ["pool"] oW:=by
 have sc:=jj
 walk_at "fn"
 obtain⟨p,rfl,hp,k⟩:=h
 refine⟨_,(d7 (jst 1 sc.nd (jc JJ hr (a9 (d4 0) d5))) (d7 (jst 2 sc.nd (jc JJ hr (a9 (d4 0) d5))) (d7 (f9 (A4 (Q9 (jtm A2 (jx (d4 1) d6) d6) (J1 (jtm A2 (jx (d4 2) d6) d6)))) (d8 (jst 1 sc.nd (g7 (a9 (e8 C3 d6 (jc Jy hr (a9 (d4 0) (a9 d6 d5)))) (a9 d6 d5))))) f7) (d8 (d9 (g7 (a9 (d4 1) (a9 (d4 2) (a9 (jc JB hr (a9 (e8 C3 d6 (jc Jy hr (a9 (d4 0) (a9 d6 d5)))) (a9 (jx (C1 (a9 d6 (a9 d6 (a9 d6 (a9 d6 d5))))) (jc Jy hr (a9 (d4 0) (a9 d6 d5)))) d5))) d5))))))))),?_⟩
 walk_at "sim"
 have lg:∀{b:Int},b.natAbs<2 ^ 41→b.natAbs.log2<9000:=fun{b} hb=>K7 (Mt hb (My (by decide) (by decide))) (by decide)
 have fin:∀(a b:Rat) (M1:Mem),sz a≤41→sz b≤41→¬ (a=0∧b=0)→q9 p M M1→A9 M1 p∧(Int.natAbs 12).log2<9000∧∀(r:Int) (M2:Mem),0≤r→r<12→q9 p M1 M2→A9 M2 p∧(Int.natAbs 4).log2<9000∧∀(t:Int) (M3:Mem),0≤t→t<4→q9 p M2 M3→gIx (D.vl [D.int 1,D.int 1,D.int 2,D.int 5]) (D.int t) M3 fun x M1=>E4 [D.int (1+r),x] M1 (fun x M1=>R (D.tup [e7 a,e7 b,x]) M1) Y0:=fun a b M1 ha hb hn s1=>by
  refine⟨s1.pool,by decide,fun r M2 r0 r1 s2=>⟨s2.pool,by decide,fun t M3 t0 t1 s3=>R0 t0 (by show t<4;omega) fun d hd=>?_⟩⟩
  have hd':∃ b:Int,d = .int b∧0<b∧b≤5:=by
   simp only[Mv,MG,or_false]at hd
   rcases hd with rfl|rfl|rfl|rfl
   ·exact⟨1,rfl,by decide,by decide⟩
   ·exact⟨1,rfl,by decide,by decide⟩
   ·exact⟨2,rfl,by decide,by decide⟩
   ·exact⟨5,rfl,by decide,by decide⟩
  obtain⟨c,rfl,c0,c1⟩:=hd'
  walk_at "sim"
  exact⟨by omega,lg (by omega),k (a,b,MZ (1+r) c) _ ⟨⟨ha,hb,M0 (by decide) (by omega) (by omega) (by omega)⟩,hn⟩ (xP (by omega) c0) (s1.trans (s2.trans s3))⟩
 refine⟨hp,fun a M1 ha s1=>⟨s1.pool,fun b M2 hb s2=>⟨fun h1=>⟨fun h2=>⟨s2.pool,by decide,fun r M3 r0 r1 s3=>?_⟩,fun h2=>fin a b M2 ha hb (fun z=>h2 (by rw[z.2];rfl)) (s1.trans s2)⟩,fun h1=>fin a b M2 ha hb (fun z=>h1 (by rw[z.1];rfl)) (s1.trans s2)⟩⟩⟩
 have e:D.tup [.int (1+r),.int 1]=e7 ((1+r:Int):Rat):=(aR _).symm
 rw[e]
 exact fin _ b M3 (iT (by decide) (by omega)) hb (fun z=>by have h:=z.1;rw[Pt]at h;omega) (s1.trans (s2.trans s3))
theorem fO(T:Txt K mg)(d:Df K mg "_law_lines" P7 ["pool","most_lines"])(Jy:Fn P w K mg base "_law_next" 1 ["pool","base"] J8)(JD:Fn P w K mg base "_law_sum" 2 ["one","other"] S2)(Jz:Fn P w K mg base "_law_taken" 2 ["one","other"] D3)(JB:Fn P w K mg base "_law_low" 1 ["top","bottom"] E4)(KI:Fn P w K mg base "_law_line" 4 ["pool"] oW):Fn P w K mg base "_law_lines" 5 ["pool","most_lines"] jE:=by
 have sc:=fu
 walk_at "fn"
 obtain⟨p,nn,rfl,hp,⟨n0,n5⟩,k⟩:=h
 have lg:∀{b:Int},b.natAbs<2 ^ 41→b.natAbs.log2<9000:=fun{b} hb=>K7 (Mt hb (My (by decide) (by decide))) (by decide)
 refine⟨_,(d7 (jst 2 sc.nd (bI d5)) (d7 (t9 PassesOwn.never rfl (de rfl T.b_range (a9 (jc Jy hr (a9 (d4 0) (a9 (e8 C3 (d4 1) d6) d5))) d5)) (jn 3 sc.nd) (d7 (jst 4 sc.nd (jc KI hr (a9 (d4 0) d5))) (d7 (jst 5 sc.nd (jc Jy hr (a9 (d4 0) (a9 d6 d5)))) (N9 (f9 (A4 (Q9 (jtm aU (d4 3) d6) (J1 (jtm eJ (d4 5) d6)))) (d7 (jst 6 sc.nd (jx (d4 2) (jc Jy hr (a9 (d4 0) (a9 (d4 3) d5))))) (d7 (jst 7 sc.nd (jx (C1 (a9 (g7 (a9 d6 (a9 d6 d5))) (a9 (jc JB hr (a9 (e8 E5 (jc Jy hr (a9 (d4 0) (a9 d6 d5))) d6) (a9 (e8 C3 d6 (jc Jy hr (a9 (d4 0) (a9 d6 d5)))) d5))) d5))) (d4 5))) (N9 (f9 (jtm A2 (jx (d4 7) d6) d6) (d8 (jst 7 sc.nd (g7 (a9 d6 (a9 d6 d5))))) f7) (d8 (jst 4 sc.nd (g7 (a9 (jc Jz hr (a9 (d4 7) (a9 (jx (d4 6) d6) d5))) (a9 (jc Jz hr (a9 (d4 7) (a9 (jx (d4 6) d6) d5))) (a9 (jx (C1 (a9 (jx (d4 6) d6) (a9 (jx (d4 4) d6) d5))) (jc Jy hr (a9 (d4 0) (a9 d6 d5)))) d5))))))))) f7) (N9 (f9 (A4 (Q9 (jtm aU (d4 3) d6) (J1 (jtm A2 (d4 5) d6)))) (d7 (aY (i:=8) (j:=9) rfl sc.nd rfl rfl (by decide) rfl rfl (a9 (jx (d4 2) (e8 E5 (d4 3) d6)) (a9 (jx (d4 2) (e8 E5 (d4 3) d6)) d5))) (d7 (jst 4 sc.nd (g7 (a9 (jc JD hr (a9 (jx (d4 8) d6) (a9 (jx (d4 9) d6) d5))) (a9 (jc JD hr (a9 (jx (d4 8) d6) (a9 (jx (d4 9) d6) d5))) (a9 (jc JD hr (a9 (jx (d4 8) d6) (a9 (jx (d4 9) d6) d5))) d5))))) (d8 (f9 (A4 (Q9 (jtm A2 (jx (jx (d4 4) d6) d6) d6) (J1 (jtm A2 (jx (jx (d4 4) d6) d6) d6)))) (d8 (jst 4 sc.nd (d4 8))) f7)))) f7) (d8 (U1 (nv PySem.F.slot_list_append PySem.F.type_list_append O1 (d4 2) (a9 (d4 4) d5))))))))) (d8 (d9 (eO (kv (d4 2))))))),?_⟩
 walk_at "sim"
 intro l hl
 have hlp:l≠p:=hp.ne hl
 have st0:q9 p M (B5 M l (.lst [])):=q9.mk' hp (MK.new hl)
 refine⟨st0.pool,by omega,lg (by omega),fun t M1 t0 t1 s1=>⟨by omega,?_⟩⟩
 refine S0.by (fun i e M'=>∃(ls:List (Rat × Rat × Rat)) (x3 x4 x5 x6 x7 x8 x9:Option D),e=[some (.ref p),some (.int nn),some (.ref l),x3,x4,x5,x6,x7,x8,x9]∧ls.length=i∧CP i ls∧M' l=some (.lst (ls.map f8))∧q9 p M M')
  ⟨[],_,_,_,_,_,_,_,rfl,rfl,CP.nil,s1.keep l _ hlp g8,st0.trans s1⟩ (fun _ _ _ _ _=>trivial) ?_ ?_
 ·rintro i dd e M2 hd ⟨ls,x3,x4,x5,x6,x7,x8,x9,rfl,hll,hc,hm,st⟩
  obtain⟨hi,rfl⟩:=hV hd
  have ok:=hc.cols.ok (by omega)
  have hlen:(ls.map f8).length=i:=by rw[MA];exact hll
  rw[Int.zero_add]
  walk_at "sim"
  refine⟨st.pool,fun l0 M3 hl0 lp0 s3=>⟨s3.pool,by decide,fun pick M4 p0 p1 s4=>?_⟩⟩
  have st4:=st.trans (s3.trans s4)
  have hm4:=(s3.trans s4).keep l _ hlp hm
  refine bO (fun e' M'=>∃(ln:Rat × Rat × Rat) (x6 x7:Option D),e'=[some (.ref p),some (.int nn),some (.ref l),some (.int (i:Nat)),some (f8 ln),some (.int pick),x6,x7,x8,x9]∧CP (i+1) (ls++[ln])∧M' l=some (.lst (ls.map f8))∧q9 p M M') ?_ ?_
  ·have fin0:∃(ln:Rat × Rat × Rat) (y6 y7:Option D),[some (.ref p),some (.int nn),some (.ref l),some (.int (i:Int)),some (f8 l0),some (.int pick),x6,x7,x8,x9]=[some (.ref p),some (.int nn),some (.ref l),some (.int (i:Int)),some (f8 ln),some (.int pick),y6,y7,x8,x9]∧CP (i+1) (ls++[ln])∧M4 l=some (.lst (ls.map f8))∧q9 p M M4:=⟨l0,_,_,rfl,hc.app (hc.cols.new hl0) lp0,hm4,st4⟩
   walk_at "sim"
   refine⟨fun h0=>⟨fun h1=>⟨st4.pool,by omega,lg (by omega),fun r M5 r0 r1 s5=>?_⟩,fun h1=>fin0⟩,fun h0=>fin0⟩
   have hm5:=s5.keep l _ hlp hm4
   refine eP hm5 r0 (by rw[hlen];exact r1) fun d hd=>?_
   obtain⟨a,ha,rfl⟩:=MD.mp hd
   refine⟨s5.pool,by decide,fun v M6 v0 v1 s6=>⟨s6.pool,by decide,fun u M7 u0 u1 s7=>⟨by omega,lg (by omega),R0 p0 (by show pick<2;exact h1) fun w hw=>?_⟩⟩⟩
   obtain⟨w0,rfl,hw0⟩:∃ w0:Rat,w=e7 w0∧(w0≠0→eX w0):=by
    simp only[Mv,MG,or_false]at hw
    rcases hw with rfl|rfl
    ·exact⟨1,rfl,fun _=>small_one⟩
    ·exact⟨_,rfl,fun h=>iX (by omega) (by omega) (by omega) h⟩
   have s57:=s5.trans (s6.trans s7)
   have hm7:=s57.keep l _ hlp hm4
   refine bO (fun e' M'=>M'=M7∧∃ w1:Rat,e'=[some (.ref p),some (.int nn),some (.ref l),some (.int (i:Int)),some (f8 l0),some (.int pick),some (f8 a),some (e7 w1),x8,x9]∧eX w1) ?_ ?_
   ·walk_at "sim"
    exact⟨fun _=>⟨1,rfl,small_one⟩,fun z=>⟨w0,rfl,hw0 fun y=>z (by rw[y];rfl)⟩⟩
   ·rintro e' M8 ⟨rfl,w1,rfl,hw1⟩
    have z1:=hw1.sz
    have oa:=ok a ha
    have o1:=oa.p
    have o2:=oa.q
    walk_at "sim"
    refine⟨by omega,by omega,s7.pool,by decide,fun c M9 c0 c1 s9=>?_⟩
    have st9:=st4.trans (s57.trans s9)
    have hm9:=s9.keep l _ hlp hm7
    refine R0 c0 (by show c<2;exact c1) fun x hx=>?_
    simp only[Mv,MG,or_false]at hx
    rcases hx with rfl|rfl
    ·exact⟨(w1*a.1,w1*a.2.1,a.2.2),_,_,rfl,hc.app (hc.cols.taken ha hw1 (.inl rfl)) (hc.pos a ha),hm9,st9⟩
    ·exact⟨(w1*a.1,w1*a.2.1,l0.2.2),_,_,rfl,hc.app (hc.cols.taken ha hw1 (.inr hl0.r)) lp0,hm9,st9⟩
  ·rintro e' M5 ⟨ln,x6,x7,rfl,hc5,hm5,st5⟩
   walk_at "sim"
   refine bO (fun e' M'=>M'=M5∧∃(ln:Rat × Rat × Rat) (y8 y9:Option D),e'=[some (.ref p),some (.int nn),some (.ref l),some (.int (i:Int)),some (f8 ln),some (.int pick),x6,x7,y8,y9]∧CP (i+1) (ls++[ln])) ?_ ?_
   ·walk_at "sim"
    refine⟨fun h0=>⟨fun h1=>?_,fun _=>⟨_,_,_,rfl,hc5⟩⟩,fun _=>⟨_,_,_,rfl,hc5⟩⟩
    refine eP hm5 (by omega) (by rw[hlen];omega) fun d hd=>?_
    obtain⟨a,ha,rfl⟩:=MD.mp hd
    refine eP hm5 (by omega) (by rw[hlen];omega) fun d hd=>?_
    obtain⟨b,hb,rfl⟩:=MD.mp hd
    walk_at "sim"
    have oa:=ok a ha
    have ob:=ok b hb
    have o1:=oa.p
    have o2:=oa.q
    have o3:=oa.r
    have o4:=ob.p
    have o5:=ob.q
    have o6:=ob.r
    have go:¬ ((a.1+b.1).num=0∧(a.2.1+b.2.1).num=0)→CP (i+1) (ls++[(a.1+b.1,a.2.1+b.2.1,a.2.2+b.2.2)]):=fun z=>hc.app (hc.cols.sum ha hb fun y=>z ⟨NM.mpr y.1,NM.mpr y.2⟩) (show 0<a.2.2+b.2.2 by have:=hc.pos a ha;have:=hc.pos b hb;grind)
    exact⟨by omega,by omega,by omega,fun h2=>⟨fun h3=>⟨_,_,_,rfl,hc.app (hc.cols.again ha) (hc.pos a ha)⟩,fun h3=>⟨_,_,_,rfl,go fun z=>h3 z.2⟩⟩,fun h2=>⟨_,_,_,rfl,go fun z=>h2 z.1⟩⟩
   ·rintro e' M6 ⟨rfl,ln,y8,y9,rfl,hc6⟩
    walk_at "sim"
    refine eZ hm5 (fe hm5 (by rw[hlen];omega) ⟨ls++[ln],_,_,_,_,_,_,_,rfl,by simp[hll],hc6,by rw[g8];simp,st5.put hl hlp⟩)
 ·rw[D1]
  rintro e M2 ⟨ls,x3,x4,x5,x6,x7,x8,x9,rfl,hll,hc,hm,st⟩
  walk_at "sim"
  rw[iP hm]
  walk_at "sim"
  exact⟨_,fun _ _ h=>h,k ls _ (by omega) (hc.l24 (by omega)) (st.del hl hlp)⟩
theorem ke(T:Txt K mg)(d:Df K mg "_law_pool" S9 ["cell"]):Fn P w K mg base "_law_pool" 1 ["cell"] oz:=by
 have sc:=jh
 refine h7 d sc (fun ds M R Y h=>?_) (fun f cdv A outer s H E ds M R Y hr h=>?_)
 ·obtain⟨c,rfl,_⟩:=h;rfl
 ·obtain⟨c,rfl,k⟩:=h
  refine⟨_,(d8 (d9 (bI (a9 (i0 (Dy rfl) rfl T.b_max yn (a9 d6 (a9 (e8 E5 (d4 0) (e8 rp d6 d6)) d5))) (a9 (e8 R9 (d4 0) (e8 rp d6 d6)) (a9 d6 d5)))))),?_⟩
  refine⟨_,rfl,_,_,rfl,rfl,Ic,_,rfl,_,_,rfl,_,rfl,_,_,rfl,rfl,Ic,_,_,rfl,rfl,(by show(0:Int)<10 ^ 18;decide),sl 3,fun p hp=>?_⟩
  exact k p _ hp (MK.new hp) ⟨_,_,_,g8⟩
theorem ET{f:Addr}{fd:FuncData}(T:Txt K mg)(d:BU K "law" vQ f fd)(Kw:Fn P w K mg base "_law_cells" 1 ["script","bound"] jL)(Ke:Fn P w K mg base "_law_right" 5 ["lines","p","q","told"] jF)(JV:Fn P w K mg base "_law_is_told" 3 ["found"] jH)(Lm:Fn P w K mg base "most" 7 ["lines","p","q"] jC)(Kx:Fn P w K mg base "most_right" 4 ["lines","p","q","told"] oV)(Kj:Fn P w K mg base "_law_is_free" 4 ["lines","p","q"] jI)(Ky:Fn P w K mg base "_law_asked" 4 ["pool","lines"] pf)(Jy:Fn P w K mg base "_law_next" 1 ["pool","base"] J8)(Kz:Fn P w K mg base "_law_lines" 5 ["pool","most_lines"] jE)(KJ:Fn P w K mg base "_law_pool" 1 ["cell"] oz):S1 P w K mg base CX0 8 f fd ["script"] (mh K qX):=by
 have sc:=Ec
 refine Dg d sc (fun ds M R Y h=>by obtain⟨n,rfl,_⟩:=h;rfl) (fun cdv A outer s H E ds M R Y hr h=>?_)
 obtain⟨ns,rfl,hlen,k⟩:=h
 have hu:=hr.units
 refine⟨_,(d7 (t9 PassesOwn.never rfl (m9 (jc Kw hr (a9 (d4 0) (a9 d6 d5)))) (jn 1 sc.nd) (d7 (jst 2 sc.nd (jc KJ hr (a9 (d4 1) d5))) (d7 (jst 3 sc.nd (jc Kz hr (a9 (d4 2) (a9 d6 d5)))) (N9 (f9 (jtm A2 (jc Jy hr (a9 (d4 2) (a9 d6 d5))) d6) (d7 (jst 4 sc.nd (e8 C3 d6 (jc Jy hr (a9 (d4 2) (a9 d6 d5))))) (d8 (Q7 (i:=3) [4] ["k"] ["around"] sc.nd rfl (Or.inl rfl) rfl (by decide +kernel) rfl (by decide +kernel) (by decide +kernel) rfl (X6 ⟨rfl,rfl⟩) (X6 (Or.inl rfl)) (de rfl T.b_range (a9 (d4 4) d5)) (fun _ _ _ _ _ _=>(jn 0 (show(["k","around"]:List Str).Nodup by decide +kernel))) (fun _ _ _ _ _ _=>p9) (fun _ _ _ _ _ _=>(g7 (a9 (g7 (a9 (d4 0) (a9 d6 d5))) (a9 (g7 (a9 (e8 E5 (d4 1) (d4 0)) (a9 d6 d5))) (a9 (g7 (a9 (e8 C3 d6 (e8 R9 (d4 0) d6)) (a9 d6 d5))) d5)))))))) f7) (d7 (u6 (jc Ky hr (a9 (d4 2) (a9 (d4 3) d5))) (o7 (n:=2) rfl (e5 (jn 5 sc.nd) (e5 (jn 6 sc.nd) j5)))) (d7 (jst 7 sc.nd (ny rfl T.b_list kO (a9 (d4 3) d5))) (d7 (jst 8 sc.nd (jc Lm hr (a9 (d4 7) (a9 (d4 5) (a9 (d4 6) d5))))) (d7 (f9 (jtm (mZ hu) (d4 7) (d4 3)) (d8 (d9 z9)) f7) (d7 (f9 (A4 (A5 (u7 (j8 (jc JV hr (a9 (d4 8) d5)))) (B6 (u7 (j8 (jc Ke hr (a9 (d4 3) (a9 (d4 5) (a9 (d4 6) (a9 (d4 8) d5)))))))))) (d8 (d9 z9)) f7) (d7 (f9 (A4 (A5 (jtm Hn (jm cg (jx (d4 8) d6) C9) (jc Kj hr (a9 (d4 3) (a9 (d4 5) (a9 (d4 6) d5))))) (B6 (jtm cY (jc Kx hr (a9 (d4 3) (a9 (d4 5) (a9 (d4 6) (a9 (d4 8) d5))))) z9)))) (d8 (d9 z9)) f7) (N9 (f9 (jtm cg (jx (d4 8) d6) C9) (d8 (U1 (nv PySem.F.slot_list_append PySem.F.type_list_append O1 (jx (d4 8) d6) (a9 Q8 d5)))) f7) (d7 (jst 9 sc.nd (jc Lm hr (a9 (Bs Fx rfl T.b_tuple U8 (a9 (d4 3) d5)) (a9 (d4 5) (a9 (d4 6) d5))))) (d8 (f9 (A4 (A5 (u7 (j8 (jc JV hr (a9 (d4 9) d5)))) (A5 (jtm (mZ hu) (ir (d4 9) J5 (J4 d6)) (ir (d4 8) J5 (J4 d6))) (B6 (u7 (j8 (jc Ke hr (a9 (d4 3) (a9 (d4 5) (a9 (d4 6) (a9 (d4 9) d5))))))))))) (d8 (d9 z9)) f7)))))))))))))) (d8 (d9 z9))),?_⟩
 walk_at "sim"
 refine⟨ns,4,rfl,⟨by decide,by decide⟩,rfl,by omega,fun ms hml=>?_⟩
 refine S0.by (fun i e M'=>∃ x1 x2 x3 x4 x5 x6 x7 x8 x9:Option D,e=[some (.vl (ns.map D.int)),x1,x2,x3,x4,x5,x6,x7,x8,x9]) ⟨_,_,_,_,_,_,_,_,_,rfl⟩ (fun i e M' _ _=>by simp only[t5]) ?_ ?_
 ·rintro i dd e M' hd ⟨x1,x2,x3,x4,x5,x6,x7,x8,x9,rfl⟩
  obtain⟨n,rfl⟩:∃ n:Int,dd = .int n:=by
   have hm:=MI hd
   obtain⟨n,_,rfl⟩:=MD.mp hm
   exact⟨n,rfl⟩
  walk_at "sim"
  refine fun p M1 hp mk hP=>⟨hP,fun ls0 M2 hl4 hlo s2=>?_⟩
  refine bO (fun e' M'=>∃(ls:List T3) (y4:Option D),e'=[some (D.vl (Ol D.int ns)),some (D.int n),some (D.ref p),some (D.vl (Ol f8 ls)),y4,x5,x6,x7,x8,x9]∧eY ls∧A9 M' p) ?_ ?_
  ·walk_at "sim"
   refine⟨s2.pool,by decide,fun r M3 r0 r8 s3=>⟨fun _=>⟨s3.pool,by decide,fun w M4 w0 w7 s4=>⟨⟨by omega,by omega⟩,?_⟩⟩,fun _=>⟨ls0,_,rfl,⟨by omega,hlo⟩,s3.pool⟩⟩⟩
   obtain⟨N,hN⟩:∃ N:Nat,6+w=(N:Int):=⟨(6+w).toNat,by omega⟩
   rw[hN,MY]
   refine t6 (xs:=NO N) (enc:=fun k:Nat=>D.int (0+(k:Int))) (fun k=>f8 (Ao N k)) (by rw[QB];omega) trivial (fun k hk Q hQ=>?_) ?_
   ·walk_at "sim"
    have e:f8 (Ao N k)=D.tup [D.tup [.int (k:Int),.int 1],D.tup [.int ((N:Int) - (k:Int)),.int 1],D.tup [.int (1+(k:Int) % 2),.int 1]]:=by
     show D.tup [e7 (((k:Int):Rat)),e7 ((((N:Int) - (k:Int):Int):Rat)),e7 (((1+(k:Int) % 2:Int):Rat))]=_
     rw[aR,aR,aR]
    rw[e]at hQ
    rw[Int.zero_add]
    exact hQ
   ·exact⟨(NO N).map (Ao N),_,by rw[NL];rfl,El (by omega) (by omega),s4.pool⟩
  ·rintro e' M3 ⟨ls,y4,rfl,hls,hP3⟩
   have lcl:clL 59 (Ol f8 ls)=true:=bL (k:=59) fun d hd=>by
    obtain⟨z,_,rfl⟩:=MD.mp hd
    rfl
   walk_at "sim"
   refine⟨⟨hP3,hls⟩,fun a b M4 ha hb s4=>⟨⟨hls.a,by omega,by omega⟩,?_⟩⟩
   have ok:=Bh hls.a.lo a b
   have msz:=(Bg hls ha hb).sz (by decide)
   have fy:∀ z,K6 ls a b = .free z→L4 ls a b=true:=fun z e=>xE hls.a.lo e
   have fn:∀ v z sh,K6 ls a b = .most v z sh→L4 ls a b=false:=fun v z sh e=>Bz hls.a.lo e
   generalize em:K6 ls a b=m0 at *
   cases m0 with
   | free z =>
    have td:sx M4 (D.tup [D.str "free",r9 z.1 z.2]) (.free z):=rfl
    have f1:=fy z rfl
    show _∧_
    refine⟨lcl,lcl,.free z,.inl ⟨z,rfl,rfl⟩,.free z,td,hls,⟨ha,hb⟩,msz,fun c=>(by rw[ok]at c;cases c),fun _=>?_⟩
    walk_at "sim"
    rw[f1]
    refine⟨⟨hls,ha,hb⟩,fun c=>absurd c (by decide),fun _=>⟨.free z,td,hls.a,⟨by omega,by omega⟩,msz,?_⟩⟩
    rw[ok,md (b:=true) rfl]
    walk_at "sim"
    refine bO (fun e' M'=>M'=M4∧∃ y9:Option D,e'=[some (D.vl (Ol D.int ns)),some (D.int n),some (D.ref p),some (D.vl (Ol f8 ls)),y4,some (e7 a),some (e7 b),some (D.vl (Ol f8 ls)),some (D.tup [D.str "free",r9 z.1 z.2]),y9]) ?_ ?_
    ·walk_at "sim"
     exact⟨fun c=>absurd c (by decide),fun _=>⟨_,rfl⟩⟩
    ·rintro e' M5 ⟨rfl,y9,rfl⟩
     walk_at "sim"
     refine⟨⟨hls.a,by omega,by omega⟩,?_⟩
     rw[em,show DL.O2 [D.str "free",r9 z.1 z.2] none (some 3)=[D.str "free",r9 z.1 z.2]from rfl]
     have c3:clL 59 [D.str "free",r9 z.1 z.2]=true:=bL (k:=59) fun d hd=>by
      simp only[Mv,MG,or_false]at hd
      rcases hd with rfl|rfl<;>first|rfl|decide +kernel
     refine⟨.free z,.inl ⟨z,rfl,rfl⟩,_,rfl,c3,c3,fun c=>absurd rfl c,fun _=>⟨.free z,rfl,hls,⟨ha,hb⟩,msz,fun c=>(by rw[ok]at c;cases c),fun _=>⟨_,_,_,_,_,_,_,_,_,rfl⟩⟩⟩
   | most v z sh =>
    intro l hl
    have f1:=fn v z sh rfl
    have td:sx (B5 M4 l (.lst (sh.map shD))) (D.tup [D.str "most",e7 v,r9 z.1 z.2,.ref l]) (.most v z sh):=⟨_,rfl,.inr (.inl ⟨l,rfl,g8⟩)⟩
    obtain⟨_,_,z20,_⟩:=msz.most v z sh rfl
    refine⟨lcl,lcl,.most v z sh,.inr ⟨v,z,sh,l,rfl,rfl,g8,z20⟩,.most v z sh,td,hls,⟨ha,hb⟩,msz,fun c=>(by rw[ok]at c;cases c),fun _=>?_⟩
    walk_at "sim"
    rw[f1]
    refine⟨⟨hls,ha,hb⟩,fun c=>absurd c (by decide),fun _=>⟨.most v z sh,td,hls.a,⟨by omega,by omega⟩,msz,?_⟩⟩
    rw[ok,md (b:=true) rfl]
    walk_at "sim"
    refine bO (fun e' M'=>∃ y9:Option D,e'=[some (D.vl (Ol D.int ns)),some (D.int n),some (D.ref p),some (D.vl (Ol f8 ls)),y4,some (e7 a),some (e7 b),some (D.vl (Ol f8 ls)),some (D.tup [D.str "most",e7 v,r9 z.1 z.2,.ref l]),y9]) ?_ ?_
    ·walk_at "sim"
     exact eZ g8 (fe g8 (by rw[MA];omega) ⟨_,rfl⟩)
    ·rintro e' M5 ⟨y9,rfl⟩
     walk_at "sim"
     refine⟨⟨hls.a,by omega,by omega⟩,?_⟩
     rw[em,show DL.O2 [D.str "most",e7 v,r9 z.1 z.2,D.ref l] none (some 3)=[D.str "most",e7 v,r9 z.1 z.2]from rfl]
     intro l2 hl2
     have c3:clL 59 [D.str "most",e7 v,r9 z.1 z.2]=true:=bL (k:=59) fun d hd=>by
      simp only[Mv,MG,or_false]at hd
      rcases hd with rfl|rfl|rfl<;>first|rfl|decide +kernel
     refine⟨.most v z sh,.inr ⟨v,z,sh,l2,rfl,rfl,g8,z20⟩,_,rfl,c3,c3,fun c=>absurd rfl c,fun _=>⟨.most v z sh,⟨_,rfl,.inr (.inl ⟨l2,rfl,g8⟩)⟩,hls,⟨ha,hb⟩,msz,fun c=>(by rw[ok]at c;cases c),fun _=>⟨_,_,_,_,_,_,_,_,_,rfl⟩⟩⟩
 ·rintro e M' ⟨x1,x2,x3,x4,x5,x6,x7,x8,x9,rfl⟩
  walk_at "sim"
  exact k _
end
end K24
namespace K24
open PySem PySem.Spec L2 DL GM
theorem FG{P:Program}{w:World}{K:Ms}{mg:Str→Option Value}{fa:Addr}(T:Txt K mg)(hfa:mg "law" = some (.ref fa))(Ln:Df K mg "_law_cells" P8 ["script","bound"])(LO:Df K mg "_law_low" Z7 ["top","bottom"])(LP:Df K mg "_law_sum" Z6 ["one","other"])(Lo:Df K mg "_law_taken" P5 ["one","other"])(LB:Df K mg "_law_bare" T4 ["one"])(Lp:Df K mg "_law_added" Q1 ["lines","shares"])(KQ:Df K mg "_law_are_shares" D8 ["lines","shares"])(Lq:Df K mg "_law_worth" P4 ["p","q","ray"])(Lr:Df K mg "_law_below" P9 ["one","other"])(LC:Df K mg "_law_lets" T2 ["lines","ray"])(Ls:Df K mg "_law_right" P6 ["lines","p","q","told"])(KY:Df K mg "_law_is_ratio" G4 ["found"])(KU:Df K mg "_law_is_shares" E9 ["found"])(Le:Df K mg "_law_is_ray" L9 ["found"])(Lb:Df K mg "_law_is_told" K0 ["found"])(LZ:Df K mg "divisor" bz ["one","other"])(LQ:Df K mg "is_whole" Z3 ["thing"])(Md:Df K mg "ratio" jq ["top","bottom"])(LR:Df K mg "veer" dY ["one","other"])(Mb:Df K mg "met_at" dZ ["one","other"])(Mc:Df K mg "facing" ee ["side"])(Lc:Df K mg "sides_around" J9 ["half","wanted"])(KW:Df K mg "tops_over" L0 ["ratios","bottom"])(KA:Df K mg "common_bottom" D4 ["ratios"])(Lf:Df K mg "most_around" L7 ["half","p","q"])(Me:Df K mg "times" jo ["one","other"])(Mf:Df K mg "grown" js ["ray","share"])(Mj:Df K mg "over" oO ["one","other"])(LD:Df K mg "sum_by" aw ["p","q","ray"])(LS:Df K mg "value_of" Y9 ["p","q","ray"])(LU:Df K mg "unsigned" Z0 ["one"])(LV:Df K mg "opposite" Z2 ["one"])(Mk:Df K mg "plus" oN ["one","other"])(Mg:Df K mg "minus" jr ["one","other"])(Mh:Df K mg "cross" jt ["one","other"])(Lu:Df K mg "most_along" P1 ["lines","number","p","q"])(Ml:Df K mg "turn" oK ["one","other","third"])(LF:Df K mg "next_side" S6 ["sides","here"])(LG:Df K mg "juts_more" S7 ["one","other"])(LH:Df K mg "outermost" S5 ["sides"])(LW:Df K mg "sides_of" Z1 ["lines"])(LX:Df K mg "half_rim" Z4 ["lines"])(Mm:Df K mg "most" oP ["lines","p","q"])(Mn:Df K mg "same" oM ["one","other"])(Mi:Df K mg "added" ju ["lines","shares"])(Lv:Df K mg "are_shares" P3 ["lines","shares"])(LY:Df K mg "bound_by" Z5 ["lines","shares","p","q"])(Ma:Df K mg "lets_by" bx ["line","ray"])(Mo:Df K mg "lets" oQ ["lines","ray"])(Lw:Df K mg "free_right" P2 ["lines","p","q","ray"])(Ly:Df K mg "most_right" P0 ["lines","p","q","told"])(KR:Df K mg "_law_along" I0 ["one","other"])(Ld:Df K mg "_law_is_free" K1 ["lines","p","q"])(LI:Df K mg "_law_next" T0 ["pool","base"])(LJ:Df K mg "_law_wide" S8 ["pool","base"])(Lg:Df K mg "_law_number" L8 ["pool"])(Lz:Df K mg "_law_asked" Q0 ["pool","lines"])(LK:Df K mg "_law_line" T1 ["pool"])(LA:Df K mg "_law_lines" P7 ["pool","most_lines"])(LL:Df K mg "_law_pool" S9 ["cell"])(Mp:DfL K mg "law" vQ ["script"]) :
  ∃ fd:FuncData,(∀(s:Shared) (u:Value),BindsTo s fd ⟨[u],[]⟩ [("script",u)])∧∀ base:Heap,S1 P w K mg base CX0 8 fa fd ["script"] (mh K qX):=by
 obtain⟨f,fd,F,hm,hb⟩:=Mp.ex
 have e:f=fa:=by rw[hm]at hfa;injection hfa with z;injection z
 subst e
 refine⟨fd,fun s u=>.of_eq (hb [u] rfl),fun base=>?_⟩
 have Kw:=fP (P:=P) (w:=w) (base:=base) T Ln
 have JB:=mY (P:=P) (w:=w) (base:=base) T LO
 have JD:=mX (P:=P) (w:=w) (base:=base) T LP JB
 have Jz:=fM (P:=P) (w:=w) (base:=base) T Lo JB
 have JR:=kl (P:=P) (w:=w) (base:=base) T LB
 have Kc:=fU (P:=P) (w:=w) (base:=base) T Lp JD Jz JR
 have JM:=Z8 (P:=P) (w:=w) (base:=base) T KQ
 have JF:=fL (P:=P) (w:=w) (base:=base) T Lq JD Jz
 have Kq:=fQ (P:=P) (w:=w) (base:=base) T Lr
 have Kk:=kj (P:=P) (w:=w) (base:=base) T LC Kq JR JF
 have Ke:=fN (P:=P) (w:=w) (base:=base) T Ls Kc JM JF Kk
 have JC:=bC (P:=P) (w:=w) (base:=base) T KY
 have JX:=aT (P:=P) (w:=w) (base:=base) T KU JC
 have JZ:=eF (P:=P) (w:=w) (base:=base) T Le JC
 have JV:=cB (P:=P) (w:=w) (base:=base) T Lb JX JZ JC
 have JN:=pD (P:=P) (w:=w) (base:=base) T LZ
 have Kr:=mU (P:=P) (w:=w) (base:=base) T LQ
 have JH:=wK (P:=P) (w:=w) (base:=base) T Md Kr JN
 have JL:=AU (P:=P) (w:=w) (base:=base) T LR
 have KZ:=sY (P:=P) (w:=w) (base:=base) T Mb JH JL
 have Kg:=pB (P:=P) (w:=w) (base:=base) T LR
 have Kf:=pA (P:=P) (w:=w) (base:=base) T LR
 have Kp:=sZ (P:=P) (w:=w) (base:=base) T Mc
 have Kh:=cA (P:=P) (w:=w) (base:=base) T Lc Kf Kg Kp
 have Ki:=cz (P:=P) (w:=w) (base:=base) T KW
 have JP:=X4 (P:=P) (w:=w) (base:=base) T KA JN
 have Kn:=eD (P:=P) (w:=w) (base:=base) T Lf KZ JH JL Kg Kf Kh Ki JP
 have JU:=wJ (P:=P) (w:=w) (base:=base) T Me JH
 have Li:=wM (P:=P) (w:=w) (base:=base) T Mf JU
 have La:=AY (P:=P) (w:=w) (base:=base) T Mj JH
 have JK:=sX (P:=P) (w:=w) (base:=base) T LD
 have KN:=mQ (P:=P) (w:=w) (base:=base) T LS JH JK
 have JY:=mR (P:=P) (w:=w) (base:=base) T LU
 have JQ:=mT (P:=P) (w:=w) (base:=base) T LV
 have LM:=AX (P:=P) (w:=w) (base:=base) T Mk JH
 have Lh:=wL (P:=P) (w:=w) (base:=base) T Mg LM JQ
 have Lj:=wN (P:=P) (w:=w) (base:=base) T Mh Lh JU
 have Ks:=fH (P:=P) (w:=w) (base:=base) T Lu Li La KN JU JY JQ Lj
 have LN:=AV (P:=P) (w:=w) (base:=base) T Ml JL
 have Kl:=jY (P:=P) (w:=w) (base:=base) T LF JL LN
 have KC:=jZ (P:=P) (w:=w) (base:=base) T LG
 have KG:=jX (P:=P) (w:=w) (base:=base) T LH KC
 have KD:=jV (P:=P) (w:=w) (base:=base) T KW
 have Ka:=bB (P:=P) (w:=w) (base:=base) T KA JN
 have KO:=mS (P:=P) (w:=w) (base:=base) T LW Kp KD Ka
 have KP:=mV (P:=P) (w:=w) (base:=base) T LX JL Kl KG KO
 have Lm:=AZ (P:=P) (w:=w) (base:=base) T Mm Kn Ks KP
 have Ko:=AW (P:=P) (w:=w) (base:=base) T Mn
 have KH:=jW (P:=P) (w:=w) (base:=base) T LD
 have Lk:=wO (P:=P) (w:=w) (base:=base) T Mi KH JY
 have Kt:=fK (P:=P) (w:=w) (base:=base) T Lv
 have Ku:=mW (P:=P) (w:=w) (base:=base) T LY Ko Lk Kt
 have KS:=pC (P:=P) (w:=w) (base:=base) T Ma JK
 have Ll:=Ba (P:=P) (w:=w) (base:=base) T Mo KS
 have Kd:=fJ (P:=P) (w:=w) (base:=base) T Lw JK
 have Kx:=fG (P:=P) (w:=w) (base:=base) T Ly Ko Ku JK Ll Kd
 have Kb:=bD (P:=P) (w:=w) (base:=base) T KR Jz
 have Kv:=fT (P:=P) (w:=w) (base:=base) T KR Jz
 have Kj:=cC (P:=P) (w:=w) (base:=base) T Ld Kb Kv
 have Jy:=kg (P:=P) (w:=w) (base:=base) T LI
 have Km:=kc (P:=P) (w:=w) (base:=base) T LJ Jy
 have JJ:=eE (P:=P) (w:=w) (base:=base) T Lg JB Km Jy
 have Ky:=fR (P:=P) (w:=w) (base:=base) T Lz JD Jy Jz JB JJ
 have KI:=ki (P:=P) (w:=w) (base:=base) T LK JB Jy JJ
 have Kz:=fO (P:=P) (w:=w) (base:=base) T LA Jy JD Jz JB KI
 have KJ:=ke (P:=P) (w:=w) (base:=base) T LL
 exact ET T F Kw Ke JV Lm Kx Kj Ky Jy Kz KJ
theorem oh{l:PySem.W.OpenLaw}{q:Program}{loose:List Str}{XP:(Str→Option Value)→Heap→Prop}{YP:World→Heap→Prop}{d:DefRec}{K:Params→Ms}(hn:l.most=some 63)(hdf:d.params.defaults=[])
  (hY:∀(w:World) (h:Heap),YP w h→(K w.params).In h)
  (F:∀(w:World) (mg:Str→Option Value) (fa:Addr) (h:Heap),(K w.params).In h→h.Ns mainGlobals mg→mg d.name=some (.ref fa) →
   ∃ fd:FuncData,(∀(s:Shared) (u:Value),BindsTo s fd ⟨[u],[]⟩ [("script",u)])∧∀ base:Heap,S1 l.prog w (K w.params) mg base CX0 8 fa fd ["script"] (mh (K w.params) qX)) :
  PySem.W.WalkO q loose XP YP l.row.toRowW d [] (fun f vs=>PySem.call f vs) :=
 L2.uZ (n:=63) (k:=8) (x := "script") (CX:=CX0) (sp:=fun K=>mh K qX) hn (by decide) hdf ⟨rfl,by decide,by decide⟩ hY (fun w mg fa h a b c=>let ⟨fd,h1,h2⟩:=F w mg fa h a b c;⟨fd,h1,fun base _ _=>h2 base⟩)
  (fun K H a ns hl hO hS=>EY hO hS ⟨ns,rfl,hl,fun _=>rfl⟩) fun _ _ _ _ z=>z
end K24
namespace PySem.W.Fast
theorem te10969205821002220170:True:=trivial
theorem tw9397198154041357717:True:=⟨⟩
theorem tw14821849275781376053:True:=⟨⟩
theorem tw8879321686144956787:True:=⟨⟩
theorem tw6896005709657168847:True:=⟨⟩
theorem tw16602312556509334655:True:=⟨⟩
theorem tw10864814399553832279:True:=⟨⟩
theorem tw4154000473851718425:True:=⟨⟩
theorem tw16341530067764798929:True:=⟨⟩
theorem tw8994797647620796848:True:=⟨⟩
theorem tw14438709338387447425:True:=⟨⟩
theorem tw9179256456227642877:True:=⟨⟩
theorem tw3949499102224240036:True:=⟨⟩
theorem tw7862930472407076811:True:=⟨⟩
theorem tw8478378957480636798:True:=⟨⟩
theorem tw102442567936656730:True:=⟨⟩
theorem tw11219397442976567524:True:=⟨⟩
theorem tw754124752304642218:True:=⟨⟩
theorem tw735650216264692144:True:=⟨⟩
theorem tw13712595959477622866:True:=⟨⟩
theorem tw31435403932838042:True:=⟨⟩
theorem tw10107004887076600874:True:=⟨⟩
theorem tw14642276459607593990:True:=⟨⟩
theorem tw16632737012433390613:True:=⟨⟩
theorem tw18025448867538710899:True:=⟨⟩
theorem tw5568040726411899432:True:=⟨⟩
theorem tw11523995749958407988:True:=⟨⟩
theorem tw17230397907077776124:True:=⟨⟩
theorem tw6414256814012710840:True:=⟨⟩
theorem tw14084578111203383471:True:=⟨⟩
theorem tw10013896192753725930:True:=⟨⟩
theorem tw8559370023901984137:True:=⟨⟩
theorem tw1376722173684514005:True:=⟨⟩
theorem tw11353110039244216166:True:=⟨⟩
theorem tw12081706714696127821:True:=⟨⟩
theorem tw839320673422921863:True:=⟨⟩
theorem tw1457892256996854175:True:=⟨⟩
theorem tw9453151468702265466:True:=⟨⟩
theorem tw17811121139500822018:True:=⟨⟩
theorem tw3368973159144350158:True:=⟨⟩
theorem tw12244570329575118185:True:=⟨⟩
theorem tw11774089939685288398:True:=⟨⟩
theorem tw16834016205758709800:True:=⟨⟩
theorem tw5784341662719138283:True:=⟨⟩
theorem tw11746446956995574701:True:=⟨⟩
theorem tw3785914390533574028:True:=⟨⟩
theorem tw18378112994362296595:True:=⟨⟩
theorem tw13989103809001601784:True:=⟨⟩
theorem tw12484698968990479142:True:=⟨⟩
theorem tw16983793787715629857:True:=⟨⟩
theorem tw576294776360462911:True:=⟨⟩
theorem tw3488610045400603609:True:=⟨⟩
theorem tw15562141220080110649:True:=⟨⟩
theorem tw10498915131581688239:True:=⟨⟩
theorem tw13985134495128290411:True:=⟨⟩
theorem tw14206872103212542190:True:=⟨⟩
theorem tw1513529386753283730:True:=⟨⟩
theorem tw2475208437253829388:True:=⟨⟩
theorem tw11773859385606126902:True:=⟨⟩
theorem tw12040635398997136994:True:=⟨⟩
theorem tw341531758469756094:True:=⟨⟩
theorem tw18034974631781496738:True:=⟨⟩
theorem tw2017103719922438785:True:=⟨⟩
theorem tw8660194338132121784:True:=⟨⟩
theorem tw6157378826604127918:True:=⟨⟩
theorem tw17652142962717296660:True:=⟨⟩
theorem tw5137774233747841114:True:=⟨⟩
theorem tw4346176844922345040:True:=⟨⟩
theorem tw7866704520955820853:True:=⟨⟩
theorem tw4791802712267441329:True:=⟨⟩
theorem tw133694416007056691:True:=⟨⟩
theorem tw12317543477065070694:True:=⟨⟩
theorem tw8257740789589532872:True:=⟨⟩
theorem tw12231937056574574489:True:=⟨⟩
theorem tw8959233555124397669:True:=⟨⟩
theorem tw18208494091458573480:True:=⟨⟩
theorem tw10041298295552883905:True:=⟨⟩
theorem tw12023881229788293293:True:=⟨⟩
theorem tw1614957945753630016:True:=⟨⟩
theorem tw700580052597151604:True:=⟨⟩
theorem tw1165958164863850844:True:=⟨⟩
theorem tw16391699651166997152:True:=⟨⟩
theorem tw6407462047786606780:True:=⟨⟩
theorem tw18246703777580014535:True:=⟨⟩
theorem tw9082253248910932467:True:=⟨⟩
theorem tw13400916620963880595:True:=⟨⟩
theorem tw18023851805472925439:True:=⟨⟩
theorem tw2396693589756734757:True:=⟨⟩
theorem tw18256948996617609537:True:=⟨⟩
theorem tw3730965978010416852:True:=⟨⟩
theorem tw10945494126183971204:True:=⟨⟩
theorem tw15101095733917235719:True:=⟨⟩
theorem tw5492267873029543831:True:=⟨⟩
theorem tw13557077244987954759:True:=⟨⟩
theorem tw1600882725260699696:True:=⟨⟩
theorem tw5039468892837292033:True:=⟨⟩
theorem tw18104514935273999806:True:=⟨⟩
theorem tw13303652625385161620:True:=⟨⟩
theorem tw5827705437776816437:True:=⟨⟩
theorem tw8965476165896794793:True:=⟨⟩
theorem tw3340031058296150830:True:=⟨⟩
theorem tw1126083858612195268:True:=⟨⟩
theorem tw5152258274710521142:True:=⟨⟩
theorem tw12149995707065420810:True:=⟨⟩
theorem tw1163540134236563826:True:=⟨⟩
theorem tw7731093129430175283:True:=⟨⟩
theorem tw179284529819239082:True:=⟨⟩
theorem tw14780633665724750521:True:=⟨⟩
theorem tw16335860648552585079:True:=⟨⟩
theorem tw14310666255013729720:True:=⟨⟩
theorem tw3579503163695387437:True:=⟨⟩
theorem tw2290775074181039333:True:=⟨⟩
theorem tw12722532006540059127:True:=⟨⟩
theorem tw4055137416316029791:True:=⟨⟩
theorem tw465062554216347599:True:=⟨⟩
theorem tw14314537267478280410:True:=⟨⟩
theorem tw9016929050514031043:True:=⟨⟩
theorem tw6340309097142126981:True:=⟨⟩
theorem tw4399660397373444307:True:=⟨⟩
theorem tw14015276285837205687:True:=⟨⟩
theorem tw14166700280574222522:True:=⟨⟩
theorem tw8644311711480226480:True:=⟨⟩
theorem tw9449617810967725779:True:=⟨⟩
theorem tw389836397274076607:True:=⟨⟩
theorem tw8600552572664392935:True:=⟨⟩
theorem tw13160957616857896206:True:=⟨⟩
theorem tw9233583809855236470:True:=⟨⟩
theorem tw350677935463457832:True:=⟨⟩
theorem tw18199911836670388370:True:=⟨⟩
theorem tw1367367728866673808:True:=⟨⟩
theorem tw11301713361149585851:True:=⟨⟩
theorem tw3662377355822799117:True:=⟨⟩
theorem tw3390485577673087081:True:=⟨⟩
theorem tw835926941631634371:True:=⟨⟩
end PySem.W.Fast
open PySem PySem.W PyProof.Rows
set_option maxRecDepth 100000 in
set_option maxHeartbeats 0 in
theorem PySem.Challenge.cw_roundglass_k24_most_told_holds : PySem.Challenge.rw_roundglass_k24_most_told.Holds := by
 w_on;o_law;k_head;(case hw=>w_witness2)
 k_fill
 refine K24.oh (l:=PySem.Challenge.rw_roundglass_k24_most_told) rfl rfl (fun w h Y=>PySem.W.kIn_of Y) ?F
 case F =>
  intro w mg fa h KX G hmg
  refine' K24.FG ⟨PySem.W.mg_none_of KX G ?z_abs,PySem.W.mg_none_of KX G ?z_all,PySem.W.mg_none_of KX G ?z_any,PySem.W.mg_none_of KX G ?z_bool,PySem.W.mg_none_of KX G ?z_enumerate,PySem.W.mg_none_of KX G ?z_int,PySem.W.mg_none_of KX G ?z_isinstance,PySem.W.mg_none_of KX G ?z_len,PySem.W.mg_none_of KX G ?z_list,PySem.W.mg_none_of KX G ?z_max,PySem.W.mg_none_of KX G ?z_min,PySem.W.mg_none_of KX G ?z_range,PySem.W.mg_none_of KX G ?z_set,PySem.W.mg_none_of KX G ?z_sorted,PySem.W.mg_none_of KX G ?z_tuple,PySem.W.mg_none_of KX G ?z_zip,DL.GQ _,DL.Fg KX G ?c0_MOST_SHARES,DL.rK KX G ?c0_NOUGHT ?c1_NOUGHT,DL.rK KX G ?c0_ONE ?c1_ONE⟩ hmg (DL.i4 KX G ?n0 ?l0 ?c0 ?k0 ?b0) (DL.i4 KX G ?n1 ?l1 ?c1 ?k1 ?b1) (DL.i4 KX G ?n2 ?l2 ?c2 ?k2 ?b2) (DL.i4 KX G ?n3 ?l3 ?c3 ?k3 ?b3) (DL.i4 KX G ?n4 ?l4 ?c4 ?k4 ?b4) (DL.i4 KX G ?n5 ?l5 ?c5 ?k5 ?b5) (DL.i4 KX G ?n6 ?l6 ?c6 ?k6 ?b6) (DL.i4 KX G ?n7 ?l7 ?c7 ?k7 ?b7) (DL.i4 KX G ?n8 ?l8 ?c8 ?k8 ?b8) (DL.i4 KX G ?n9 ?l9 ?c9 ?k9 ?b9) (DL.i4 KX G ?n10 ?l10 ?c10 ?k10 ?b10) (DL.i4 KX G ?n11 ?l11 ?c11 ?k11 ?b11) (DL.i4 KX G ?n12 ?l12 ?c12 ?k12 ?b12) (DL.i4 KX G ?n13 ?l13 ?c13 ?k13 ?b13) (DL.i4 KX G ?n14 ?l14 ?c14 ?k14 ?b14) (DL.i4 KX G ?n15 ?l15 ?c15 ?k15 ?b15) (DL.i4 KX G ?n16 ?l16 ?c16 ?k16 ?b16) (DL.Fp KX G ?n17 ?l17 ?c17 ?k17 ?b17) (DL.i4 KX G ?n18 ?l18 ?c18 ?k18 ?b18) (DL.i4 KX G ?n19 ?l19 ?c19 ?k19 ?b19) (DL.i4 KX G ?n20 ?l20 ?c20 ?k20 ?b20) (DL.i4 KX G ?n21 ?l21 ?c21 ?k21 ?b21) (DL.i4 KX G ?n22 ?l22 ?c22 ?k22 ?b22) (DL.i4 KX G ?n23 ?l23 ?c23 ?k23 ?b23) (DL.i4 KX G ?n24 ?l24 ?c24 ?k24 ?b24) (DL.i4 KX G ?n25 ?l25 ?c25 ?k25 ?b25) (DL.i4 KX G ?n26 ?l26 ?c26 ?k26 ?b26) (DL.i4 KX G ?n27 ?l27 ?c27 ?k27 ?b27) (DL.i4 KX G ?n28 ?l28 ?c28 ?k28 ?b28) (DL.i4 KX G ?n29 ?l29 ?c29 ?k29 ?b29) (DL.i4 KX G ?n30 ?l30 ?c30 ?k30 ?b30) (DL.i4 KX G ?n31 ?l31 ?c31 ?k31 ?b31) (DL.i4 KX G ?n32 ?l32 ?c32 ?k32 ?b32) (DL.i4 KX G ?n33 ?l33 ?c33 ?k33 ?b33) (DL.i4 KX G ?n34 ?l34 ?c34 ?k34 ?b34) (DL.i4 KX G ?n35 ?l35 ?c35 ?k35 ?b35) (DL.i4 KX G ?n36 ?l36 ?c36 ?k36 ?b36) (DL.i4 KX G ?n37 ?l37 ?c37 ?k37 ?b37) (DL.i4 KX G ?n38 ?l38 ?c38 ?k38 ?b38) (DL.i4 KX G ?n39 ?l39 ?c39 ?k39 ?b39) (DL.i4 KX G ?n40 ?l40 ?c40 ?k40 ?b40) (DL.i4 KX G ?n41 ?l41 ?c41 ?k41 ?b41) (DL.i4 KX G ?n42 ?l42 ?c42 ?k42 ?b42) (DL.i4 KX G ?n43 ?l43 ?c43 ?k43 ?b43) (DL.i4 KX G ?n44 ?l44 ?c44 ?k44 ?b44) (DL.i4 KX G ?n45 ?l45 ?c45 ?k45 ?b45) (DL.i4 KX G ?n46 ?l46 ?c46 ?k46 ?b46) (DL.i4 KX G ?n47 ?l47 ?c47 ?k47 ?b47) (DL.i4 KX G ?n48 ?l48 ?c48 ?k48 ?b48) (DL.i4 KX G ?n49 ?l49 ?c49 ?k49 ?b49) (DL.i4 KX G ?n50 ?l50 ?c50 ?k50 ?b50) (DL.i4 KX G ?n51 ?l51 ?c51 ?k51 ?b51) (DL.i4 KX G ?n52 ?l52 ?c52 ?k52 ?b52) (DL.i4 KX G ?n53 ?l53 ?c53 ?k53 ?b53) (DL.i4 KX G ?n54 ?l54 ?c54 ?k54 ?b54) (DL.i4 KX G ?n55 ?l55 ?c55 ?k55 ?b55) (DL.i4 KX G ?n56 ?l56 ?c56 ?k56 ?b56) (DL.i4 KX G ?n57 ?l57 ?c57 ?k57 ?b57) (DL.i4 KX G ?n58 ?l58 ?c58 ?k58 ?b58) (DL.i4 KX G ?n59 ?l59 ?c59 ?k59 ?b59) (DL.Fo KX G ?n60 ?l60 ?c60 ?k60 ?b60)
  (case n0=>k_is);(case l0=>k_is);(case c0=>k_is);(case k0=>k_is);(case b0=>(intro us hl;exact match us,hl with|[_,_],_=>rfl))
  (case n1=>k_is);(case l1=>k_is);(case c1=>k_is);(case k1=>k_is);(case b1=>(intro us hl;exact match us,hl with|[_,_],_=>rfl))
  (case n2=>k_is);(case l2=>k_is);(case c2=>k_is);(case k2=>k_is);(case b2=>(intro us hl;exact match us,hl with|[_,_],_=>rfl))
  (case n3=>k_is);(case l3=>k_is);(case c3=>k_is);(case k3=>k_is);(case b3=>(intro us hl;exact match us,hl with|[_,_],_=>rfl))
  (case n4=>k_is);(case l4=>k_is);(case c4=>k_is);(case k4=>k_is);(case b4=>(intro us hl;exact match us,hl with|[_],_=>rfl))
  (case n5=>k_is);(case l5=>k_is);(case c5=>k_is);(case k5=>k_is);(case b5=>(intro us hl;exact match us,hl with|[_,_],_=>rfl))
  (case n6=>k_is);(case l6=>k_is);(case c6=>k_is);(case k6=>k_is);(case b6=>(intro us hl;exact match us,hl with|[_,_],_=>rfl))
  (case n7=>k_is);(case l7=>k_is);(case c7=>k_is);(case k7=>k_is);(case b7=>(intro us hl;exact match us,hl with|[_,_,_],_=>rfl))
  (case n8=>k_is);(case l8=>k_is);(case c8=>k_is);(case k8=>k_is);(case b8=>(intro us hl;exact match us,hl with|[_,_],_=>rfl))
  (case n9=>k_is);(case l9=>k_is);(case c9=>k_is);(case k9=>k_is);(case b9=>(intro us hl;exact match us,hl with|[_,_],_=>rfl))
  (case n10=>k_is);(case l10=>k_is);(case c10=>k_is);(case k10=>k_is);(case b10=>(intro us hl;exact match us,hl with|[_,_,_,_],_=>rfl))
  (case n11=>k_is);(case l11=>k_is);(case c11=>k_is);(case k11=>k_is);(case b11=>(intro us hl;exact match us,hl with|[_],_=>rfl))
  (case n12=>k_is);(case l12=>k_is);(case c12=>k_is);(case k12=>k_is);(case b12=>(intro us hl;exact match us,hl with|[_],_=>rfl))
  (case n13=>k_is);(case l13=>k_is);(case c13=>k_is);(case k13=>k_is);(case b13=>(intro us hl;exact match us,hl with|[_],_=>rfl))
  (case n14=>k_is);(case l14=>k_is);(case c14=>k_is);(case k14=>k_is);(case b14=>(intro us hl;exact match us,hl with|[_],_=>rfl))
  (case n15=>k_is);(case l15=>k_is);(case c15=>k_is);(case k15=>k_is);(case b15=>(intro us hl;exact match us,hl with|[_,_],_=>rfl))
  (case n16=>k_is);(case l16=>k_is);(case c16=>k_is);(case k16=>k_is);(case b16=>(intro us hl;exact match us,hl with|[_],_=>rfl))
  (case n17=>k_is);(case l17=>k_is);(case c17=>k_is);(case k17=>k_is);(case b17=>(intro us hl S;exact match us,hl with|[_,_],_=>rfl))
  (case n18=>k_is);(case l18=>k_is);(case c18=>k_is);(case k18=>k_is);(case b18=>(intro us hl;exact match us,hl with|[_,_],_=>rfl))
  (case n19=>k_is);(case l19=>k_is);(case c19=>k_is);(case k19=>k_is);(case b19=>(intro us hl;exact match us,hl with|[_,_],_=>rfl))
  (case n20=>k_is);(case l20=>k_is);(case c20=>k_is);(case k20=>k_is);(case b20=>(intro us hl;exact match us,hl with|[_],_=>rfl))
  (case n21=>k_is);(case l21=>k_is);(case c21=>k_is);(case k21=>k_is);(case b21=>(intro us hl;exact match us,hl with|[_,_],_=>rfl))
  (case n22=>k_is);(case l22=>k_is);(case c22=>k_is);(case k22=>k_is);(case b22=>(intro us hl;exact match us,hl with|[_,_],_=>rfl))
  (case n23=>k_is);(case l23=>k_is);(case c23=>k_is);(case k23=>k_is);(case b23=>(intro us hl;exact match us,hl with|[_],_=>rfl))
  (case n24=>k_is);(case l24=>k_is);(case c24=>k_is);(case k24=>k_is);(case b24=>(intro us hl;exact match us,hl with|[_,_,_],_=>rfl))
  (case n25=>k_is);(case l25=>k_is);(case c25=>k_is);(case k25=>k_is);(case b25=>(intro us hl;exact match us,hl with|[_,_],_=>rfl))
  (case n26=>k_is);(case l26=>k_is);(case c26=>k_is);(case k26=>k_is);(case b26=>(intro us hl;exact match us,hl with|[_,_],_=>rfl))
  (case n27=>k_is);(case l27=>k_is);(case c27=>k_is);(case k27=>k_is);(case b27=>(intro us hl;exact match us,hl with|[_,_],_=>rfl))
  (case n28=>k_is);(case l28=>k_is);(case c28=>k_is);(case k28=>k_is);(case b28=>(intro us hl;exact match us,hl with|[_,_,_],_=>rfl))
  (case n29=>k_is);(case l29=>k_is);(case c29=>k_is);(case k29=>k_is);(case b29=>(intro us hl;exact match us,hl with|[_,_,_],_=>rfl))
  (case n30=>k_is);(case l30=>k_is);(case c30=>k_is);(case k30=>k_is);(case b30=>(intro us hl;exact match us,hl with|[_],_=>rfl))
  (case n31=>k_is);(case l31=>k_is);(case c31=>k_is);(case k31=>k_is);(case b31=>(intro us hl;exact match us,hl with|[_],_=>rfl))
  (case n32=>k_is);(case l32=>k_is);(case c32=>k_is);(case k32=>k_is);(case b32=>(intro us hl;exact match us,hl with|[_,_],_=>rfl))
  (case n33=>k_is);(case l33=>k_is);(case c33=>k_is);(case k33=>k_is);(case b33=>(intro us hl;exact match us,hl with|[_,_],_=>rfl))
  (case n34=>k_is);(case l34=>k_is);(case c34=>k_is);(case k34=>k_is);(case b34=>(intro us hl;exact match us,hl with|[_,_],_=>rfl))
  (case n35=>k_is);(case l35=>k_is);(case c35=>k_is);(case k35=>k_is);(case b35=>(intro us hl;exact match us,hl with|[_,_,_,_],_=>rfl))
  (case n36=>k_is);(case l36=>k_is);(case c36=>k_is);(case k36=>k_is);(case b36=>(intro us hl;exact match us,hl with|[_,_,_],_=>rfl))
  (case n37=>k_is);(case l37=>k_is);(case c37=>k_is);(case k37=>k_is);(case b37=>(intro us hl;exact match us,hl with|[_,_],_=>rfl))
  (case n38=>k_is);(case l38=>k_is);(case c38=>k_is);(case k38=>k_is);(case b38=>(intro us hl;exact match us,hl with|[_,_],_=>rfl))
  (case n39=>k_is);(case l39=>k_is);(case c39=>k_is);(case k39=>k_is);(case b39=>(intro us hl;exact match us,hl with|[_],_=>rfl))
  (case n40=>k_is);(case l40=>k_is);(case c40=>k_is);(case k40=>k_is);(case b40=>(intro us hl;exact match us,hl with|[_],_=>rfl))
  (case n41=>k_is);(case l41=>k_is);(case c41=>k_is);(case k41=>k_is);(case b41=>(intro us hl;exact match us,hl with|[_],_=>rfl))
  (case n42=>k_is);(case l42=>k_is);(case c42=>k_is);(case k42=>k_is);(case b42=>(intro us hl;exact match us,hl with|[_,_,_],_=>rfl))
  (case n43=>k_is);(case l43=>k_is);(case c43=>k_is);(case k43=>k_is);(case b43=>(intro us hl;exact match us,hl with|[_,_],_=>rfl))
  (case n44=>k_is);(case l44=>k_is);(case c44=>k_is);(case k44=>k_is);(case b44=>(intro us hl;exact match us,hl with|[_,_],_=>rfl))
  (case n45=>k_is);(case l45=>k_is);(case c45=>k_is);(case k45=>k_is);(case b45=>(intro us hl;exact match us,hl with|[_,_],_=>rfl))
  (case n46=>k_is);(case l46=>k_is);(case c46=>k_is);(case k46=>k_is);(case b46=>(intro us hl;exact match us,hl with|[_,_,_,_],_=>rfl))
  (case n47=>k_is);(case l47=>k_is);(case c47=>k_is);(case k47=>k_is);(case b47=>(intro us hl;exact match us,hl with|[_,_],_=>rfl))
  (case n48=>k_is);(case l48=>k_is);(case c48=>k_is);(case k48=>k_is);(case b48=>(intro us hl;exact match us,hl with|[_,_],_=>rfl))
  (case n49=>k_is);(case l49=>k_is);(case c49=>k_is);(case k49=>k_is);(case b49=>(intro us hl;exact match us,hl with|[_,_,_,_],_=>rfl))
  (case n50=>k_is);(case l50=>k_is);(case c50=>k_is);(case k50=>k_is);(case b50=>(intro us hl;exact match us,hl with|[_,_,_,_],_=>rfl))
  (case n51=>k_is);(case l51=>k_is);(case c51=>k_is);(case k51=>k_is);(case b51=>(intro us hl;exact match us,hl with|[_,_],_=>rfl))
  (case n52=>k_is);(case l52=>k_is);(case c52=>k_is);(case k52=>k_is);(case b52=>(intro us hl;exact match us,hl with|[_,_,_],_=>rfl))
  (case n53=>k_is);(case l53=>k_is);(case c53=>k_is);(case k53=>k_is);(case b53=>(intro us hl;exact match us,hl with|[_,_],_=>rfl))
  (case n54=>k_is);(case l54=>k_is);(case c54=>k_is);(case k54=>k_is);(case b54=>(intro us hl;exact match us,hl with|[_,_],_=>rfl))
  (case n55=>k_is);(case l55=>k_is);(case c55=>k_is);(case k55=>k_is);(case b55=>(intro us hl;exact match us,hl with|[_],_=>rfl))
  (case n56=>k_is);(case l56=>k_is);(case c56=>k_is);(case k56=>k_is);(case b56=>(intro us hl;exact match us,hl with|[_,_],_=>rfl))
  (case n57=>k_is);(case l57=>k_is);(case c57=>k_is);(case k57=>k_is);(case b57=>(intro us hl;exact match us,hl with|[_],_=>rfl))
  (case n58=>k_is);(case l58=>k_is);(case c58=>k_is);(case k58=>k_is);(case b58=>(intro us hl;exact match us,hl with|[_,_],_=>rfl))
  (case n59=>k_is);(case l59=>k_is);(case c59=>k_is);(case k59=>k_is);(case b59=>(intro us hl;exact match us,hl with|[_],_=>rfl))
  (case n60=>k_is);(case l60=>k_is);(case c60=>k_is);(case k60=>k_is);(case b60=>(intro us hl;exact match us,hl with|[_],_=>rfl))
  (case z_abs=>k_is);(case z_all=>k_is);(case z_any=>k_is);(case z_bool=>k_is);(case z_enumerate=>k_is);(case z_int=>k_is);(case z_isinstance=>k_is);(case z_len=>k_is);(case z_list=>k_is);(case z_max=>k_is);(case z_min=>k_is);(case z_range=>k_is);(case z_set=>k_is);(case z_sorted=>k_is);(case z_tuple=>k_is);(case z_zip=>k_is);(case c0_MOST_SHARES=>k_is);(case c0_NOUGHT=>k_is);(case c1_NOUGHT=>k_is);(case c0_ONE=>k_is);(case c1_ONE=>k_is)
end
