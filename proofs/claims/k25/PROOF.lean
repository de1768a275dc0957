import PyProof.Rows.All
import PyProof.Rows.SetFrom
import PyProof.CollectWalk
import PyProof.Rows.SortShell
import PyProof.FactsAll.set_1
import PyProof.FactsAll.set_2
import PyProof.MeetsSeq
import KE.KSortTup
import KE.KSortAsk
import OpenK.KLine
import KE.KPar
import KE.IntBitsLaws
import PyProof.Fits
import KE.KIsAll
import KE.KItem
import KE.KxBytes
import Wide.FinOn
import PyProof.EqAt
import PyProof.EqKinds
import PyProof.TupleCall
import PyProof.ZipIter
import PyProof.EnumMake
import PyProof.EnumFor
import PyProof.Rows.EnumRows
import PyProof.CompMap
import PyProof.CompUse
import KE.KRevSl
import KE.KRevIter
import PyProof.ListRange
import PyProof.AutoRange
import PyProof.FactsAll.range_2
import PyProof.MaxThree
import KE.RegKTryMore
import PyProof.Rows.SumAny
import KE.KMinBuiltin
import PyProof.Rows.CallKwBuiltin
import PyProof.JoinWalk
import PyProof.StrBlockL
import PyProof.StrCalls2
import PyProof.CallStr
import PyProof.Rows.StrWeight2
import PyProof.FitsInt
import PyProof.FactsAll.range_1
import PyProof.SeqRoads2
import KE.RegKIsAll
import PyProof.ExcArgsOwn
import PyProof.NsDelKeeps
import PyProof.RulesAs
import KE.KIntText
import PyProof.Rows.StrNews2
import PyProof.StrBlockH
import PyProof.Rows.RuleDivmod
import KE.IntTextText
import OpenK.KTop
import Lean
import PySem.Challenge.RW_roundglass_k25_most_judged
noncomputable section
open PySem renaming wpAny_bind→Lw,wpAny_pure→LA
open PySem.Heap renaming get?_push_of_some→Lx,get?_push_size→LC,lt_size→LH,size_push→Mg,get?_update_self→Mu,get?_update_other→MR,get?_update_ne→Na,get?_push_ne→Oh,size_update→Oz
open PySem.W renaming Frag→Ly
open Nat renaming lt_of_lt_of_le→Lz,pow_le_pow_right→LD,le_trans→LL,le_refl→LQ,lt_of_le_of_lt→LR,ne_of_lt→LV,le_add_right→Mj,ne_of_gt→Mm,mul_le_mul_right→Mo,zero_le→Ms,pow_add→Mt,mul_lt_mul_of_lt_of_le→My,pow_succ→MC,le_of_lt→MF,mul_lt_mul''→MG,gcd→MH,lt_irrefl→MT,div_le_of_le_mul→MX,div_le_self→Nf,mul_comm→Nj,gcd_pos_of_pos_right→Nr,pow_pos→NC,le_succ→ND,min_le_right→NJ,dvd_lcm_left→NL,mod_lt→NR,dvd_lcm_right→Oj,lt_succ_of_lt→Ol,lcm_pos→Ov,lt_succ_self→Ow,le_max_right→Ox,log2_le_self→OB,le_of_eq→OH,le_max_left→OJ,max_le→OQ,pow_lt_pow_right→OT,mul_le_mul→OV,log2_lt→OX,pos_iff_ne_zero→OY,mul_le_mul_left→Pb,one_mul→Pd,eq_zero_or_pos→Pf,one_lt_two_pow→Pj,mul_assoc→Pk,gcd_zero_right→Pm,gcd_dvd_right→Pp,gcd_comm→Pq,zero_add→Pw,mul_pos→PJ,not_lt_zero→PQ,lcm→Qb
open List renaming mem_cons→LB,length_map→LF,mem_cons_of_mem→LG,mem_cons_self→LI,not_mem_nil→LK,mem_map→LM,size_toArray→LN,getElem?_eq_some_iff→LP,mem_of_getElem?→LS,getElem?_eq_getElem→LU,map_append→LX,getElem?_map→LY,mem_append_right→LZ,mem_append→Md,length_cons→Me,filter_cons_of_pos→Mh,length_append→Mi,mem_singleton→Mk,length_take→Ml,getD_eq_getElem?_getD→Mr,map_cons→Mv,filter_cons_of_neg→Mx,map_inj_right→Mz,mem_append_left→ME,length_drop→MI,take_length→MJ,getElem?_replicate→ML,map→MM,take_add_one→MP,take_of_length_le→MS,take_succ_eq_append_getElem→MW,mem_of_mem_take→MY,foldl_append→MZ,replicate→Nb,length_filter_le→Nh,range→Nl,lookup_cons→Np,map_nil→Nq,map_map→Nu,mem_filterMap→Nw,append_nil→Nx,forIn_cons→Ny,reverse_cons→NA,length_replicate→NG,zipIdx_cons→NK,eq_nil_of_length_eq_zero→NM,getElem?_append→NN,mem_of_mem_drop→NP,filterMap_cons→NS,nodup_cons→NU,of_mem_zip→NV,zipIdx_nil→NW,take_succ_cons→NX,all_map→Ob,forIn_nil→Oe,drop_eq_getElem_cons→Of,append_assoc→Oi,length_eraseIdx_le→Oq,all_eq_true→Oy,any_eq_true→OA,getElem?_set_self→OC,drop_of_length_le→OF,mem_filter→OG,length_set→OI,getElem?_zipWith→OK,getElem?_eq_none→OP,getElem?_set_ne→OR,getElem?_mapIdx→OS,mem_iff_getElem→OU,length_reverse→OW,perm_singleton→Pc,length_pos_iff→Pe,filter_append→Ph,map_take→Pl,any_eq_false→Pn,any_map→Pr,ext_getElem→Pz,getElem_mem→PB,length→PD,length_zip→PK,nil_append→PN,foldl_cons→PV,mem_range→PX,drop_zero→PY
open Int renaming natAbs_natCast→LJ,natCast_inj→Ma,natAbs_mul→Mf,mul_ne_zero→Mn,toNat_natCast→Mp,natAbs_neg→MD,emod_lt_of_pos→MU,mul_pos→MV,emod_nonneg→Ni,natAbs_sub_le→Nm,natCast_mul→Nz,natAbs_add_le→NB,mul_nonneg→NF,mul_le_mul_of_nonneg_right→NI,mul_one→NT,mul_eq_zero→NZ,sign_eq_neg_one_of_neg→Oa,natAbs_ediv_le_natAbs→Od,sign_eq_one_of_pos→OD,zero_mul→OM,neg_ediv_of_dvd→Pa,lt_or_le→Pt,le_of_lt→Pu,zero_sub→Px,natCast_emod→PC,mul_neg→PM,neg_neg→PR,natAbs_pos→PZ,natAbs→Qa,gcd→Qc
open Bool renaming false_ne_true→LO,true_and→Mw,and_eq_true→MB,and_false→MN,false_eq_true→Nc,eq_iff_iff→Nd,false_and→Nn,and_true→NQ
open Rat renaming divInt→LW,intCast_mul→Mb,mul_nonneg→Mc,num_divInt_den→Mq,div_mul_cancel→MA,intCast_natCast→MQ,num_eq_zero→Ng,intCast_sub→Nk,mul_comm→Nt,divInt_nonneg_iff_of_pos_right→Nv,divInt_mul_divInt→NH,divInt_mul_right→NO,intCast_add→NY,mul_div_cancel→Oc,num_nonneg→Og,divInt_eq_divInt_iff→Om,neg_num→Oo,mul_pos→Ot,le_refl→Ou,intCast_le_intCast→OE,divInt_add_divInt→OL,mul_zero→ON,add_zero→OO,neg_den→OZ,sub_eq_add_neg→Pg,divInt_eq_div→Po,num_intCast→PF,den_intCast→PH,intCast_neg→PL
open Option renaming getD_none→Py
set_option compiler.extract_closed false
set_option Elab.async false
set_option linter.all false
set_option maxRecDepth 100000
section
namespace L2
open PySem PySem.Spec PyProof.Rows
noncomputable abbrev Key:=Sum Int Str
noncomputable def Cc:Key→Value→Bool
 | .inl k,v=>Value.isInt k v
 | .inr x,v=>Value.isStrOf x v
noncomputable def Ih(w:World):Key→Int
 | .inl k=>hashInt k
 | .inr x=>hashStr w x
theorem t9:∀{k:Key} {v:Value},Cc k v=true→(∃ i t,k=Sum.inl i∧v=Value.int i t)∨(∃ x t,k=Sum.inr x∧v=Value.str x t)
 | .inl i,v,h=>by
  obtain⟨t,e⟩:=Value.isInt_shape (k:=i) (v:=v) h
  exact .inl ⟨i,t,rfl,e⟩
 | .inr x,v,h=>by
  obtain⟨t,e⟩:=Value.isStrOf_shape (x:=x) (v:=v) h
  exact .inr ⟨x,t,rfl,e⟩
theorem Ei(a b:Int):decide ((Sum.inl a:Key)=Sum.inl b)=(a == b):=by
 by_cases e:a=b
 ·subst e;simp
 ·have h:¬ (Sum.inl a:Key)=Sum.inl b:=fun q=>e (Sum.inl.inj q)
  rw[decide_eq_false h]
  exact(beq_eq_false_iff_ne.mpr e).symm
theorem Ef(a b:Str):decide ((Sum.inr a:Key)=Sum.inr b)=decide (a=b):=by
 by_cases e:a=b
 ·subst e;simp
 ·have h:¬ (Sum.inr a:Key)=Sum.inr b:=fun q=>e (Sum.inr.inj q)
  rw[decide_eq_false h,decide_eq_false e]
theorem Eh(a:Int)(b:Str):decide ((Sum.inl a:Key)=Sum.inr b)=false:=decide_eq_false (fun q=>nomatch q)
theorem Eg(a:Str)(b:Int):decide ((Sum.inr a:Key)=Sum.inl b)=false:=decide_eq_false (fun q=>nomatch q)
noncomputable def qk(prog:Program)(w:World):PySem.KeyKind prog w Key where
 is:=Cc
 hash:=Ih w
 inj:=fun v a b ha hb=>by
  rcases t9 ha with⟨i,t,rfl,rfl⟩|⟨x,t,rfl,rfl⟩
  ·rcases t9 hb with⟨j,u,rfl,e⟩|⟨y,u,rfl,e⟩
   ·injection e with e1 _;rw[e1]
   ·exact nomatch e
  ·rcases t9 hb with⟨j,u,rfl,e⟩|⟨y,u,rfl,e⟩
   ·exact nomatch e
   ·injection e with e1 _;rw[e1]
 byValue:=fun k v h=>by
  rcases t9 h with⟨i,t,rfl,rfl⟩|⟨x,t,rfl,rfl⟩<;>rfl
 pyHash:=fun hv h=>by
  rcases t9 hv with⟨i,t,rfl,rfl⟩|⟨x,t,rfl,rfl⟩
  ·exact wpAny_pyHash_int h
  ·exact wpAny_pyHash_str h
 eqBool:=fun hu hv h=>by
  rcases t9 hu with⟨i,t,rfl,rfl⟩|⟨x,t,rfl,rfl⟩
  ·rcases t9 hv with⟨j,u,rfl,rfl⟩|⟨y,u,rfl,rfl⟩
   ·rw[Ei]at h;exact wpAny_eqBool_int h
   ·rw[Eh]at h;exact SeqAt.EqAt.int_str i t y u _ _ _ _ h
  ·rcases t9 hv with⟨j,u,rfl,rfl⟩|⟨y,u,rfl,rfl⟩
   ·rw[Eg]at h;exact SeqAt.EqAt.str_int x t j u _ _ _ _ h
   ·rw[Ef]at h;exact wpAny_eqBool_str h
 «strs»:=fun k x t v h=>by
  rcases t9 h with⟨i,u,rfl,e⟩|⟨y,u,rfl,e⟩
  ·exact nomatch e
  ·injection e with e1 _
   subst e1
   cases v<;>rfl
inductive V where
 | non|bl (b:Bool)|int (i:Int)|str (x:Str)|byt (b:Array UInt8)|flt (b:UInt64)|ref (a:Addr)|ty (n:String)
 deriving DecidableEq
noncomputable def o7:V→Value→Prop
 | .non,u=>u=Value.none
 | .bl b,u=>u=Value.bool b
 | .int i,u=>∃ t,u=Value.int i t
 | .str x,u=>∃ t,u=Value.str x t
 | .byt b,u=>∃ t,u=Value.bytes b t
 | .flt b,u=>∃ t,u=Value.float b t
 | .ref a,u=>u=Value.ref a
 | .ty n,u=>u=Value.type n
noncomputable abbrev h8:List V→List Value→Prop:=Paired o7
theorem h8.length{xs:List V}{us:List Value}(r:h8 xs us):xs.length=us.length:=Paired.length r
theorem h8.get:∀{xs:List V} {us:List Value} {i:Nat} {x:V},h8 xs us→xs[i]? = some x→∃ u,us[i]? = some u∧o7 x u
 | _,_,_,_,.nil,e=>by simp at e
 | _,_,0,_,.cons r _,e=>by simp at e;subst e;exact⟨_,rfl,r⟩
 | _,_,i+1,x,.cons _ t,e=>by
  obtain⟨u,h1,h2⟩:=h8.get (i:=i) (x:=x) t (by simpa using e)
  exact⟨u,by simpa using h1,h2⟩
theorem h8.set{x:V}{u:Value}(r:o7 x u):∀{xs:List V} {us:List Value} (i:Nat),h8 xs us→h8 (xs.set i x) (us.set i u)
 | _,_,_,.nil=>.nil
 | _,_,0,.cons _ t=>.cons r t
 | _,_,i+1,.cons q t=>.cons q (h8.set r i t)
theorem h8.append:∀{xs ys:List V} {us ws:List Value},h8 xs us→h8 ys ws→h8 (xs++ys) (us++ws)
 | _,_,_,_,.nil,s=>s
 | _,_,_,_,.cons r t,s=>.cons r (h8.append t s)
theorem h8.take:∀{xs:List V} {us:List Value} (n:Nat),h8 xs us→h8 (xs.take n) (us.take n)
 | _,_,0,_=>.nil
 | _,_,_+1,.nil=>.nil
 | _,_,n+1,.cons r t=>.cons r (h8.take n t)
theorem h8.drop:∀{xs:List V} {us:List Value} (n:Nat),h8 xs us→h8 (xs.drop n) (us.drop n)
 | _,_,0,r=>r
 | _,_,_+1,.nil=>.nil
 | _,_,n+1,.cons _ t=>h8.drop n t
noncomputable def EN:Option V→Option Value→Prop
 | some v,some u=>o7 v u
 | none,none=>True
 | _,_=>False
noncomputable def KV{κ:Type}:List (κ × V)→List (κ × Value)→Prop:=Paired fun(p:κ × V) (q:κ × Value)=>p.1=q.1∧o7 p.2 q.2
noncomputable def kV:Key→V
 | .inl i=>.int i
 | .inr x=>.str x
inductive HO where
 | lst (xs:List V)
 | tup (xs:List V)
 | dK (kvs:List (Key × V))|dT (kvs:List (List Key × V))
 | set (S:Int→Bool) (n:Nat)
 | ins (C dx:Addr) (fs:List (Str × V))
 | own (x:Addr)
 | xd (fs:List (Str × V))
 | met (f x:Addr)
 | rng (lo hi:Int)
 | frz (o:Obj) (u:HO)
 | tbl (ps:Array Value)
 | ext (φ:Heap→Prop)
noncomputable abbrev Hp:=Addr→Option HO
noncomputable def upd(H:Hp)(a:Addr)(o:HO):Hp:=fun b=>if b=a then some o else H b
theorem i3{H:Hp}{a:Addr}{o:HO}:upd H a o a=some o:=by unfold upd;rw[if_pos rfl]
theorem g7{H:Hp}{a b:Addr}{o:HO}(h:b≠a):upd H a o b=H b:=by unfold upd;rw[if_neg h]
theorem Z0{H:Hp}{a:Addr}{o u:HO}:upd (upd H a o) a u=upd H a u:=by
 funext b;unfold upd;split<;>rfl
theorem C1{H:Hp}{a b:Addr}{o:HO}(h:H a=some o)(h':H b=none):a≠b:=by
 intro e;subst e;rw[h]at h';cases h'
section
variable (P:Program) (w:World)
noncomputable def A0(H:Hp)(h:Heap)(a:Addr):HO→Prop
 | .lst xs=>xs.length≤sizeLine∧∃(its:List Value) (n:Nat),h8 xs its∧h.get? a=some { cls:=.type "list",data:=.seq its.toArray n }
 | .tup xs=>xs.length≤sizeLine∧∃ its:List Value,h8 xs its∧IsTup h a its.toArray
 | .dK kvs=>kvs.length≤sizeLine∧(a == sysModules)=false∧∃ vs,KV kvs vs∧h.DictOf (qk P w) a vs
 | .dT kvs=>kvs.length≤sizeLine∧(a == sysModules)=false∧∃ xs:List (List Key × Addr × Value),
   Paired (fun(p:List Key × V) (q:List Key × Addr × Value)=>p.1=q.1∧H q.2.1=some (.tup (p.1.map kV))∧o7 p.2 q.2.2) kvs xs ∧
   ∃ o es ep,h.get? a=some o∧o.ExactDict∧o.data = .dict es ep∧es.toList=xs.map (entryOfKey (tupleKind (qk P w)))∧(xs.map (·.1)).Nodup
 | .set S n=>h.SetOf (intKind P w) a S n
 | .ins C dx fs=>H dx=some (.own a)∧fs.length≤1000∧dx≠a∧h.get? a=some (PySem.W.instObj C dx) ∧
   ∃ mA,h.Ns1 dx mA∧(∀ f,EN (fs.lookup f) (mA f))∧PySem.Within mA (fs.map (·.1))
 | .own _=>∃ o,h.get? a=some o
 | .xd fs=>∃ mA,h.Ns1 a mA∧∀ f,EN (fs.lookup f) (mA f)
 | .rng lo hi=>∃ t u v,h.get? a=some { cls:=.type "range",data:=.fields #[.int lo t,.int hi u,.int 1 v] }
 | .frz o u=>h.get? a=some o∧A0 H h a u
 | .tbl ps=>h.get? a=some { cls:=.none,data:=.fields ps }
 | .met f x=>h.get? a=some (PySem.W.methodObj (.ref f) (.ref x))
 | .ext φ=>φ h∧(∃ o,h.get? a=some o)∧∀ h1 h2:Heap,φ h1→(∀ o,h1.get? a=some o→h2.get? a=some o)→φ h2
def HOk(H:Hp)(h:Heap):Prop:=∀ a o,H a=some o→A0 P w H h a o
end
section
variable {P:Program} {w:World} {H H':Hp} {h h':Heap} {a:Addr} {o:HO}
theorem A0.lt(x:A0 P w H h a o):a<h.objs.size:=by
 cases o with
 | lst xs=>obtain⟨_,_,_,_,e⟩:=x;exact LH e
 | tup xs=>obtain⟨_,_,_,p⟩:=x;exact p.lt
 | dK kvs=>obtain⟨_,_,_,_,o,_,_,e,_⟩:=x;exact LH e
 | dT kvs=>obtain⟨_,_,_,_,o,_,_,e,_⟩:=x;exact LH e
 | set S n=>obtain⟨o,_,_,_,e,_⟩:=x;exact LH e
 | ins C dx fs=>obtain⟨_,_,_,e,_⟩:=x;exact LH e
 | own y=>obtain⟨_,e⟩:=x;exact LH e
 | xd fs=>obtain⟨_,⟨_,_,_,e,_⟩,_⟩:=x;exact LH e
 | rng lo hi=>obtain⟨_,_,_,e⟩:=x;exact LH e
 | frz ob u=>obtain⟨e,_⟩:=x;exact LH e
 | tbl ps=>exact LH (show h.get? a=some _ from x)
 | met f y=>exact LH (show h.get? a=some _ from x)
 | ext φ=>obtain⟨_,⟨_,e⟩,_⟩:=x;exact LH e
theorem Paired.mapP{α β:Type}{F G:α→β→Prop}:∀{l₁:List α} {l₂:List β},Paired F l₁ l₂→(∀ a b,F a b→G a b)→Paired G l₁ l₂
 | _,_,.nil,_=>.nil
 | _,_,.cons r t,f=>.cons (f _ _ r) (Paired.mapP t f)
theorem A0.stay(x:A0 P w H h a o)(k:∀ b u,(b=a∨H b=some (.own a))→h.get? b=some u→h'.get? b=some u)
  (ho:∀ b,H b=some (.own a)→H' b=some (.own a)) (ht:∀ b xs,H b=some (.tup xs)→H' b=some (.tup xs)):A0 P w H' h' a o:=by
 induction o with
 | lst xs=>obtain⟨z,its,n,r,e⟩:=x;exact⟨z,its,n,r,k _ _ (.inl rfl) e⟩
 | tup xs=>obtain⟨z,its,r,ob,e,c⟩:=x;exact⟨z,its,r,ob,k _ _ (.inl rfl) e,c⟩
 | dK kvs=>obtain⟨z,y,vs,r,ob,es,ep,e,c⟩:=x;exact⟨z,y,vs,r,ob,es,ep,k _ _ (.inl rfl) e,c⟩
 | dT kvs =>
  obtain⟨z,y,xs,r,ob,es,ep,e,c⟩:=x
  exact⟨z,y,xs,Paired.mapP r fun p q z=>⟨z.1,ht _ _ z.2.1,z.2.2⟩,ob,es,ep,k _ _ (.inl rfl) e,c⟩
 | set S n=>obtain⟨ob,es,ep,t,e,c⟩:=x;exact⟨ob,es,ep,t,k _ _ (.inl rfl) e,c⟩
 | ins C dx fs =>
  obtain⟨d,z,ne,e,mA,⟨od,es,ep,e2,c⟩,r⟩:=x
  exact⟨ho _ d,z,ne,k _ _ (.inl rfl) e,mA,⟨od,es,ep,k _ _ (.inr d) e2,c⟩,r⟩
 | own y=>obtain⟨ob,e⟩:=x;exact⟨ob,k _ _ (.inl rfl) e⟩
 | xd fs=>obtain⟨mA,⟨od,es,ep,e,c⟩,r⟩:=x;exact⟨mA,⟨od,es,ep,k _ _ (.inl rfl) e,c⟩,r⟩
 | rng lo hi=>obtain⟨t,u,v,e⟩:=x;exact⟨t,u,v,k _ _ (.inl rfl) e⟩
 | frz ob u ih=>obtain⟨e,q⟩:=x;exact⟨k _ _ (.inl rfl) e,ih q⟩
 | tbl ps =>
  have e:h.get? a=some { cls:=.none,data:=.fields ps }:=x
  show h'.get? a=some { cls:=.none,data:=.fields ps }
  exact k a _ (.inl rfl) e
 | met f y =>
  have e:h.get? a=some (PySem.W.methodObj (.ref f) (.ref y)):=x
  show h'.get? a=some (PySem.W.methodObj (.ref f) (.ref y))
  exact k a _ (.inl rfl) e
 | ext φ=>obtain⟨p,⟨o,e⟩,st⟩:=x;exact⟨st _ _ p fun o q=>k _ _ (.inl rfl) q,⟨o,k _ _ (.inl rfl) e⟩,st⟩
theorem HOk.lt(x:HOk P w H h)(e:H a=some o):a<h.objs.size:=(x a o e).lt
theorem HOk.fresh(x:HOk P w H h)(e:h.objs.size≤a):H a=none:=by
 cases q:H a with
 | none=>rfl
 | some u=>exact absurd (Lz (x.lt q) e) (MT _)
theorem HOk.kept(x:HOk P w H h)(k:∀ b u,h.get? b=some u→h'.get? b=some u):HOk P w H h':=fun a o e =>
 (x a o e).stay (fun b u _ q=>k b u q) (fun _ q=>q) fun _ _ q=>q
theorem HOk.laid(x:HOk P w H h)(k:∀ b u,h.get? b=some u→h'.get? b=some u)(hp:h.objs.size≤a)(new:A0 P w (upd H a o) h' a o):HOk P w (upd H a o) h':=fun b u e=>by
 have hn:=x.fresh hp
 by_cases hb:b=a
 ·subst hb;rw[i3]at e;cases e;exact new
 ·rw[g7 hb]at e
  exact(x b u e).stay (fun c v _ q=>k c v q) (fun c q=>by rw[g7 (C1 q hn)];exact q) fun c xs q=>by rw[g7 (C1 q hn)];exact q
end
def Rd(H:Hp)(a:Addr)(u:HO):Prop:=H a=some u ∨ ∃ o,H a=some (.frz o u)
theorem Rd.of{H:Hp}{a:Addr}{u:HO}(h:H a=some u):Rd H a u:=.inl h
theorem Rd.ok{P:Program}{w:World}{H:Hp}{h:Heap}{a:Addr}{u:HO}(r:Rd H a u)(x:HOk P w H h):A0 P w H h a u:=by
 rcases r with r|⟨o,r⟩
 ·exact x a u r
 ·obtain⟨_,q⟩:=x a _ r
  exact q
noncomputable def Mut:Option HO→Prop
 | some (.lst _)=>True
 | some (.dK _)=>True
 | some (.dT _)=>True
 | some (.set _ _)=>True
 | some (.ins _ _ _)=>True
 | some (.ext _)=>True
 | _=>False
section
variable {P:Program} {w:World} {H:Hp} {h h':Heap} {x e:Addr} {o':HO}
theorem HOk.write(ok:HOk P w H h)(mu:Mut (H x))(he:e=x∨H e=some (.own x))(k:∀ b u,b≠e→h.get? b=some u→h'.get? b=some u)(heo:∃ u,h'.get? e=some u)
  (new:A0 P w (upd H x o') h' x o'):HOk P w (upd H x o') h':=fun b u q=>by
 have nown:∀ c y,H c=some (.own y)→c≠x:=fun c y r z=>by subst z;rw[r]at mu;exact mu
 have ntup:∀ c xs,H c=some (.tup xs)→c≠x:=fun c xs r z=>by subst z;rw[r]at mu;exact mu
 by_cases hb:b=x
 ·subst hb;rw[i3]at q;cases q;exact new
 ·rw[g7 hb]at q
  by_cases hbe:b=e
  ·have q':H b=some (.own x):=by
    rcases he with z|z
    ·exact absurd (hbe.trans z) hb
    ·rw[hbe];exact z
   rw[q]at q';cases q'
   obtain⟨v,hv⟩:=heo
   exact⟨v,by rw[hbe];exact hv⟩
  ·refine(ok b u q).stay (fun c v hc r=>k c v ?_ r) (fun c r=>by rw[g7 (nown c b r)];exact r) fun c xs r=>by rw[g7 (ntup c xs r)];exact r
   rcases hc with rfl|hc
   ·exact hbe
   ·rintro rfl
    rcases he with z|z
    ·exact nown c b hc z
    ·rw[hc]at z;cases z;exact hb rfl
end
structure Un(fs ex:List Addr)(H H':Hp)(h h':Heap):Prop where
 keep:∀ b o,h.get? b=some o→H b=none→b∉fs→b∉ex→h'.get? b=some o
 slot:∀ b o,h.get? b=some o→H b=none→b∈fs→b∉ex→∃ sl,h'.get? b=some { o with slots:=sl }
 free:∀ b o,h.get? b=some o→H b=none→b∉ex→H' b=none
 there:∀ b o,h.get? b=some o→b∉ex→∃ o',h'.get? b=some o'
 tups:∀ b xs,H b=some (.tup xs)→H' b=some (.tup xs)
 frzs:∀ b o u,H b=some (.frz o u)→H' b=some (.frz o u)
 tbls:∀ b ps,H b=some (.tbl ps)→∃ more,H' b=some (.tbl (ps++more))
section
variable {fs fs' ex ex':List Addr} {H H1 H2:Hp} {h h1 h2 h':Heap} {a x e:Addr} {o:HO}
theorem Un.any(u:Un fs ex H H1 h h1){b:Addr}{ob:Obj}(q:h.get? b=some ob)(n:H b=none)(hx:b∉ex):∃ sl,h1.get? b=some { ob with slots:=sl }:=by
 by_cases hb:b∈fs
 ·exact u.slot b ob q n hb hx
 ·exact⟨ob.slots,u.keep b ob q n hb hx⟩
theorem Un.trans(a:Un fs ex H H1 h h1)(b:Un fs ex H1 H2 h1 h2):Un fs ex H H2 h h2 where
 keep:=fun c ob q n hc hx=>b.keep c ob (a.keep c ob q n hc hx) (a.free c ob q n hx) hc hx
 slot:=fun c ob q n hc hx=>by
  obtain⟨sl,e1⟩:=a.slot c ob q n hc hx
  obtain⟨sl',e2⟩:=b.slot c _ e1 (a.free c ob q n hx) hc hx
  exact⟨sl',e2⟩
 free:=fun c ob q n hx=>by
  obtain⟨o',e1⟩:=a.there c ob q hx
  exact b.free c o' e1 (a.free c ob q n hx) hx
 there:=fun c ob q hx=>by
  obtain⟨o',e1⟩:=a.there c ob q hx
  exact b.there c o' e1 hx
 tups:=fun c xs q=>b.tups c xs (a.tups c xs q)
 frzs:=fun c ob xs q=>b.frzs c ob xs (a.frzs c ob xs q)
 tbls:=fun c ps q=>by
  obtain⟨m1,e1⟩:=a.tbls c ps q
  obtain⟨m2,e2⟩:=b.tbls c _ e1
  exact⟨m1++m2,by rw[e2,Array.append_assoc]⟩
theorem Un.kept(k:∀ b u,h.get? b=some u→h'.get? b=some u):Un fs ex H H h h' :=
 ⟨fun b ob q _ _ _=>k b ob q,fun b ob q _ _ _=>⟨ob.slots,k b ob q⟩,fun _ _ _ n _=>n,fun b ob q _=>⟨ob,k b ob q⟩,fun _ _ q=>q,fun _ _ _ q=>q,fun _ ps q=>⟨#[],by rw[q];simp⟩⟩
theorem Un.refl:Un fs ex H H h h:=Un.kept fun _ _ q=>q
theorem Un.laid(k:∀ b u,h.get? b=some u→h'.get? b=some u)(hp:h.objs.size≤a)(hn:H a=none):Un fs ex H (upd H a o) h h' where
 keep:=fun b u q _ _ _=>k b u q
 slot:=fun b u q _ _ _=>⟨u.slots,k b u q⟩
 free:=fun b u q n _=>by rw[g7 (LV (Lz (LH q) hp))];exact n
 there:=fun b u q _=>⟨u,k b u q⟩
 tups:=fun b xs q=>by rw[g7 (C1 q hn)];exact q
 frzs:=fun b u xs q=>by rw[g7 (C1 q hn)];exact q
 tbls:=fun b ps q=>⟨#[],by rw[g7 (C1 q hn),q];simp⟩
theorem Un.write(mu:Mut (H x))(he:e=x∨H e=some (.own x))(k:∀ b u,b≠e→h.get? b=some u→h'.get? b=some u)(heo:∃ u,h'.get? e=some u):Un fs ex H (upd H x o) h h':=by
 have hx:∀ b,H b=none→b≠x:=fun b n z=>by subst z;rw[n]at mu;exact mu
 have hb:∀ b,H b=none→b≠e:=fun b n z=>by
  subst z
  rcases he with r|r
  ·exact hx b n r
  ·rw[n]at r;cases r
 have hm:∀ b u,H b=some u→¬ Mut (some u)→b≠x:=fun b u q nm z=>by subst z;rw[q]at mu;exact nm mu
 refine⟨fun b u q n _ _=>k b u (hb b n) q,fun b u q n _ _=>⟨u.slots,k b u (hb b n) q⟩,fun b u q n _=>by rw[g7 (hx b n)];exact n,fun b u q _=>?_,
  fun b xs q=>by rw[g7 (hm b _ q fun z=>z)];exact q,fun b u xs q=>by rw[g7 (hm b _ q fun z=>z)];exact q,fun b ps q=>⟨#[],by rw[g7 (hm b _ q fun z=>z),q];simp⟩⟩
 by_cases hbe:b=e
 ·subst hbe;exact heo
 ·exact⟨u,k b u hbe q⟩
theorem Un.mono(u:Un fs ex H H1 h h1)(hs:∀ b∈fs,b∈fs')(hx:∀ b∈ex,b∈ex'):Un fs' ex' H H1 h h1 :=
 ⟨fun b ob q n hb he=>u.keep b ob q n (fun z=>hb (hs b z)) fun z=>he (hx b z),fun _ _ q n _ he=>u.any q n fun z=>he (hx _ z),fun b ob q n he=>u.free b ob q n fun z=>he (hx b z),fun b ob q he=>u.there b ob q fun z=>he (hx b z),u.tups,u.frzs,u.tbls⟩
end
noncomputable def trk(h:Heap)(H:Hp):List Addr:=(Nl h.objs.size).filter fun a=>(H a).isSome
noncomputable def ju(h:Heap)(H:Hp):Heap:=PySem.W.hideAll h (trk h H)
theorem rO(h:Heap)(H:Hp):(ju h H).objs.size=h.objs.size:=PySem.W.hideAll_size _ _
theorem wg{h:Heap}{H:Hp}{b:Addr}{o:Obj}(e:h.get? b=some o)(n:H b=none):(ju h H).get? b=some o :=
 PySem.W.hideAll_get _ e fun hm=>by
  have q:(H b).isSome=true:=(OG.mp hm).2
  rw[n]at q;simp at q
theorem Ag{h:Heap}{H:Hp}{b:Addr}{o:Obj}(e:(ju h H).get? b=some o):h.get? b=some o∧H b=none:=by
 have e':h.get? b=some o:=PySem.W.of_hideAll (trk h H) e
 refine⟨e',?_⟩
 cases q:H b with
 | none=>rfl
 | some x =>
  have hm:b∈trk h H:=OG.mpr ⟨PX.mpr (LH e'),by simp[q]⟩
  have z:(ju h H).get? b=none:=PySem.W.hideAll_none (trk h H) hm
  rw[z]at e;cases e
noncomputable def cA(g h:Heap)(L:Addr):List (Addr × Obj):=(Nl h.objs.size).filterMap fun a=>if a=L∨(g.get? a).isSome=true then none else(h.get? a).map fun o=>(a,o)
theorem S6{g h:Heap}{L a:Addr}{o:Obj}(h1:a≠L)(h2:g.get? a=none)(h3:h.get? a=some o):(a,o)∈cA g h L :=
 Nw.mpr ⟨a,PX.mpr (LH h3),by simp[h1,h2,h3]⟩
theorem dA{g h:Heap}{L:Addr}{p:Addr × Obj}(hp:p∈cA g h L):p.1≠L∧g.get? p.1=none∧h.get? p.1=some p.2:=by
 obtain⟨b,_,e⟩:=Nw.mp hp
 split at e
 ·cases e
 ·rename_i hn
  cases q:h.get? b with
  | none=>rw[q]at e;simp at e
  | some u =>
   rw[q]at e
   simp only[Option.map_some,Option.some.injEq]at e
   subst e
   refine⟨fun z=>hn (.inl z),?_,q⟩
   show g.get? b=none
   cases r:g.get? b with
   | none=>rfl
   | some v=>exact(hn (.inr (by simp[r]))).elim
noncomputable def F0(g h:Heap)(L d:Addr):List (Addr × Obj):=(cA g h L).filter fun p=>decide (p.1≠d)
theorem vN{g h:Heap}{L:Addr}:News g L h (cA g h L):=fun p hp=>let ⟨a,b,c⟩:=dA hp;⟨c,a,b⟩
structure Mod(K:Ly)(mg:Str→Option Value)(base:Heap):Prop where
 kin:K.In base
 glob:base.Ns mainGlobals mg
 blt:∃ mb,base.Ns builtinsNs mb∧∀ x:Str,x ≠ "__name__" → mb x=bootBuiltins x
 nolimit:base.NoLimit
structure Cx where
 prog:Program
 w:World
 K:Ly
 mg:Str→Option Value
 base:Heap
 A:Around
 N:List Str
 s₀:Shared
 H₀:Hp
 env:Env
 outer:List Env
 stack:List Env
 ex:List Addr
 fn:Str→Bool
 calm:Bool
 pn:List (Addr × Obj)
 xe:Value→Shared→Prop
noncomputable def frs(l:List Env):List Addr:=l.filterMap (·.frame)
noncomputable abbrev Cx.fs(X:Cx):List Addr:=frs X.outer
def Vis(sc:Scope)(x:Str):Prop:=sc.names.lookup x=some .local∨sc.names.lookup x=some .cell∨sc.names.lookup x=some .free
def Loc(sc:Scope)(x:Str):Prop:=sc.names.lookup x=some .local∨sc.names.lookup x=some .cell
def Iy(env:Env)(h:Heap)(m:Str→Option Value)(x:Str)(u:Value):Prop :=
 (env.kindOf x=some .local∧m x=some u)∨((env.kindOf x=some .cell∨env.kindOf x=some .free)∧∃ c,env.cells.lookup x=some c∧h.IsCell c (some u))
structure Cx.Ok(X:Cx):Prop where
 mod:Mod X.K X.mg X.base
 kind:X.env.scope.kind = .function
 glob:X.env.globals=mainGlobals
 blt:X.env.builtins=builtinsNs
 above:X.s₀.heap.objs.size≤X.env.locals
 inj:∀ x y c,X.env.cells.lookup x=some c→X.env.cells.lookup y=some c→x=y
 has:∀ x,(X.env.kindOf x=some .cell∨X.env.kindOf x=some .free)→∃ c,X.env.cells.lookup x=some c
 cab:∀ x c,X.fn x=true→X.env.cells.lookup x=some c→X.s₀.heap.objs.size≤c
 hd:X.calm=true→X.A.handled=none
 frames:X.A.frames=some X.stack
 stk:X.stack=X.outer∨(X.stack=X.env :: X.outer∧X.env.frame=some X.env.locals)
 exf:∀ b∈X.ex,b≠X.env.locals∧∀ x c,X.env.cells.lookup x=some c→c≠b
 bs:∀ b o,X.base.get? b=some o→X.s₀.heap.get? b=some o∧X.H₀ b=none
 bsz:X.base.objs.size≤X.s₀.heap.objs.size
 noex:∀ b o,X.base.get? b=some o→b∉X.ex
 exfs:∀ b∈X.ex,b∉X.fs
 funs:X.s₀.heap.FunFrames X.base X.outer
 frf:∀ b∈X.fs,X.H₀ b=none
structure Inv(X:Cx)(pins:List (Addr × Obj))(σ:List (Option V))(H:Hp)(s:Shared):Prop where
 ok:X.Ok
 os:s.os=X.s₀.os
 bare:AllBare s.gens
 base:Un X.fs X.ex X.H₀ H X.s₀.heap s.heap
 loc:∃ m,s.heap.Ns X.env.locals m∧∀(i:Nat) (x:Str) (v:V),X.N[i]? = some x→σ[i]? = some (some v)→Vis X.env.scope x→∃ u,o7 v u∧Iy X.env s.heap m x u
 cell:∀ x c,X.env.cells.lookup x=some c→∃ v,s.heap.IsCell c v
 free:H X.env.locals=none
 freeC:∀ x c,X.env.cells.lookup x=some c→H c=none
 pin:∀ p∈X.pn++pins,s.heap.get? p.1=some p.2∧H p.1=none∧p.1≠X.env.locals∧p.1∉X.fs∧∀ v,p.2.data ≠ .cell v
 hok:HOk X.prog X.w H s.heap
 len:σ.length=X.N.length
section
variable {X:Cx} {pins:List (Addr × Obj)} {σ:List (Option V)} {H H':Hp} {s:Shared} {h':Heap}
theorem Cx.Ok.nofr(ok:X.Ok){b:Addr}{o:Obj}(e:X.base.get? b=some o):b∉X.fs:=fun hb=>by
 have:=(ok.funs.mem hb).1
 rw[e]at this;cases this
theorem Inv.bs(I:Inv X pins σ H s):∀ b o,X.base.get? b=some o→s.heap.get? b=some o∧H b=none:=fun b o e =>
 ⟨I.base.keep b o (I.ok.bs b o e).1 (I.ok.bs b o e).2 (I.ok.nofr e) (I.ok.noex b o e),I.base.free b o (I.ok.bs b o e).1 (I.ok.bs b o e).2 (I.ok.noex b o e)⟩
theorem Inv.bk(I:Inv X pins σ H s):∀ b o,X.base.get? b=some o→s.heap.get? b=some o:=fun b o e=>(I.bs b o e).1
theorem Inv.mod(I:Inv X pins σ H s):Mod X.K X.mg X.base:=I.ok.mod
theorem Inv.kIn(I:Inv X pins σ H s):X.K.In s.heap:=I.ok.mod.kin.keeps I.bk
theorem Inv.nolimit(I:Inv X pins σ H s):s.heap.NoLimit:=I.ok.mod.nolimit.keeps I.bk
theorem Inv.fr(I:Inv X pins σ H s):∃ m,Fr X.base X.env.locals s.heap m :=
 let ⟨m,hn,_⟩:=I.loc
 ⟨m,hn,I.bk,LL I.ok.bsz I.ok.above⟩
theorem Inv.lt(I:Inv X pins σ H s):X.env.locals<s.heap.objs.size:=let ⟨_,hn,_⟩:=I.loc;hn.lt
theorem Inv.sz(I:Inv X pins σ H s):X.s₀.heap.objs.size≤s.heap.objs.size:=LL I.ok.above (MF I.lt)
theorem Inv.nofs(I:Inv X pins σ H s){a:Addr}(h:s.heap.objs.size≤a):a∉X.fs:=fun hb=>by
 obtain⟨_,o,ho,_⟩:=I.ok.funs.mem hb
 exact absurd (Lz (LH ho) (LL I.sz h)) (MT _)
theorem Inv.cne(I:Inv X pins σ H s):∀ x c,X.env.cells.lookup x=some c→c≠X.env.locals:=fun x c e z=>by
 obtain⟨v,o,ho,hd⟩:=I.cell x c e
 obtain⟨m,⟨o',es,ep,ho',hd',_⟩,_⟩:=I.loc
 rw[z,ho']at ho;cases ho;rw[hd']at hd;cases hd
theorem Inv.funs(I:Inv X pins σ H s):s.heap.FunFrames X.base X.outer:=by
 have all:∀(l:List Env),(∀ b∈frs l,b∈X.fs)→X.s₀.heap.FunFrames X.base l→s.heap.FunFrames X.base l:=by
  intro l
  induction l with
  | nil=>intro _ _;trivial
  | cons env r ih =>
   intro hs hl
   obtain⟨hk,⟨L,o,hf,hn,ho,hd⟩,hr⟩:=hl
   have hL:L∈X.fs:=hs L (by unfold frs;rw[NS,hf];exact LI)
   obtain⟨sl,e⟩:=I.base.slot L o ho (I.ok.frf L hL) hL fun z=>I.ok.exfs L z hL
   exact⟨hk,⟨L,_,hf,hn,e,hd⟩,ih (fun b hb=>hs b (by unfold frs;rw[NS,hf];exact LG _ hb)) hr⟩
 exact all X.outer (fun _ hb=>hb) I.ok.funs
theorem Inv.stack(I:Inv X pins σ H s):s.heap.FunFrames X.base X.stack:=by
 rcases I.ok.stk with e|⟨e,hf⟩
 ·rw[e];exact I.funs
 ·rw[e]
  obtain⟨m,hn,_⟩:=I.loc
  refine .cons (by rw[I.ok.kind];decide) hf hn ?_ I.funs
  exact Heap.get?_none_of_le (LL I.ok.bsz I.ok.above)
theorem Inv.stkSub(I:Inv X pins σ H s):∀ b∈frs X.stack,b∈X.env.locals :: X.fs:=fun b hb=>by
 rcases I.ok.stk with e|⟨e,hf⟩
 ·rw[e]at hb;exact LG _ hb
 ·rw[e]at hb
  unfold frs at hb
  rw[NS,hf]at hb
  exact hb
theorem Inv.stkFree(I:Inv X pins σ H s):∀ b∈frs X.stack,H b=none:=fun b hb=>by
 rcases LB.mp (I.stkSub b hb)with e|hb
 ·rw[e];exact I.free
 ·obtain⟨_,o,ho,_⟩:=I.ok.funs.mem hb
  exact I.base.free b o ho (I.ok.frf b hb) fun z=>I.ok.exfs b z hb
theorem Inv.step{g':Array GenState}{t':Nat}{d':Drawn}{ch:List Addr}(I:Inv X pins σ H s)
  (hch:∀ b∈ch,(b∈X.ex∨X.s₀.heap.objs.size≤b)∧b≠X.env.locals∧(∀ x c,X.env.cells.lookup x=some c→c≠b)∧∀ p∈X.pn++pins,p.1≠b)
  (keep:∀ b o,b≠X.env.locals→b∉X.fs→b∉ch→s.heap.get? b=some o→H b=none→h'.get? b=some o)
  (slot:∀ b o,b≠X.env.locals→b∈X.fs→b∉ch→s.heap.get? b=some o→H b=none→∃ sl,h'.get? b=some { o with slots:=sl }) (free:∀ b o,b∉ch→s.heap.get? b=some o→H b=none→H' b=none)
  (there:∀ b o,b∉ch→s.heap.get? b=some o→∃ o',h'.get? b=some o')
  (tups:∀ b xs,H b=some (.tup xs)→H' b=some (.tup xs)) (frzs:∀ b o u,H b=some (.frz o u)→H' b=some (.frz o u)) (tbls:∀ b ps,H b=some (.tbl ps)→∃ more,H' b=some (.tbl (ps++more)))
  (ns:∀ m,s.heap.Ns X.env.locals m→h'.Ns X.env.locals m) (hok:HOk X.prog X.w H' h') (hg:AllBare g') :
  Inv X pins σ H' { s with heap:=h',gens:=g',drawn:=d',toks:=t' }:=by
 have neL:∀ b o,X.s₀.heap.get? b=some o→b≠X.env.locals:=fun b o e=>LV (Lz (LH e) I.ok.above)
 have neC:∀ b o,X.s₀.heap.get? b=some o→b∉X.ex→b∉ch:=fun b o e hx hb=>by
  rcases(hch b hb).1 with z|z
  ·exact hx z
  ·exact absurd (Lz (LH e) z) (MT _)
 have cellK:∀ x c,X.env.cells.lookup x=some c→∀ v,s.heap.IsCell c v→h'.IsCell c v:=fun x c e v zz=>by
  obtain⟨o,ho,hd⟩:=zz
  have nch:c∉ch:=fun z=>(hch c z).2.2.1 x c e rfl
  by_cases hc:c∈X.fs
  ·obtain⟨sl,q⟩:=slot c o (I.cne x c e) hc nch ho (I.freeC x c e)
   exact⟨_,q,hd⟩
  ·exact⟨o,keep c o (I.cne x c e) hc nch ho (I.freeC x c e),hd⟩
 refine⟨I.ok,I.os,hg,⟨fun b o e n hb hx=>?_,fun b o e n hb hx=>?_,fun b o e n hx=>?_,fun b o e hx=>?_,fun b xs e=>tups b xs (I.base.tups b xs e),fun b o xs e=>frzs b o xs (I.base.frzs b o xs e),fun b ps e=>?_⟩,?_,fun x c e=>?_,?_,fun x c e=>?_,fun p hp=>?_,hok,I.len⟩
 ·exact keep b o (neL b o e) hb (neC b o e hx) (I.base.keep b o e n hb hx) (I.base.free b o e n hx)
 ·obtain⟨sl,e1⟩:=I.base.slot b o e n hb hx
  obtain⟨sl',e2⟩:=slot b _ (neL b o e) hb (neC b o e hx) e1 (I.base.free b o e n hx)
  exact⟨sl',e2⟩
 ·obtain⟨o',e1⟩:=I.base.there b o e hx
  exact free b o' (neC b o e hx) e1 (I.base.free b o e n hx)
 ·obtain⟨o',e1⟩:=I.base.there b o e hx
  exact there b o' (neC b o e hx) e1
 ·obtain⟨m1,e1⟩:=I.base.tbls b ps e
  obtain⟨m2,e2⟩:=tbls b _ e1
  exact⟨m1++m2,by rw[e2,Array.append_assoc]⟩
 ·obtain⟨m,hn,hl⟩:=I.loc
  refine⟨m,ns m hn,fun i x v e1 e2 e3=>?_⟩
  obtain⟨u,r,l⟩:=hl i x v e1 e2 e3
  refine⟨u,r,?_⟩
  rcases l with l|⟨k,c,e,z⟩
  ·exact .inl l
  ·exact .inr ⟨k,c,e,cellK x c e _ z⟩
 ·obtain⟨v,z⟩:=I.cell x c e
  exact⟨v,cellK x c e v z⟩
 ·obtain⟨m,⟨o,_,_,ho,_⟩,_⟩:=I.loc
  exact free _ o (fun z=>(hch _ z).2.1 rfl) ho I.free
 ·obtain⟨v,o,ho,hd⟩:=I.cell x c e
  exact free c o (fun z=>(hch c z).2.2.1 x c e rfl) ho (I.freeC x c e)
 ·obtain⟨e,n,ne,nf,d⟩:=I.pin p hp
  have nch:p.1∉ch:=fun z=>(hch p.1 z).2.2.2 p hp rfl
  exact⟨keep p.1 p.2 ne nf nch e n,free p.1 p.2 nch e n,ne,nf,d⟩
theorem Inv.un{t':Nat}(I:Inv X pins σ H s)(u:Un X.fs [] H H' s.heap h')(hok:HOk X.prog X.w H' h'):Inv X pins σ H' { s with heap:=h',toks:=t' }:=by
 obtain⟨m,⟨o,es,ep,ho,r⟩,_⟩:=id I.loc
 obtain⟨sl,hL⟩:=u.any ho I.free (by simp)
 exact I.step (g':=s.gens) (d':=s.drawn) (ch:=[]) (fun _ z=>nomatch z) (fun b o _ hb _ e n=>u.keep b o e n hb (by simp)) (fun b o _ hb _ e n=>u.slot b o e n hb (by simp)) (fun b o _ e n=>u.free b o e n (by simp)) (fun b o _ e=>u.there b o e (by simp)) u.tups u.frzs u.tbls (fun m' hm=>by
  obtain⟨o',es',ep',ho',r'⟩:=hm
  rw[ho]at ho';cases ho'
  exact⟨_,es',ep',hL,r'⟩) hok I.bare
theorem Inv.call{g':Array GenState}{t':Nat}{d':Drawn}{ch:List Addr}(I:Inv X pins σ H s)(u:Un (frs X.stack) ch H H' s.heap h')(hok:HOk X.prog X.w H' h')(hg:AllBare g')
  (hch:∀ b∈ch,(b∈X.ex∨X.s₀.heap.objs.size≤b)∧b≠X.env.locals∧(∀ x c,X.env.cells.lookup x=some c→c≠b)∧∀ p∈X.pn++pins,p.1≠b) :
  Inv X pins σ H' { s with heap:=h',gens:=g',drawn:=d',toks:=t' }:=by
 obtain⟨m,⟨o,es,ep,ho,r⟩,_⟩:=id I.loc
 obtain⟨sl,hL⟩:=u.any ho I.free fun z=>(hch _ z).2.1 rfl
 exact I.step (ch:=ch) hch (fun b o hL hb hc e n=>u.keep b o e n (fun z=>(LB.mp (I.stkSub b z)).elim hL hb) hc) (fun b o _ _ hc e n=>u.any e n hc) (fun b o hc e n=>u.free b o e n hc) (fun b o hc e=>u.there b o e hc) u.tups u.frzs u.tbls (fun m' hm=>by
  obtain⟨o',es',ep',ho',r'⟩:=hm
  rw[ho]at ho';cases ho'
  exact⟨_,es',ep',hL,r'⟩) hok hg
theorem Inv.turned{t':Nat}{it:Addr}(I:Inv X pins σ H s)(k:∀ b o,b≠it→s.heap.get? b=some o→h'.get? b=some o)(hn:H it=none)(hL:it≠X.env.locals)
  (h1:it∈X.ex∨X.s₀.heap.objs.size≤it) (h2:∀ x c,X.env.cells.lookup x=some c→c≠it) (h3:∀ p∈X.pn++pins,p.1≠it):Inv X pins σ H { s with heap:=h',toks:=t' }:=by
 have nit:∀ b u,H b=some u→b≠it:=fun b u e z=>by rw[z,hn]at e;cases e
 refine I.step (g':=s.gens) (d':=s.drawn) (ch:=[it]) (fun b hb=>?_) (fun b o _ _ hc e _=>k b o (fun z=>hc (by simp[z])) e) (fun b o _ _ hc e _=>⟨o.slots,k b o (fun z=>hc (by simp[z])) e⟩) (fun _ _ _ _ n=>n)
  (fun b o hc e=>⟨o,k b o (fun z=>hc (by simp[z])) e⟩) (fun _ _ e=>e) (fun _ _ _ e=>e) (fun b ps e=>⟨#[],by rw[e];simp⟩) (fun m hm=>?_) (fun b u e=>?_) I.bare
 ·have e:b=it:=by simpa using hb
  subst e
  exact⟨h1,hL,h2,h3⟩
 ·obtain⟨o,es,ep,ho,r⟩:=hm
  exact⟨o,es,ep,k _ o (Ne.symm hL) ho,r⟩
 ·refine(I.hok b u e).stay (fun c v hc q=>k c v ?_ q) (fun _ q=>q) fun _ _ q=>q
  rcases hc with z|z
  ·rw[z];exact nit b u e
  ·exact nit c _ z
theorem Inv.tok(I:Inv X pins σ H s)(t:Nat):Inv X pins σ H { s with toks:=t }:=I.un (h':=s.heap) (t':=t) Un.refl I.hok
theorem Inv.kept{t':Nat}(I:Inv X pins σ H s)(k:∀ b u,s.heap.get? b=some u→h'.get? b=some u):Inv X pins σ H { s with heap:=h',toks:=t' }:=I.un (Un.kept k) (I.hok.kept k)
theorem Inv.laid{a:Addr}{o:HO}{t':Nat}(I:Inv X pins σ H s)(k:∀ b u,s.heap.get? b=some u→h'.get? b=some u)(hp:s.heap.objs.size≤a)(new:A0 X.prog X.w (upd H a o) h' a o) :
  Inv X pins σ (upd H a o) { s with heap:=h',toks:=t' }:=I.un (Un.laid k hp (I.hok.fresh hp)) (I.hok.laid k hp new)
theorem Inv.write{x e:Addr}{o:HO}{t':Nat}(I:Inv X pins σ H s)(mu:Mut (H x))(he:e=x∨H e=some (.own x))(k:∀ b u,b≠e→s.heap.get? b=some u→h'.get? b=some u)(heo:∃ u,h'.get? e=some u)
  (new:A0 X.prog X.w (upd H x o) h' x o):Inv X pins σ (upd H x o) { s with heap:=h',toks:=t' }:=I.un (Un.write mu he k heo) (I.hok.write mu he k heo new)
theorem Inv.pins_of{pins':List (Addr × Obj)}(I:Inv X pins σ H s)(h:∀ p∈pins',s.heap.get? p.1=some p.2∧H p.1=none∧p.1≠X.env.locals∧p.1∉X.fs∧∀ v,p.2.data ≠ .cell v):Inv X pins' σ H s :=
 ⟨I.ok,I.os,I.bare,I.base,I.loc,I.cell,I.free,I.freeC,fun p hp=>(Md.mp hp).elim (fun z=>I.pin p (ME _ z)) (h p),I.hok,I.len⟩
theorem lU{N:List Str}(hN:N.Nodup){i j:Nat}{x:Str}(a:N[i]? = some x)(b:N[j]? = some x):i=j:=by
 obtain⟨h1,e1⟩:=LP.mp a
 obtain⟨h2,e2⟩:=LP.mp b
 exact(List.getElem_inj hN).mp (e1.trans e2.symm)
theorem fW{M:Model}{A:Around}{E:Value→Shared→Prop}{i:Nat}{x:Str}{v:V}{u:Value}{Q:Unit→Shared→Prop}(I:Inv X pins σ H s)(hN:X.N.Nodup)(hi:X.N[i]? = some x)(hx:Loc X.env.scope x)(r:o7 v u)
  (h:∀ s',Inv X pins (σ.set i (some v)) H s'→(∃ a,Heap.SameBut a s.heap s'.heap∧(a=X.env.locals∨X.env.cells.lookup x=some a))→Q () s') (hf:X.fn x=true∨X.env.scope.names.lookup x=some .local:=by first|exact .inl rfl|exact .inr rfl|assumption):wpAny M A (storeName X.env x u) Q E s:=by
 obtain⟨m,hn,hl⟩:=id I.loc
 have hcls:(X.env.scope.kind == .class || (X.env.scope.kind == .module && X.env.locals != X.env.globals))=false:=by rw[I.ok.kind];rfl
 have hiσ:i<σ.length:=by rw[I.len];exact(LP.mp hi).1
 have cne:=I.cne
 have tracked:∀{a:Addr} {h':Heap},(∃ o,s.heap.get? a=some o∧H a=none)→Heap.SameBut a s.heap h'→HOk X.prog X.w H h':=fun{a h'} ha hs b ob e=>by
  obtain⟨_,_,hfree⟩:=ha
  refine(I.hok b ob e).stay (fun c w' hc q=>(hs.2 c ?_).trans q) (fun _ q=>q) fun _ _ q=>q
  rintro rfl
  rcases hc with rfl|hc
  ·rw[hfree]at e;cases e
  ·rw[hfree]at hc;cases hc
 rcases hx with hk|hk
 ·refine wpAny_storeName_local hk hn (fun h' hn' hs=>?_) hcls
  obtain⟨oL,_,_,hoL,_⟩:=id hn
  refine h _ ⟨I.ok,I.os,I.bare,⟨fun b o e n hb hx=>?_,fun b o e n hb hx=>?_,I.base.free,fun b o e hx=>?_,I.base.tups,I.base.frzs,I.base.tbls⟩,⟨_,hn',fun j y v' e1 e2 e3=>?_⟩,fun y c e=>?_,I.free,I.freeC,fun p hp=>?_,tracked ⟨oL,hoL,I.free⟩ hs,by simpa using I.len⟩ ⟨_,hs,.inl rfl⟩
  ·exact(hs.2 b (LV (Lz (LH e) I.ok.above))).trans (I.base.keep b o e n hb hx)
  ·obtain⟨sl,e1⟩:=I.base.slot b o e n hb hx
   exact⟨sl,(hs.2 b (LV (Lz (LH e) I.ok.above))).trans e1⟩
  ·obtain⟨o',e1⟩:=I.base.there b o e hx
   exact⟨o',(hs.2 b (LV (Lz (LH e) I.ok.above))).trans e1⟩
  ·by_cases hj:j=i
   ·subst hj
    rw[hi]at e1;cases e1
    rw[OC hiσ]at e2
    cases e2
    exact⟨u,r,.inl ⟨hk,by simp⟩⟩
   ·rw[OR (Ne.symm hj)]at e2
    obtain⟨u',r',q⟩:=hl j y v' e1 e2 e3
    refine⟨u',r',?_⟩
    rcases q with⟨k,e⟩|⟨k,c,e,z⟩
    ·refine .inl ⟨k,?_⟩
     have:y≠x:=fun e=>hj (lU hN e1 (e▸hi))
     simp[this,e]
    ·exact .inr ⟨k,c,e,z.sameBut hs (cne y c e)⟩
  ·obtain⟨w',z⟩:=I.cell y c e
   exact⟨w',z.sameBut hs (cne y c e)⟩
  ·obtain⟨e,n,ne,nf,d⟩:=I.pin p hp
   exact⟨(hs.2 p.1 ne).trans e,n,ne,nf,d⟩
 ·have hfn:X.fn x=true:=by
   rcases hf with z|z
   ·exact z
   ·rw[z]at hk;cases hk
  obtain⟨c,hc⟩:=I.ok.has x (.inl hk)
  obtain⟨w',z⟩:=I.cell x c hc
  refine wpAny_storeName_cell I.ok.kind hk hc z (fun h' hc' hs=>?_)
  obtain⟨oc,hoc,hocd⟩:=id z
  refine h { s with heap:=h' } ⟨I.ok,I.os,I.bare,⟨fun b o e n hb hx=>?_,fun b o e n hb hx=>?_,I.base.free,fun b o e hx=>?_,I.base.tups,I.base.frzs,I.base.tbls⟩,⟨m,hn.sameBut hs (Ne.symm (cne x c hc)),fun j y v' e1 e2 e3=>?_⟩,fun y c' e=>?_,I.free,I.freeC,fun p hp=>?_,tracked ⟨oc,hoc,I.freeC x c hc⟩ hs,by simpa using I.len⟩ ⟨c,hs,.inr hc⟩
  ·exact(hs.2 b (LV (Lz (LH e) (I.ok.cab x c hfn hc)))).trans (I.base.keep b o e n hb hx)
  ·obtain⟨sl,e1⟩:=I.base.slot b o e n hb hx
   exact⟨sl,(hs.2 b (LV (Lz (LH e) (I.ok.cab x c hfn hc)))).trans e1⟩
  ·obtain⟨o',e1⟩:=I.base.there b o e hx
   exact⟨o',(hs.2 b (LV (Lz (LH e) (I.ok.cab x c hfn hc)))).trans e1⟩
  ·by_cases hj:j=i
   ·subst hj
    rw[hi]at e1;cases e1
    rw[OC hiσ]at e2
    cases e2
    exact⟨u,r,.inr ⟨.inl hk,c,hc,hc'⟩⟩
   ·rw[OR (Ne.symm hj)]at e2
    obtain⟨u',r',q⟩:=hl j y v' e1 e2 e3
    refine⟨u',r',?_⟩
    rcases q with q|⟨k,c',e,z'⟩
    ·exact .inl q
    ·refine .inr ⟨k,c',e,z'.sameBut hs ?_⟩
     rintro rfl
     exact hj (lU hN e1 (I.ok.inj _ _ _ e hc▸hi))
  ·by_cases hcc:c'=c
   ·subst hcc;exact⟨_,hc'⟩
   ·obtain⟨w2,z2⟩:=I.cell y c' e
    exact⟨w2,z2.sameBut hs hcc⟩
  ·obtain⟨e,n,ne,nf,d⟩:=I.pin p hp
   refine⟨(hs.2 p.1 ?_).trans e,n,ne,nf,d⟩
   intro q
   rw[q,hoc]at e
   have q':oc=p.2:=Option.some.inj e
   exact d w' (by rw[← q'];exact hocd)
theorem Z4{M:Model}{A:Around}{E:Value→Shared→Prop}{i:Nat}{x:Str}{v:V}{u:Value}{Q:Unit→Shared→Prop}(I:Inv X pins σ H s)(hN:X.N.Nodup)(hi:X.N[i]? = some x)(hx:Loc X.env.scope x)(r:o7 v u)
  (h:∀ s',Inv X pins (σ.set i (some v)) H s'→Q () s') (hf:X.fn x=true∨X.env.scope.names.lookup x=some .local:=by first|exact .inl rfl|exact .inr rfl|assumption):wpAny M A (storeName X.env x u) Q E s :=
 fW I hN hi hx r (fun s' I' _=>h s' I') hf
theorem Inv.call'{s':Shared}{ch:List Addr}(I:Inv X pins σ H s)(ho:s'.os=s.os)(u:Un (frs X.stack) ch H H' s.heap s'.heap)(hok:HOk X.prog X.w H' s'.heap)(hg:AllBare s'.gens)
  (hch:∀ b∈ch,(b∈X.ex∨X.s₀.heap.objs.size≤b)∧b≠X.env.locals∧(∀ x c,X.env.cells.lookup x=some c→c≠b)∧∀ p∈X.pn++pins,p.1≠b):Inv X pins σ H' s':=by
 obtain⟨h',g',d',t',o'⟩:=s'
 have e:o'=s.os:=ho
 subst e
 exact I.call (g':=g') (t':=t') (d':=d') u hok hg hch
end
noncomputable abbrev XK:=Value→Option Addr→Hp→Prop
noncomputable abbrev St:=List (Option V)
noncomputable abbrev VK:=V→Hp→Prop
noncomputable abbrev TE:=St→Hp→VK→Prop
noncomputable abbrev TT:=St→Hp→(Bool→Hp→Prop)→Prop
noncomputable abbrev TA:=St→Hp→(List V→Hp→Prop)→Prop
structure mL where
 nx:St→Hp→Prop
 rt:VK
 bk:St→Hp→Prop:=fun _ _=>False
 ct:St→Hp→Prop:=fun _ _=>False
noncomputable abbrev TS:=mL→St→Hp→Prop
def EP(X:Cx)(pins:List (Addr × Obj))(σ:St)(Q:VK)(u:Value)(s':Shared):Prop:=∃ v H',Inv X pins σ H' s'∧o7 v u∧Q v H'
def TP(X:Cx)(pins:List (Addr × Obj))(σ:St)(Q:Bool→Hp→Prop)(b:Bool)(s':Shared):Prop:=∃ H',Inv X pins σ H' s'∧Q b H'
def AP(X:Cx)(pins:List (Addr × Obj))(σ:St)(Q:List V→Hp→Prop)(us:List Value)(s':Shared):Prop:=∃ vs H',Inv X pins σ H' s'∧h8 vs us∧Q vs H'
def SP(X:Cx)(pins:List (Addr × Obj))(D:mL)(f:Flow)(s':Shared):Prop :=
 match f with
 | .next=>∃ σ' H',Inv X pins σ' H' s'∧D.nx σ' H'
 | .brk=>∃ σ' H',Inv X pins σ' H' s'∧D.bk σ' H'
 | .cont=>∃ σ' H',Inv X pins σ' H' s'∧D.ct σ' H'
 | .ret u=>∃ v σ' H',Inv X pins σ' H' s'∧o7 v u∧D.rt v H'
def PE(X:Cx)(e:Expr)(t:TE):Prop :=
 ∀(pins:List (Addr × Obj)) (s:Shared) (σ:St) (H:Hp) (Q:VK),Inv X pins σ H s→t σ H Q→wpAny (model X.prog X.w) X.A (eval e X.env) (EP X pins σ Q) X.xe s
def PT(X:Cx)(e:Expr)(t:TT):Prop :=
 ∀(pins:List (Addr × Obj)) (s:Shared) (σ:St) (H:Hp) (Q:Bool→Hp→Prop),Inv X pins σ H s→t σ H Q→wpAny (model X.prog X.w) X.A (isTrue e X.env (eval e X.env)) (TP X pins σ Q) X.xe s
def PW(X:Cx)(e:Expr)(t:TT):Prop :=
 ∀(whole:Sem Value) (pins:List (Addr × Obj)) (s:Shared) (σ:St) (H:Hp) (Q:Bool→Hp→Prop),Inv X pins σ H s→t σ H Q→wpAny (model X.prog X.w) X.A (isTrue e X.env whole) (TP X pins σ Q) X.xe s
theorem PW.pt{X:Cx}{e:Expr}{t:TT}(h:PW X e t):PT X e t:=h _
def PA(X:Cx)(es:List Expr)(t:TA):Prop :=
 ∀(pos:Pos) (pins:List (Addr × Obj)) (s:Shared) (σ:St) (H:Hp) (Q:List V→Hp→Prop),Inv X pins σ H s→t σ H Q→wpAny (model X.prog X.w) X.A (spliced (backTo pos (starEach es X.env))) (AP X pins σ Q) X.xe s
def PS(X:Cx)(st:Stmt)(t:TS):Prop :=
 ∀(pins:List (Addr × Obj)) (s:Shared) (σ:St) (H:Hp) (D:mL),Inv X pins σ H s→t D σ H→wpAny (model X.prog X.w) X.A (exec st X.env) (SP X pins D) X.xe s
def PSs(X:Cx)(st:List Stmt)(t:TS):Prop :=
 ∀(pins:List (Addr × Obj)) (s:Shared) (σ:St) (H:Hp) (D:mL),Inv X pins σ H s→t D σ H→wpAny (model X.prog X.w) X.A (execs st X.env) (SP X pins D) X.xe s
theorem thn{α:Type}{t:Sem α}{Q Q':α→Shared→Prop}{M:Model}{A:Around}{E:Value→Shared→Prop}{s:Shared}(h:wpAny M A t Q E s)(hQ:∀ a s,Q a s→Q' a s):wpAny M A t Q' E s:=wpAny_mono h hQ fun _ _ x=>x
section
variable {X:Cx}
def FH(i:Nat):TE:=fun σ H Q=>∃ v,σ[i]? = some (some v)∧Q v H
def tC(v:V):TE:=fun _ H Q=>Q v H
theorem vm{i:Nat}{x:Str}{pos:Pos}(hN:X.N[i]? = some x)(hv:Vis X.env.scope x)(hd:(x == ("__debug__" : Str))=false:=by decide)(hcd:(x == ("__classdict__" : Str))=false:=by decide):PE X (.Name x pos) (FH i):=by
 intro pins s σ H Q I h
 obtain⟨v,e,h⟩:=h
 obtain⟨m,hn,hl⟩:=I.loc
 obtain⟨u,r,l⟩:=hl i x v hN e hv
 have fin:EP X pins σ Q u s:=⟨v,H,I,r,h⟩
 rcases l with⟨hk,hm⟩|⟨hk,c,hc,hcell⟩
 ·exact wpAny_Name (wpAny_loadName_local I.ok.kind hk hn hm fin) hd
 ·rcases hk with hk|hk
  ·exact wpAny_Name (wpAny_loadName_cell I.ok.kind hk hc hcell fin) hd
  ·exact wpAny_Name (wpAny_loadName_free I.ok.kind hk hc hcell fin hcd) hd
theorem DS{i j pos}:PE X (.Constant (.int i) j pos) (tC (.int i)):=fun _ _ _ H _ I h=>wpAny_Constant_int ⟨.int i,H,I.tok _,⟨_,rfl⟩,h⟩
theorem Gi{b j pos}:PE X (.Constant (.bool b) j pos) (tC (.bl b)):=fun _ _ _ H _ I h=>Constant_bool ⟨.bl b,H,I,rfl,h⟩
theorem DR{j pos}:PE X (.Constant .none j pos) (tC .non):=fun _ _ _ H _ I h=>Constant_none ⟨.non,H,I,rfl,h⟩
theorem DO{x j pos}:PE X (.Constant (.str x) j pos) (tC (.str x)):=fun _ _ _ H _ I h=>Calls.Constant_str ⟨.str x,H,I.tok _,⟨_,rfl⟩,h⟩
def Gl(X:Cx)(x:Str):Prop:=X.env.kindOf x=some .globalImplicit
theorem qm{E:Value→Shared→Prop}{pins:List (Addr × Obj)}{s:Shared}{σ:St}{H:Hp}{x:Str}{u:Value}{pos:Pos}{Q:Value→Shared→Prop}(I:Inv X pins σ H s)(hg:Gl X x)(hm:X.mg x=some u)(h:Q u s)
  (hd:(x == ("__debug__" : Str))=false:=by decide):wpAny (model X.prog X.w) X.A (eval (.Name x pos) X.env) Q E s :=
 Calls.Name_function_global I.ok.kind hg (Calls.loadGlobal_global (by rw[I.ok.glob];exact I.mod.glob.keeps I.bk) hm h) hd
theorem K2{E:Value→Shared→Prop}{pins:List (Addr × Obj)}{s:Shared}{σ:St}{H:Hp}{x:Str}{u:Value}{pos:Pos}{Q:Value→Shared→Prop}(I:Inv X pins σ H s)(hg:Gl X x)(hm:X.mg x=none)(hv:bootBuiltins x=some u)(h:Q u s)
  (hn:x ≠ "__name__" := by decide) (hd:(x == ("__debug__" : Str))=false:=by decide):wpAny (model X.prog X.w) X.A (eval (.Name x pos) X.env) Q E s:=by
 obtain⟨mb,h1,h2⟩:=I.mod.blt
 exact Calls.Name_function_global I.ok.kind hg (Calls.loadGlobal_builtin (by rw[I.ok.glob];exact I.mod.glob.keeps I.bk) hm (by rw[I.ok.blt];exact h1.keeps I.bk) ((h2 x hn).trans hv) h) hd
theorem zO{x:Str}{v:V}{u:Value}{pos:Pos}(hg:Gl X x)(hm:X.mg x=some u)(r:o7 v u)(hd:(x == ("__debug__" : Str))=false:=by decide):PE X (.Name x pos) (tC v) :=
 fun _ _ _ H _ I h=>qm I hg hm ⟨v,H,I,r,h⟩ hd
theorem zS{x:Str}{v:V}{u:Value}{pos:Pos}(hg:Gl X x)(hm:X.mg x=none)(hv:bootBuiltins x=some u)(r:o7 v u)(hn:x ≠ "__name__" := by decide)(hd:(x == ("__debug__" : Str))=false:=by decide):PE X (.Name x pos) (tC v) :=
 fun _ _ _ H _ I h=>K2 I hg hm hv ⟨v,H,I,r,h⟩ hn hd
variable {a b:Expr} {ta tb:TE} {pos:Pos}
theorem o7.none_iff{x:V}{v:Value}(r:o7 x v):(v == Value.none)=decide (x = .non):=by
 cases x with
 | non=>cases r;rfl
 | bl _=>cases r;rfl
 | int _=>obtain⟨t,rfl⟩:=r;rfl
 | str _=>obtain⟨t,rfl⟩:=r;rfl
 | byt _=>obtain⟨t,rfl⟩:=r;rfl
 | flt _=>obtain⟨t,rfl⟩:=r;rfl
 | ref _=>cases r;rfl
 | ty _=>cases r;rfl
def tB(t:TE):TT:=fun σ H Q=>t σ H fun x H1=>∃ c,x = .bl c∧Q c H1
theorem DA{e:Expr}{t:TE}(h:PE X e t)(he:∀ whole,isTrue e X.env whole=(do let v ← whole;standAt e.pos;holding [v] (truthy v)):=by intro _;rfl):PT X e (tB t):=by
 intro pins s σ H Q I hw
 refine isTrue_plain (thn (h pins s σ H _ I hw) fun v s1 ⟨x,H1,I1,r1,q1⟩=>?_) (he _)
 obtain⟨d,rfl,q⟩:=q1
 cases r1
 exact wpAny_truthy_bool ⟨H1,I1,q⟩
variable {tA tB':TT} {F0:List Expr}
def HR(t u:TT):TT:=fun σ H Q=>t σ H fun c H1=>if c=true then u σ H1 Q else Q false H1
def tOr(t u:TT):TT:=fun σ H Q=>t σ H fun c H1=>if c=true then Q true H1 else u σ H1 Q
def HK(t:TT):TT:=fun σ H Q=>t σ H fun c H1=>Q (!c) H1
theorem zt(ha:PT X a tA):PW X (.BoolOp .And [a] pos) tA:=by
 intro wh pins s σ H Q I h
 refine isTrue_and (thn (ha pins s σ H Q I h) fun c s1 e=>?_)
 cases c with
 | true=>exact isTrue_and_nil e
 | false=>exact e
theorem Dx(ha:PT X a tA):PW X (.BoolOp .Or [a] pos) tA:=by
 intro wh pins s σ H Q I h
 refine isTrue_or (thn (ha pins s σ H Q I h) fun c s1 e=>?_)
 cases c with
 | false=>exact isTrue_or_nil e
 | true=>exact e
theorem Dy(ha:PT X a tA)(hb:PW X (.BoolOp .And (b :: F0) pos) tB'):PW X (.BoolOp .And (a :: b :: F0) pos) (HR tA tB'):=by
 intro wh pins s σ H Q I h
 refine isTrue_and (thn (ha pins s σ H _ I h) fun c s1 zz=>?_)
 obtain⟨H1,I1,q1⟩:=zz
 cases c with
 | true=>exact hb wh pins s1 σ H1 Q I1 q1
 | false=>exact⟨H1,I1,q1⟩
theorem Gd(ha:PT X a tA)(hb:PW X (.BoolOp .Or (b :: F0) pos) tB'):PW X (.BoolOp .Or (a :: b :: F0) pos) (tOr tA tB'):=by
 intro wh pins s σ H Q I h
 refine isTrue_or (thn (ha pins s σ H _ I h) fun c s1 zz=>?_)
 obtain⟨H1,I1,q1⟩:=zz
 cases c with
 | true=>exact⟨H1,I1,q1⟩
 | false=>exact hb wh pins s1 σ H1 Q I1 q1
theorem DB(ha:PT X a tA):PT X (.UnaryOp .Not a pos) (HK tA):=by
 intro pins s σ H Q I h
 exact isTrue_not (ha pins s σ H (fun c H1=>Q (!c) H1) I h)
def FT(ta tb:TE):TE:=fun σ H Q=>ta σ H fun x H1=>∃ c,x = .bl c∧if c=true then tb σ H1 Q else Q (.bl false) H1
def FK(ta:TE):TE:=fun σ H Q=>ta σ H fun x H1=>∃ c,x = .bl c∧Q (.bl (!c)) H1
theorem DP{op}{t:TE}(h:PE X a t):PE X (.BoolOp op [a] pos) t:=fun pins s σ H Q I hw=>BoolOp_one (h pins s σ H Q I hw)
theorem DT(ha:PE X a ta)(hb:PE X (.BoolOp .And (b :: F0) pos) tb):PE X (.BoolOp .And (a :: b :: F0) pos) (FT ta tb):=by
 intro pins s σ H Q I h
 refine BoolOp_and (thn (ha pins s σ H _ I h) fun v s1 zz=>?_)
 obtain⟨x,H1,I1,r1,q1⟩:=zz
 obtain⟨c,rfl,q1⟩:=q1
 cases r1
 refine wpAny_truthy_bool ?_
 cases c with
 | true=>exact hb pins s1 σ H1 Q I1 q1
 | false=>exact⟨.bl false,H1,I1,rfl,q1⟩
theorem DQ(ha:PE X a ta):PE X (.UnaryOp .Not a pos) (FK ta):=by
 intro pins s σ H Q I h
 refine UnaryOp_ (thn (ha pins s σ H _ I h) fun v s1 zz=>?_)
 obtain⟨x,H1,I1,r1,q1⟩:=zz
 obtain⟨c,rfl,q1⟩:=q1
 cases r1
 exact not_of (wpAny_truthy_bool ⟨.bl (!c),H1,I1,rfl,q1⟩)
def tIf(t:TT)(ta tb:TE):TE:=fun σ H Q=>t σ H fun c H1=>if c=true then ta σ H1 Q else tb σ H1 Q
theorem vq{c:Expr}(hc:PT X c tA)(ha:PE X a ta)(hb:PE X b tb):PE X (.IfExp c a b pos) (tIf tA ta tb):=by
 intro pins s σ H Q I h
 refine wpAny_IfExp (thn (hc pins s σ H _ I h) fun d s1 zz=>?_)
 obtain⟨H1,I1,q1⟩:=zz
 cases d with
 | true=>exact ha pins s1 σ H1 Q I1 q1
 | false=>exact hb pins s1 σ H1 Q I1 q1
end
def SqL(K:Ly)(H:Hp)(a:Addr)(xs:List V):Prop :=
 Rd H a (.lst xs) ∨
  ∃(o:Obj) (its:Array Value) (n:Nat),K.lookup a=some o∧o.cls = .type "list" ∧ o.dict=none∧o.data = .seq its n∧its.size≤sizeLine∧h8 xs its.toList
def SqT(K:Ly)(H:Hp)(a:Addr)(xs:List V):Prop :=
 Rd H a (.tup xs) ∨
  ∃(o:Obj) (its:Array Value) (n:Nat),K.lookup a=some o∧o.cls = .type "tuple" ∧ o.data = .seq its n∧its.size≤sizeLine∧h8 xs its.toList
noncomputable def Iw:Value→Option V
 | .none=>some .non
 | .bool b=>some (.bl b)
 | .int i _=>some (.int i)
 | .str x _=>some (.str x)
 | .bytes b _=>some (.byt b)
 | .float b _=>some (.flt b)
 | .ref a=>some (.ref a)
 | .type n=>some (.ty n)
 | _=>none
theorem o7.abs{x:V}{u:Value}(r:o7 x u):Iw u=some x:=by
 cases x with
 | non=>cases r;rfl
 | bl _=>cases r;rfl
 | int _=>obtain⟨t,rfl⟩:=r;rfl
 | str _=>obtain⟨t,rfl⟩:=r;rfl
 | byt _=>obtain⟨t,rfl⟩:=r;rfl
 | flt _=>obtain⟨t,rfl⟩:=r;rfl
 | ref _=>cases r;rfl
 | ty _=>cases r;rfl
theorem o7.inj{x y:V}{u:Value}(r:o7 x u)(q:o7 y u):x=y:=Option.some.inj (r.abs.symm.trans q.abs)
theorem h8.inj:∀{xs ys:List V} {us:List Value},h8 xs us→h8 ys us→xs=ys
 | _,_,_,.nil,.nil=>rfl
 | _,_,_,.cons r t,.cons r' t'=>by rw[r.inj r',h8.inj t t']
section
variable {X:Cx} {pins:List (Addr × Obj)} {σ:St} {H:Hp} {s:Shared} {a:Addr} {xs ys:List V}
theorem SqL.of{K:Ly}(h:H a=some (.lst xs)):SqL K H a xs:=.inl (.inl h)
theorem SqT.of{K:Ly}(h:H a=some (.tup xs)):SqT K H a xs:=.inl (.inl h)
theorem Inv.list(I:Inv X pins σ H s)(h:SqL X.K H a xs):∃ its:List Value,h8 xs its∧PlainL s.heap a its.toArray∧xs.length≤sizeLine:=by
 rcases h with h|⟨o,its,n,hk,hc,hd,hs,hz,r⟩
 ·obtain⟨z,its,n,r,e⟩:=h.ok I.hok
  exact⟨its,r,⟨_,n,e,rfl,rfl,rfl⟩,z⟩
 ·refine⟨its.toList,r,⟨o,n,I.kIn a o hk,hc,hd,by simpa using hs⟩,?_⟩
  have e:=r.length
  simp only[Array.length_toList]at e
  omega
theorem Inv.tuple(I:Inv X pins σ H s)(h:SqT X.K H a xs):∃ its:List Value,h8 xs its∧IsTup s.heap a its.toArray∧xs.length≤sizeLine:=by
 rcases h with h|⟨o,its,n,hk,hc,hs,hz,r⟩
 ·obtain⟨z,its,r,p⟩:=h.ok I.hok
  exact⟨its,r,p,z⟩
 ·refine⟨its.toList,r,⟨o,I.kIn a o hk,hc,n,by simpa using hs⟩,?_⟩
  have e:=r.length
  simp only[Array.length_toList]at e
  omega
theorem Inv.list_inj(I:Inv X pins σ H s)(h:SqL X.K H a xs)(h':SqL X.K H a ys):xs=ys:=by
 obtain⟨its,r,⟨o,n,e,_,_,d⟩,_⟩:=I.list h
 obtain⟨its',r',⟨o',n',e',_,_,d'⟩,_⟩:=I.list h'
 rw[e]at e';cases e'
 rw[d]at d'
 injection d' with d1 _
 have:its=its':=by simpa using congrArg Array.toList d1
 subst this
 exact r.inj r'
theorem Inv.tuple_inj(I:Inv X pins σ H s)(h:SqT X.K H a xs)(h':SqT X.K H a ys):xs=ys:=by
 obtain⟨its,r,⟨o,e,_,n,d⟩,_⟩:=I.tuple h
 obtain⟨its',r',⟨o',e',_,n',d'⟩,_⟩:=I.tuple h'
 rw[e]at e';cases e'
 rw[d]at d'
 injection d' with d1 _
 have:its=its':=by simpa using congrArg Array.toList d1
 subst this
 exact r.inj r'
end
noncomputable abbrev Cx.wish(X:Cx)(E:Value→Shared→Prop):Cx:={ X with xe:=E }
noncomputable abbrev Cx.nox(X:Cx):Cx:=X.wish fun _ _=>False
theorem Cx.Ok.wish{X:Cx}(ok:X.Ok)(E:Value→Shared→Prop):(X.wish E).Ok :=
 ⟨ok.mod,ok.kind,ok.glob,ok.blt,ok.above,ok.inj,ok.has,ok.cab,ok.hd,ok.frames,ok.stk,ok.exf,ok.bs,ok.bsz,ok.noex,ok.exfs,ok.funs,ok.frf⟩
theorem Cx.Ok.unwish{X:Cx}{E:Value→Shared→Prop}(ok:(X.wish E).Ok):X.Ok :=
 ⟨ok.mod,ok.kind,ok.glob,ok.blt,ok.above,ok.inj,ok.has,ok.cab,ok.hd,ok.frames,ok.stk,ok.exf,ok.bs,ok.bsz,ok.noex,ok.exfs,ok.funs,ok.frf⟩
section
variable {X:Cx} {pins:List (Addr × Obj)} {σ:St} {H:Hp} {s:Shared} {E:Value→Shared→Prop}
theorem Inv.wish(I:Inv X pins σ H s)(E:Value→Shared→Prop):Inv (X.wish E) pins σ H s:=⟨I.ok.wish E,I.os,I.bare,I.base,I.loc,I.cell,I.free,I.freeC,I.pin,I.hok,I.len⟩
theorem Inv.unwish(I:Inv (X.wish E) pins σ H s):Inv X pins σ H s:=⟨I.ok.unwish,I.os,I.bare,I.base,I.loc,I.cell,I.free,I.freeC,I.pin,I.hok,I.len⟩
theorem SP.unwish{D:mL}{f:Flow}{s':Shared}(h:SP (X.wish E) pins D f s'):SP X pins D f s':=by
 cases f with
 | next=>obtain⟨σ',H',I,q⟩:=h;exact⟨σ',H',I.unwish,q⟩
 | brk=>obtain⟨σ',H',I,q⟩:=h;exact⟨σ',H',I.unwish,q⟩
 | cont=>obtain⟨σ',H',I,q⟩:=h;exact⟨σ',H',I.unwish,q⟩
 | ret u=>obtain⟨v,σ',H',I,r,q⟩:=h;exact⟨v,σ',H',I.unwish,r,q⟩
theorem PE.nox{e:Expr}{t:TE}(h:PE X.nox e t):PE X e t:=fun pins s σ H Q I hw =>
 wpAny_mono (h pins s σ H Q (I.wish _) hw) (fun _ _ ⟨v,H',I',r,q⟩=>⟨v,H',I'.unwish,r,q⟩) fun _ _ z=>False.elim z
theorem PT.nox{e:Expr}{t:TT}(h:PT X.nox e t):PT X e t:=fun pins s σ H Q I hw =>
 wpAny_mono (h pins s σ H Q (I.wish _) hw) (fun _ _ ⟨H',I',q⟩=>⟨H',I'.unwish,q⟩) fun _ _ z=>False.elim z
theorem PSs.nox{st:List Stmt}{t:TS}(h:PSs X.nox st t):PSs X st t:=fun pins s σ H D I hw =>
 wpAny_mono (h pins s σ H D (I.wish _) hw) (fun _ _ q=>q.unwish) fun _ _ z=>False.elim z
end
section
variable {X:Cx} {st:Stmt} {F0:List Stmt} {t u:TS} {e:Expr} {te:TE} {pos:Pos}
def FL:TS:=fun D σ H=>D.nx σ H
def HH(t u:TS):TS:=fun D σ H=>t { D with nx:=u D } σ H
theorem zx:PSs X [] FL:=fun _ _ σ H _ I h=>wpAny_execs_nil ⟨σ,H,I,h⟩
theorem lE(h1:PS X st t)(h2:PSs X F0 u):PSs X (st :: F0) (HH t u):=by
 intro pins s σ H D I h
 refine wpAny_execs_cons (thn (h1 pins s σ H { D with nx:=u D } I h) fun f s1 q=>?_)
 cases f with
 | next =>
  obtain⟨σ',H',I',q⟩:=q
  exact h2 pins s1 σ' H' D I' q
 | ret v=>exact q
 | brk=>exact q
 | cont=>exact q
theorem zw(h1:PS X st t):PSs X [st] t:=by
 intro pins s σ H D I h
 refine wpAny_execs_cons (thn (h1 pins s σ H D I h) fun f s1 q=>?_)
 cases f with
 | next=>exact wpAny_execs_nil q
 | ret v=>exact q
 | brk=>exact q
 | cont=>exact q
theorem Inv.quiet{pins:List (Addr × Obj)}{σ:St}{H:Hp}{s:Shared}(I:Inv X pins σ H s):interactive X.env=false:=by simp[interactive,I.ok.kind]
def FP(te:TE):TS:=fun D σ H=>te σ H fun _ H1=>D.nx σ H1
theorem zF(he:PE X e te)(hs:swapsWith e none pos.line X.env=pure false:=by rfl):PS X (.Expr e pos) (FP te):=by
 intro pins s σ H D I h
 exact wpAny_Expr_any (thn (he pins s σ H _ I h) fun v s1 ⟨x,H1,I1,r1,q1⟩=>⟨σ,H1,I1,q1⟩) I.quiet hs
def HI(te:TE):TS:=fun D σ H=>te σ H D.rt
theorem DD(he:PE X e te):PS X (.Return (some e) pos) (HI te):=by
 intro pins s σ H D I h
 exact wpAny_Return_some (thn (he pins s σ H _ I h) fun v s1 ⟨x,H1,I1,r1,q1⟩=>⟨x,σ,H1,I1,r1,q1⟩)
def HN(c:TT)(t u:TS):TS:=fun D σ H=>c σ H fun b H1=>if b=true then t D σ H1 else u D σ H1
theorem Ge{c:Expr}{a b:List Stmt}{tc:TT}(hc:PT X c tc)(ha:PSs X a t)(hb:PSs X b u):PS X (.If c a b pos) (HN tc t u):=by
 intro pins s σ H D I h
 refine wpAny_If (thn (hc pins s σ H _ I h) fun d s1 zz=>?_)
 obtain⟨H1,I1,q1⟩:=zz
 cases d with
 | true=>exact ha pins s1 σ H1 D I1 q1
 | false=>exact hb pins s1 σ H1 D I1 q1
def CW:TS:=fun _ _ _=>False
theorem uY:PS X st CW:=fun _ _ _ _ _ _ h=>h.elim
end
noncomputable abbrev TG:=V→St→Hp→(St→Hp→Prop)→Prop
noncomputable abbrev TGs:=List V→St→Hp→(St→Hp→Prop)→Prop
def PG(X:Cx)(target:Expr)(t:TG):Prop :=
 ∀(pins:List (Addr × Obj)) (s:Shared) (σ:St) (H:Hp) (v:V) (u:Value) (Q:St→Hp→Prop),Inv X pins σ H s→o7 v u→t v σ H Q →
  wpAny (model X.prog X.w) X.A (assign target X.env u) (fun _ s'=>∃ σ' H',Inv X pins σ' H' s'∧Q σ' H') X.xe s
def PGs(X:Cx)(ts:List Expr)(t:TGs):Prop :=
 ∀(pins:List (Addr × Obj)) (s:Shared) (σ:St) (H:Hp) (vs:List V) (us:List Value) (Q:St→Hp→Prop),Inv X pins σ H s→h8 vs us→t vs σ H Q →
  wpAny (model X.prog X.w) X.A (assignInOrder ((assignEach ts X.env).map (·.2)) us) (fun _ s'=>∃ σ' H',Inv X pins σ' H' s'∧Q σ' H') X.xe s
noncomputable abbrev EM:=V→V→V→Hp→(Hp→Prop)→Prop
def Hz(X:Cx)(t:EM):Prop :=
 ∀(pins:List (Addr × Obj)) (s:Shared) (σ:St) (H:Hp) (o i v:V) (ov iv u:Value) (Q:Hp→Prop),Inv X pins σ H s→o7 o ov→o7 i iv→o7 v u→t o i v H Q →
  wpAny (model X.prog X.w) X.A (setItem ov iv u) (fun _ s'=>∃ H',Inv X pins σ H' s'∧Q H') X.xe s
section
variable {X:Cx} {pos:Pos}
def wu(i:Nat):TG:=fun v σ H Q=>Q (σ.set i (some v)) H
theorem zN{i:Nat}{x:Str}(hN:X.N.Nodup)(hi:X.N[i]? = some x)(hx:Loc X.env.scope x)(hf:X.fn x=true∨X.env.scope.names.lookup x=some .local:=by first|exact .inl rfl|exact .inr rfl|assumption):PG X (.Name x pos) (wu i):=by
 intro pins s σ H v u Q I r h
 exact wpAny_assign_Name (Z4 I hN hi hx r (fun s' I'=>⟨_,H,I',h⟩) hf)
def Io:TGs:=fun vs σ H Q=>vs=[]∧Q σ H
def GQ(t:TG)(u:TGs):TGs:=fun vs σ H Q=>∃ v r,vs=v :: r∧t v σ H fun σ' H'=>u r σ' H' Q
theorem zL:PGs X [] Io:=by
 intro pins s σ H vs us Q I r h
 obtain⟨e,h⟩:=h
 subst e
 cases r
 exact assignInOrder_nil ⟨σ,H,I,h⟩
theorem vk{e:Expr}{es:List Expr}{t:TG}{u:TGs}(h1:PG X e t)(h2:PGs X es u)
  (hs:(assignEach (e :: es) X.env).map (·.2)=assign e X.env :: (assignEach es X.env).map (·.2):=by rfl):PGs X (e :: es) (GQ t u):=by
 intro pins s σ H vs us Q I r h
 obtain⟨v,vr,e1,h⟩:=h
 subst e1
 cases r with
 | cons r rr =>
  rw[hs]
  refine assignInOrder_cons (thn (h1 pins s σ H _ _ _ I r h) fun _ s1 zz=>?_)
  obtain⟨σ1,H1,I1,q1⟩:=zz
  exact h2 pins s1 σ1 H1 _ _ Q I1 rr q1
def Ik(K:Ly)(n:Nat)(t:TGs):TG:=fun v σ H Q=>∃ a xs,v = .ref a∧SqT K H a xs∧xs.length=n∧t xs σ H Q
theorem DJ{es:List Expr}{k:Nat}{t:TGs}{n:Nat}(hc:X.calm=true)(h:PGs X es t)
  (hn:(assignEach es X.env).length=n:=by rfl) (hst:(assignEach es X.env).findIdx? (·.1)=none:=by rfl):PG X (.Tuple es k pos) (Ik X.K n t):=by
 intro pins s σ H v u Q I r hw
 obtain⟨a,xs,e1,hq,hl,hw⟩:=hw
 subst e1
 cases r
 obtain⟨its,rv,ht,hz⟩:=I.tuple hq
 refine assign_Tuple_tuple (I.ok.hd hc) ht (by simp[hn,← hl,rv.length]) hst fun h' hx=>?_
 have I1:Inv X pins σ H { s with heap:=h' }:=I.kept (t':=s.toks) fun b o e=>hx b o (LV (LH e)) e
 exact h pins _ σ H xs _ Q I1 (by simpa using rv) hw
def Il(to ti:TE)(t:EM):TG:=fun v σ H Q=>to σ H fun o H1=>ti σ H1 fun i H2=>t o i v H2 fun H3=>Q σ H3
theorem DM{o i:Expr}{to ti:TE}{t:EM}(ho:PE X o to)(hi:PE X i ti)(hs:Hz X t)
  (ha:∀ v,assign (.Subscript o i pos) X.env v=(do
   let ov ← holding [v] (eval o X.env)
   let iv ← holding [v,ov] (eval i X.env)
   standAt pos
   holding [v,ov,iv] (setItem ov iv v)
   release [v,ov,iv] []):=by intro _;rfl):PG X (.Subscript o i pos) (Il to ti t):=by
 intro pins s σ H v u Q I r h
 rw[ha]
 refine Lw (wpAny_holding (thn (ho pins s σ H _ I h) fun ov s1 zz=>?_))
 obtain⟨x,H1,I1,r1,q1⟩:=zz
 refine Lw (wpAny_holding (thn (hi pins s1 σ H1 _ I1 q1) fun iv s2 zz=>?_))
 obtain⟨y,H2,I2,r2,q2⟩:=zz
 refine Lw (wpAny_standAt (Lw (wpAny_holding (thn (hs pins s2 σ H2 x y v ov iv u _ I2 r1 r2 r q2) fun _ s3 zz=>?_))))
 obtain⟨H3,I3,q3⟩:=zz
 exact wpAny_release ⟨σ,H3,I3,q3⟩
def CY(te:TE)(g:TG):TS:=fun D σ H=>te σ H fun x H1=>g x σ H1 D.nx
theorem DG{tg e:Expr}{te:TE}{g:TG}(he:PE X e te)(hg:PG X tg g)(hs:swapsWithSole [tg] e pos.line X.env=pure false:=by rfl)(hw:swappedStores [tg] e X.env=pure none:=by rfl)
  (h1:(assignEach [tg] X.env).map (·.2)=[assign tg X.env]:=by rfl):PS X (.Assign [tg] e pos) (CY te g):=by
 intro pins s σ H D I h
 refine wpAny_Assign_stores (thn (he pins s σ H _ I h) fun v s1 ⟨x,H1,I1,r1,q1⟩=>?_) hs hw
 rw[h1]
 exact thn (hg pins s1 σ H1 x v _ I1 r1 q1) fun _ s2 q=>q
theorem DC{i:Nat}{x:Str}{e:Expr}{te:TE}{pos':Pos}(hN:X.N.Nodup)(hi:X.N[i]? = some x)(hx:Loc X.env.scope x)(he:PE X e te)(hs:swapsWith e (some (.Name x pos')) pos.line X.env=pure false:=by rfl)(hf:X.fn x=true∨X.env.scope.names.lookup x=some .local:=by first|exact .inl rfl|exact .inr rfl|assumption) :
  PS X (.Assign [.Name x pos'] e pos) (CY te (wu i)):=by
 intro pins s σ H D I h
 refine wpAny_Assign_Name (thn (he pins s σ H _ I h) fun v s1 ⟨y,H1,I1,r1,q1⟩=>?_) hs
 exact Z4 I1 hN hi hx r1 (fun s2 I2=>⟨_,H1,I2,q1⟩) hf
def HJ(i j:Nat)(ta:TA):TS:=fun D σ H=>ta σ H fun vs H1=>∃ v w,vs=[v,w]∧D.nx ((σ.set i (some v)).set j (some w)) H1
theorem DE{i j:Nat}{x y:Str}{a b:Expr}{ta:TA}{px py pt:Pos}{kt k2 pt2}(hc:X.calm=true)(hN:X.N.Nodup)(hi:X.N[i]? = some x)(hj:X.N[j]? = some y)(hij:i≠j)
  (hx:X.env.scope.names.lookup x=some .local) (hy:X.env.scope.names.lookup y=some .local) (ha:PA X [a,b] ta)
  (hw:swappedStores [.Tuple [.Name x px,.Name y py] kt pt] (.Tuple [a,b] k2 pt2) X.env=pure (some [x,y]))
  (hs:swapsWithSole [.Tuple [.Name x px,.Name y py] kt pt] (.Tuple [a,b] k2 pt2) pos.line X.env=pure false:=by rfl) :
  PS X (.Assign [.Tuple [.Name x px,.Name y py] kt pt] (.Tuple [a,b] k2 pt2) pos) (HJ i j ta):=by
 intro pins s σ H D I h
 rw[exec_Assign_arm]
 refine Lw (wpAny_standAt ?_)
 rw[hs]
 refine Lw (LA ?_)
 rw[if_neg (by decide)]
 refine Lw (Tuple_ (thn (ha _ pins s σ H _ I h) fun us s1 zz=>?_))
 obtain⟨vs,H1,I1,r1,q1⟩:=zz
 obtain⟨v,w,e1,q1⟩:=q1
 subst e1
 obtain⟨u1,u2,rfl,rv,rw'⟩:∃ u1 u2,us=[u1,u2]∧o7 v u1∧o7 w u2:=by
  cases r1 with
  | cons p q =>
   cases q with
   | cons p' q' =>
    cases q'
    exact⟨_,_,rfl,p,p'⟩
 refine wpAny_newObj_type ?_ (by show 2≤sizeLine;decide)
 have I2:Inv X pins σ H1 { s1 with heap:=s1.heap.push { cls:=.type "tuple",data:=.seq [u1,u2].toArray } }:=I1.kept (t':=s1.toks) fun b o e=>Lx _ e
 rw[hw]
 refine Lw (LA ?_)
 show wpAny (model X.prog X.w) X.A (do rule "assign.swapped-stores";let items ← unpackItems (.ref s1.heap.objs.size) 2 none;assignInOrder [fun v=>bindName X.env y v,fun v=>bindName X.env x v] items.reverse;pure Flow.next) _ _ _
 refine Lw (wpAny_rule (Lw (unpackItems_tuple (items:=#[u1,u2]) (I.ok.hd hc) (IsTup.new s1.heap _) fun h' hx'=>?_)))
 have I3:=I2.kept (h':=h') (t':=s1.toks) fun b o e=>hx' b o (LV (LH e)) e
 show wpAny _ _ (assignInOrder [fun v=>bindName X.env y v,fun v=>bindName X.env x v] [u2,u1] >>= fun _=>pure Flow.next) _ _ _
 refine Lw (assignInOrder_cons (wpAny_bindName (Z4 I3 hN hj (.inl hy) rw' (fun s2 I4=>?_) (.inr hy))))
 refine assignInOrder_cons (wpAny_bindName (Z4 I4 hN hi (.inl hx) rv (fun s3 I5=>assignInOrder_nil (LA ?_)) (.inr hx)))
 rw[List.set_comm _ _ (Ne.symm hij)]at I5
 exact⟨_,H1,I5,q1⟩
end
section
variable {X:Cx} {pos:Pos}
def CV(c:TT)(tb:TS):TS:=fun D σ H=>∃ W:Nat→St→Hp→Prop,(∃ m,W m σ H)∧∀ m σ H,W m σ H →
 c σ H fun b H1=>if b=true then ∃ N:St→Hp→Prop,(∀ σ' H',N σ' H'→∃ m',m'<m∧W m' σ' H')∧tb { D with nx:=N,ct:=N,bk:=D.nx } σ H1 else D.nx σ H1
theorem uX{c:Expr}{body:List Stmt}{tc:TT}{tb:TS}(hp:PassesOwn (model X.prog X.w) X.A X.env X.xe)(hc:PT X c tc)(hb:PSs X body tb):PS X (.While c body [] pos) (CV tc tb):=by
 intro pins s σ H D I h
 obtain⟨W,⟨m0,w0⟩,turn⟩:=h
 refine wpAny_While (codeAny_whileLoop (fun n s'=>∃ σ' H',Inv X pins σ' H' s'∧W n σ' H') ?_ m0 ⟨σ,H,I,w0⟩)
 rintro n s1 ⟨σ1,H1,I1,w1⟩
 refine wpAny_passesOwn hp (thn (hc pins s1 σ1 H1 _ I1 (turn n σ1 H1 w1)) fun b s2 zz=>?_)
 obtain⟨H2,I2,q2⟩:=zz
 cases b with
 | true =>
  obtain⟨N,hN,q2⟩:=q2
  rw[if_pos rfl]
  refine wpAny_passesOwn hp (thn (hb pins s2 σ1 H2 _ I2 q2) fun f s3 q3=>?_)
  cases f with
  | next =>
   obtain⟨σ3,H3,I3,n3⟩:=q3
   obtain⟨m',hm,w3⟩:=hN σ3 H3 n3
   exact⟨m',hm,σ3,H3,I3,w3⟩
  | cont =>
   obtain⟨σ3,H3,I3,n3⟩:=q3
   obtain⟨m',hm,w3⟩:=hN σ3 H3 n3
   exact⟨m',hm,σ3,H3,I3,w3⟩
  | brk=>exact q3
  | ret v=>exact q3
 | false =>
  rw[if_neg LO]
  exact wpAny_execs_nil ⟨σ1,H2,I2,q2⟩
end
structure It where
 go:Nat→Hp→Prop
 yld:Nat→Hp→V→Hp→Prop
 stop:Nat→Hp→Prop
def W1(X:Cx)(pins:List (Addr × Obj))(H:Hp)(b:Addr):Prop :=
 H b=none∧b≠X.env.locals∧b∉X.fs∧(b∈X.ex∨X.s₀.heap.objs.size≤b)∧(∀ x c,X.env.cells.lookup x=some c→c≠b)∧∀ p∈X.pn++pins,p.1≠b
theorem Inv.fpOk{X:Cx}{pins:List (Addr × Obj)}{σ:St}{H H':Hp}{s:Shared}{b:Addr}(I:Inv X pins σ H s)(hb:s.heap.objs.size≤b)(hn:H' b=none):W1 X pins H' b:=by
 refine⟨hn,Mm (Lz I.lt hb),I.nofs hb,.inr (LL I.sz hb),fun x c e z=>?_,fun p hp z=>?_⟩
 ·obtain⟨v,q⟩:=I.cell x c e
  exact absurd (Lz q.lt (by rw[z];exact hb)) (MT _)
 ·exact absurd (Lz (LH (I.pin p hp).1) (by rw[z];exact hb)) (MT _)
structure mI(P:Program)(w:World)(K:Ly)(tg:Expr)(J:It)(fp:List Addr)(it:Addr)(tn:Nat→Heap→Prop):Prop where
 mem:it∈fp
 obj:∀ i h,tn i h→∀ b∈fp,∃ o,h.get? b=some o∧∀ v,o.data ≠ .cell v
 keep:∀ i h h',tn i h→(∀ b∈fp,∀ o,h.get? b=some o→h'.get? b=some o)→tn i h'
 item:∀(X:Cx),X.prog=P→X.w=w→X.K=K→X.calm=true→∀(i:Nat) (pins:List (Addr × Obj)) (s:Shared) (σ:St) (H:Hp) (E:Value→Shared→Prop),Inv X pins σ H s→(∀ b∈fp,W1 X pins H b)→tn i s.heap→J.go i H →
  wpAny (model P w) X.A (pyNext (.ref it)) (fun r s1=>∃ u,r=some u ∧
   wpAny (model P w) X.A (letOwnedTupleGo tg (.ref it) u) (fun _ s2=>∃ x H',Inv X pins σ H' s2∧o7 x u∧J.yld i H x H'∧tn (i+1) s2.heap∧∀ b∈fp,H' b=none) E s1) E s
 done:∀(X:Cx),X.prog=P→X.w=w→X.K=K→X.calm=true→∀(i:Nat) (pins:List (Addr × Obj)) (s:Shared) (σ:St) (H:Hp) (E:Value→Shared→Prop),Inv X pins σ H s→(∀ b∈fp,W1 X pins H b)→tn i s.heap→J.stop i H →
  wpAny (model P w) X.A (pyNext (.ref it)) (fun r s1=>r=none∧Inv X pins σ H s1) E s
 self:∀(A:Around) (i:Nat) (s:Shared) (Q:Value→Shared→Prop) (E:Value→Shared→Prop),tn i s.heap→Q (.ref it) s→wpAny (model P w) A (pyIter (.ref it)) Q E s
noncomputable abbrev TI:=St→Hp→(It→Hp→Prop)→Prop
def PIE(X:Cx)(pins:List (Addr × Obj))(σ:St)(tg:Expr)(R:It→Hp→Prop)(itv:Value)(s2:Shared):Prop :=
 ∃(it:Addr) (fp:List Addr) (tn:Nat→Heap→Prop) (J:It) (H':Hp),itv = .ref it∧Inv X pins σ H' s2∧mI X.prog X.w X.K tg J fp it tn∧tn 0 s2.heap∧(∀ b∈fp,W1 X pins H' b)∧R J H'
def PI(X:Cx)(tg iter:Expr)(wi:TI):Prop :=
 ∀(pins:List (Addr × Obj)) (s:Shared) (σ:St) (H:Hp) (R:It→Hp→Prop),Inv X pins σ H s→wi σ H R →
  wpAny (model X.prog X.w) X.A (eval iter X.env) (fun v s1=>wpAny (model X.prog X.w) X.A (pyIter v) (PIE X pins σ tg R) X.xe s1) X.xe s
theorem wm{M:Model}{A:Around}{E:Value→Shared→Prop}{s:Shared}{tg:Expr}{it:Addr}{u:Value}{o:Obj}{n:String}{vs:Array Value}{Q:Unit→Shared→Prop}(ho:s.heap.get? it=some o)(hc:o.cls = .type n)(hd:o.data = .fields vs)
  (hn:["enumerate","zip","dict_itemiterator","dict_reverseitemiterator","odict_iterator","itertools.zip_longest","itertools.pairwise"].contains n=false) (hQ:Q () s):wpAny M A (letOwnedTupleGo tg (.ref it) u) Q E s:=by
 unfold letOwnedTupleGo
 cases tg<;>first
  | exact LA hQ
  | (cases u<;>first
    | exact LA hQ
    | (refine Lw (wpAny_load ho ?_);rw[hc,hd];show wpAny M A (if (["enumerate","zip","dict_itemiterator","dict_reverseitemiterator","odict_iterator","itertools.zip_longest","itertools.pairwise"].contains n && vs[0]? == some (rawInt _))=true then _ else _) Q E s;rw[if_neg (by intro h;rw[hn,Nn]at h;cases h)];exact LA hQ))
noncomputable def Itl(K:Ly)(a:Addr):It :=
 ⟨fun i H=>∃ xs x,SqL K H a xs∧xs[i]? = some x,fun i H x H'=>H'=H∧∀ xs,SqL K H a xs→xs[i]? = some x,fun i H=>∃ xs,SqL K H a xs∧xs.length≤i⟩
noncomputable def Itt(K:Ly)(a:Addr):It :=
 ⟨fun i H=>∃ xs x,SqT K H a xs∧xs[i]? = some x,fun i H x H'=>H'=H∧∀ xs,SqT K H a xs→xs[i]? = some x,fun i H=>∃ xs,SqT K H a xs∧xs.length≤i⟩
noncomputable def Itr(lo:Int)(n:Nat):It:=⟨fun i _=>i<n,fun i H x H'=>H'=H∧x = .int (lo+i),fun i _=>n≤i⟩
theorem qV{P:Program}{w:World}{K:Ly}{tg:Expr}(a it:Addr):mI P w K tg (Itl K a) [it] it (fun i h=>h.IsListIter it a i) where
 mem:=by simp
 obj:=fun i h st b hb=>by
  have e:b=it:=by simpa using hb
  subst e
  obtain⟨o,e,c,d⟩:=st
  exact⟨o,e,fun v z=>by rw[d]at z;cases z⟩
 keep:=fun i h h' st k=>st.at fun o e=>k it (by simp) o e
 item:=by
  intro X hP hw hK hc i pins s σ H E I hf st hg
  subst hP hw hK
  obtain⟨xs,x,hq,hx⟩:=hg
  obtain⟨its,rv,p,hz⟩:=I.list hq
  obtain⟨u,hu,ru⟩:=rv.get hx
  obtain⟨f0,f1,f2,f3,f4,f5⟩:=hf it (by simp)
  refine wpAny_pyNext_list_item st p.isList (x:=u) (by simpa using hu) fun h' st' sb=>?_
  have I1:Inv X pins σ H { s with heap:=h' }:=I.turned (t':=s.toks) (fun b o hb e=>(sb.2 b hb).trans e) f0 f1 f3 f4 f5
  obtain⟨o,e,c,d⟩:=id st'
  exact⟨u,rfl,wm (s:={ s with heap:=h' }) e c d (by decide) ⟨x,H,I1,ru,⟨rfl,fun ys hy=>by rw[I.list_inj hy hq];exact hx⟩,st',fun b hb=>(hf b hb).1⟩⟩
 done:=by
  intro X hP hw hK hc i pins s σ H E I hf st hg
  subst hP hw hK
  obtain⟨xs,hq,hx⟩:=hg
  obtain⟨its,rv,p,hz⟩:=I.list hq
  obtain⟨f0,f1,f2,f3,f4,f5⟩:=hf it (by simp)
  have hl:=rv.length
  exact wpAny_pyNext_list_end (I.ok.hd hc) st p.isList (by simp;omega) fun h' eb=>⟨rfl,I.turned (t':=s.toks) (fun b o hb e=>eb b o hb e) f0 f1 f3 f4 f5⟩
 self:=fun _ _ _ _ _ st h=>wpAny_pyIter_listiter st h
theorem mO{P:Program}{w:World}{K:Ly}{tg:Expr}(a it:Addr):mI P w K tg (Itt K a) [it] it (fun i h=>h.IsTupleIter it a i) where
 mem:=by simp
 obj:=fun i h st b hb=>by
  have e:b=it:=by simpa using hb
  subst e
  obtain⟨o,e,c,d⟩:=st
  exact⟨o,e,fun v z=>by rw[d]at z;cases z⟩
 keep:=fun i h h' st k=>st.at fun o e=>k it (by simp) o e
 item:=by
  intro X hP hw hK hc i pins s σ H E I hf st hg
  subst hP hw hK
  obtain⟨xs,x,hq,hx⟩:=hg
  obtain⟨its,rv,p,hz⟩:=I.tuple hq
  obtain⟨u,hu,ru⟩:=rv.get hx
  obtain⟨f0,f1,f2,f3,f4,f5⟩:=hf it (by simp)
  refine wpAny_pyNext_tuple_item st (show s.heap.IsTuple a its.toArray from p) (x:=u) (by simpa using hu) fun h' st' sb=>?_
  have I1:Inv X pins σ H { s with heap:=h' }:=I.turned (t':=s.toks) (fun b o hb e=>(sb.2 b hb).trans e) f0 f1 f3 f4 f5
  obtain⟨o,e,c,d⟩:=id st'
  exact⟨u,rfl,wm (s:={ s with heap:=h' }) e c d (by decide) ⟨x,H,I1,ru,⟨rfl,fun ys hy=>by rw[I.tuple_inj hy hq];exact hx⟩,st',fun b hb=>(hf b hb).1⟩⟩
 done:=by
  intro X hP hw hK hc i pins s σ H E I hf st hg
  subst hP hw hK
  obtain⟨xs,hq,hx⟩:=hg
  obtain⟨its,rv,p,hz⟩:=I.tuple hq
  obtain⟨f0,f1,f2,f3,f4,f5⟩:=hf it (by simp)
  have hl:=rv.length
  exact wpAny_pyNext_tuple_end (I.ok.hd hc) st (show s.heap.IsTuple a its.toArray from p) (by simp;omega) fun h' eb=>⟨rfl,I.turned (t':=s.toks) (fun b o hb e=>eb b o hb e) f0 f1 f3 f4 f5⟩
 self:=fun _ _ _ _ _ st h=>wpAny_pyIter_tupleiter st h
theorem mP{P:Program}{w:World}{K:Ly}{tg:Expr}(it:Addr)(lo:Int)(n:Nat):mI P w K tg (Itr lo n) [it] it (fun i h=>IsRangeIter h it (lo+(i:Nat)*1) ((n:Int) - (i:Nat)) 1) where
 mem:=by simp
 obj:=fun i h st b hb=>by
  have e:b=it:=by simpa using hb
  subst e
  exact⟨_,st,fun v z=>by
   have z':Data.fields _=Data.cell v:=z
   cases z'⟩
 keep:=fun i h h' st k=>k it (by simp) _ st
 item:=by
  intro X hP hw hK hc i pins s σ H E I hf st hg
  subst hP hw hK
  obtain⟨f0,f1,f2,f3,f4,f5⟩:=hf it (by simp)
  have W:=Walks.range (prog:=X.prog) (w:=X.w) (I.ok.hd hc) it lo 1 n
  refine W.item i s _ _ hg st fun v h' tk hv st' kk=>?_
  obtain⟨t,rfl⟩:=hv
  have I1:Inv X pins σ H { s with heap:=h',toks:=tk }:=I.turned (fun b o hb e=>kk b o (by simpa using hb) e) f0 f1 f3 f4 f5
  refine⟨_,rfl,wm (s:={ s with heap:=h',toks:=tk }) (n := "range_iterator") st' rfl rfl (by decide) ⟨.int (lo+i),H,I1,⟨t,?_⟩,⟨rfl,rfl⟩,st',fun b hb=>(hf b hb).1⟩⟩
  rw[NT]
 done:=by
  intro X hP hw hK hc i pins s σ H E I hf st hg
  subst hP hw hK
  obtain⟨f0,f1,f2,f3,f4,f5⟩:=hf it (by simp)
  exact wpAny_pyNext_range_end (I.ok.hd hc) st (by have:n≤i:=hg;omega) fun h' eb=>⟨rfl,I.turned (t':=s.toks) (fun b o hb e=>eb b o hb e) f0 f1 f3 f4 f5⟩
 self:=fun _ _ _ _ _ st h=>wpAny_pyIter_rangeiter st h
section
variable {X:Cx} {tg:Expr}
theorem lC{pins:List (Addr × Obj)}{σ:St}{H:Hp}{s:Shared}{R:It→Hp→Prop}{E:Value→Shared→Prop}{lo hi:Int}{t u v:Tok}{tk:Nat}(I:Inv X pins σ H s)(h1:-(2 ^ 62)≤lo)(h2:lo<2 ^ 62)(h3:-(2 ^ 62)≤hi)(h4:hi<2 ^ 62)
  (q:R (Itr lo (hi - lo).toNat) H):wpAny (model X.prog X.w) X.A (pyIter (.ref s.heap.objs.size)) (PIE X pins σ tg R) E { s with heap:=s.heap.push { cls:=.type "range",data:=.fields #[.int lo t,.int hi u,.int 1 v] },toks:=tk }:=by
 refine wpAny_pyIter_range (IsRange.new ..) (small_one h1 h2 h3 h4) ?_
 have I1:Inv X pins σ H { s with heap:=s.heap.push { cls:=.type "range",data:=.fields #[.int lo t,.int hi u,.int 1 v] },toks:=tk }:=I.kept fun b o e=>Lx _ e
 refine⟨(s.heap.push { cls:=.type "range",data:=.fields #[.int lo t,.int hi u,.int 1 v] }).objs.size,[(s.heap.push { cls:=.type "range",data:=.fields #[.int lo t,.int hi u,.int 1 v] }).objs.size],_,_,H,rfl,
  I1.kept (t':=tk) fun b o e=>Lx _ e,mP _ lo (hi - lo).toNat,?_,fun b hb=>?_,q⟩
 ·have e1:lo+((0:Nat):Int)*1=lo:=by simp
  have e2:(((hi - lo).toNat:Nat):Int) - ((0:Nat):Int)=Builtin.Range.rangeSize lo hi 1:=by rw[rangeSize_one];split<;>omega
  show IsRangeIter _ _ (lo+((0:Nat):Int)*1) ((((hi - lo).toNat:Nat):Int) - ((0:Nat):Int)) 1
  rw[e1,e2]
  exact LC _ rfl
 ·have e:b=(s.heap.push { cls:=.type "range",data:=.fields #[.int lo t,.int hi u,.int 1 v] }).objs.size:=by simpa using hb
  subst e
  exact I1.fpOk (LQ _) (I1.hok.fresh (LQ _))
def GK(ta:TA):TI:=fun σ H R=>ta σ H fun vs H1=>∃ j:Int,vs=[.int j]∧-(2 ^ 62)≤j∧j<2 ^ 62∧R (Itr 0 j.toNat) H1
def GJ(ta:TA):TI:=fun σ H R=>ta σ H fun vs H1=>∃ i j:Int,vs=[.int i,.int j]∧(-(2 ^ 62)≤i∧i<2 ^ 62∧-(2 ^ 62)≤j∧j<2 ^ 62)∧R (Itr i (j - i).toNat) H1
theorem rz{a:Expr}{ta:TA}{p pos:Pos}(hg:Gl X "range")(hm:X.mg "range" = none)(ha:PA X [a] ta)(hs:starEach [a] X.env=[(false,eval a X.env)]:=by rfl):PI X tg (.Call (.Name "range" p) [a] [] pos) (GK ta):=by
 intro pins s σ H R I h
 refine Call_ (K2 I hg hm boot_range (PyProof.Rows.callWith_type1 (thn (ha pos pins s σ H _ I h) fun us s1 ⟨vs,H1,I1,r1,q1⟩=>?_) hs rfl))
 obtain⟨j,e,q1,q2,q⟩:=q1
 subst e
 cases r1 with
 | cons r rr =>
  cases rr
  obtain⟨t,rfl⟩:=r
  exact call_range_1 (lC I1 (by omega) (by omega) q1 q2 (by simpa using q))
theorem rq{a b:Expr}{ta:TA}{p pos:Pos}(hg:Gl X "range")(hm:X.mg "range" = none)(ha:PA X [a,b] ta)(hs:starEach [a,b] X.env=[(false,eval a X.env),(false,eval b X.env)]:=by rfl)(hs2:starEach [b] X.env=[(false,eval b X.env)]:=by rfl) :
  PI X tg (.Call (.Name "range" p) [a,b] [] pos) (GJ ta):=by
 intro pins s σ H R I h
 refine Call_ (K2 I hg hm boot_range (PyProof.Rows.callWith_type1 (thn (ha pos pins s σ H _ I h) fun us s1 ⟨vs,H1,I1,r1,q1⟩=>?_) (by rw[hs,hs2]) (by rw[hs2];rfl)))
 obtain⟨i,j,e,⟨q1,q2,q3,q4⟩,q⟩:=q1
 subst e
 cases r1 with
 | cons r rr =>
  cases rr with
  | cons r' rr =>
   cases rr
   obtain⟨t,rfl⟩:=r
   obtain⟨t',rfl⟩:=r'
   exact call_range_2 (lC I1 q1 q2 q3 q4 q)
def HP(wi:TI)(g:TG)(tb:TS):TS:=fun D σ H=>wi σ H fun J H1=>∃ W:Nat→Nat→St→Hp→Prop,(∃ m,W 0 m σ H1)∧∀ i m σ H,W i m σ H →
 (J.stop i H∧D.nx σ H)∨(J.go i H∧∃ N:St→Hp→Prop,(∀ σ' H',N σ' H'→∃ m',m'<m∧W (i+1) m' σ' H')∧∀ x H',J.yld i H x H'→g x σ H' fun σ2 H2=>tb { D with nx:=N,ct:=N,bk:=D.nx } σ2 H2)
noncomputable def iX(fp:List Addr)(h:Heap):List (Addr × Obj):=fp.filterMap fun b=>(h.get? b).map fun o=>(b,o)
theorem D7{fp:List Addr}{h:Heap}{b:Addr}{o:Obj}(hb:b∈fp)(e:h.get? b=some o):(b,o)∈iX fp h:=Nw.mpr ⟨b,hb,by rw[e];rfl⟩
theorem rE{fp:List Addr}{h:Heap}{p:Addr × Obj}(hp:p∈iX fp h):p.1∈fp∧h.get? p.1=some p.2:=by
 obtain⟨b,hb,e⟩:=Nw.mp hp
 cases q:h.get? b with
 | none=>rw[q]at e;cases e
 | some o =>
  rw[q]at e
  have e':(b,o)=p:=Option.some.inj e
  subst e'
  exact⟨hb,q⟩
theorem Inv.pinned{pins:List (Addr × Obj)}{σ:St}{H:Hp}{s:Shared}{fp:List Addr}(I:Inv X pins σ H s)(hf:∀ b∈fp,W1 X pins H b)(ho:∀ b∈fp,∃ o,s.heap.get? b=some o∧∀ v,o.data ≠ .cell v):Inv X (pins++iX fp s.heap) σ H s :=
 I.pins_of fun p hp=>(Md.mp hp).elim (fun z=>I.pin p (LZ _ z)) fun z=>by
  obtain⟨hb,e⟩:=rE z
  obtain⟨f0,f1,f2,_⟩:=hf p.1 hb
  obtain⟨o,e',d⟩:=ho p.1 hb
  rw[e]at e';cases e'
  exact⟨e,f0,f1,f2,d⟩
theorem Inv.unpinned{pins pl:List (Addr × Obj)}{σ:St}{H:Hp}{s:Shared}(I:Inv X (pins++pl) σ H s):Inv X pins σ H s:=I.pins_of fun p hp=>I.pin p (LZ _ (ME _ hp))
theorem DF{iter:Expr}{body:List Stmt}{wi:TI}{g:TG}{tb:TS}{pos:Pos}(hp:PassesOwn (model X.prog X.w) X.A X.env X.xe)(hc:X.calm=true)(hi:PI X tg iter wi)(hg:PG X tg g)(hb:PSs X body tb)
  (hs:∀ x,foldedSetIterable iter X.env x=pure x:=by intro _;rfl):PS X (.For tg iter body [] pos) (HP wi g tb):=by
 intro pins s σ H D I h
 refine wpAny_For (thn (hi pins s σ H _ I h) fun v s1 h1=>thn h1 fun itv s2 h2=>?_) hs
 obtain⟨it,fp,tn,J,H2,e,I2,T,st2,f2,W,⟨m0,w0⟩,turn⟩:=h2
 subst e
 have stat:∀{H':Hp},(∀ b∈fp,H' b=none)→∀ b∈fp,W1 X pins H' b:=fun hn b hb=>⟨hn b hb,(f2 b hb).2⟩
 refine codeAny_forLoop_any (fun n s'=>∃ i σ' H',Inv X pins σ' H' s'∧tn i s'.heap∧(∀ b∈fp,H' b=none)∧W i n σ' H') ?_ m0 ⟨0,σ,H2,I2,st2,fun b hb=>(f2 b hb).1,w0⟩
 rintro n s3 ⟨i,σ3,H3,I3,st3,fr3,w3⟩
 rcases turn i n σ3 H3 w3 with⟨stop,qn⟩|⟨go,N,hN,step⟩
 ·refine wpAny_passesOwn hp (thn (T.done X rfl rfl rfl hc i pins s3 σ3 H3 X.xe I3 (stat fr3) st3 stop) fun r s4 zz=>?_)
  obtain⟨hr,I4⟩:=zz
  subst hr
  exact wpAny_execs_nil ⟨σ3,H3,I4,qn⟩
 ·refine wpAny_passesOwn hp (thn (T.item X rfl rfl rfl hc i pins s3 σ3 H3 X.xe I3 (stat fr3) st3 go) fun r s4 zz=>?_)
  obtain⟨u,hr,h4⟩:=zz
  subst hr
  refine wpAny_passesOwn hp (thn h4 fun _ s5 zz=>?_)
  obtain⟨x,H5,I5,r5,y5,st5,fr5⟩:=zz
  have I5':=I5.pinned (stat fr5) (T.obj _ _ st5)
  refine wpAny_passesOwn hp (thn (hg _ s5 σ3 H5 x u _ I5' r5 (step x H5 y5)) fun _ s6 zz=>?_)
  obtain⟨σ6,H6,I6,q6⟩:=zz
  refine wpAny_passesOwn hp (thn (hb _ s6 σ6 H6 _ I6 q6) fun f s7 q7=>?_)
  have again:∀{σ7:St} {H7:Hp},Inv X (pins++iX fp s5.heap) σ7 H7 s7→N σ7 H7→∃ m,m<n∧∃ i σ' H',Inv X pins σ' H' s7∧tn i s7.heap∧(∀ b∈fp,H' b=none)∧W i m σ' H':=fun{σ7 H7} I7 n7=>by
   obtain⟨m',hm,w7⟩:=hN σ7 H7 n7
   refine⟨m',hm,i+1,σ7,H7,I7.unpinned,T.keep _ _ _ st5 fun b hb o e=>(I7.pin (b,o) (LZ _ (LZ _ (D7 hb e)))).1,fun b hb=>?_,w7⟩
   obtain⟨o,e,d⟩:=T.obj _ _ st5 b hb
   exact(I7.pin (b,o) (LZ _ (LZ _ (D7 hb e)))).2.1
  cases f with
  | next=>obtain⟨σ7,H7,I7,n7⟩:=q7;exact again I7 n7
  | cont=>obtain⟨σ7,H7,I7,n7⟩:=q7;exact again I7 n7
  | brk=>obtain⟨σ7,H7,I7,q7⟩:=q7;exact⟨σ7,H7,I7.unpinned,q7⟩
  | ret v=>obtain⟨x7,σ7,H7,I7,r7,q7⟩:=q7;exact⟨x7,σ7,H7,I7.unpinned,r7,q7⟩
end
noncomputable abbrev R2:=V→V→Hp→VK→Prop
def OpR(X:Cx)(f:Value→Value→Sem Value)(r:R2):Prop :=
 ∀(pins:List (Addr × Obj)) (s:Shared) (σ:St) (H:Hp) (x y:V) (v u:Value) (Q:VK),Inv X pins σ H s→o7 x v→o7 y u→r x y H Q →
  wpAny (model X.prog X.w) X.A (f v u) (EP X pins σ Q) X.xe s
def UnR(X:Cx)(f:Value→Sem Value)(r:V→Hp→VK→Prop):Prop :=
 ∀(pins:List (Addr × Obj)) (s:Shared) (σ:St) (H:Hp) (x:V) (v:Value) (Q:VK),Inv X pins σ H s→o7 x v→r x H Q →
  wpAny (model X.prog X.w) X.A (f v) (EP X pins σ Q) X.xe s
def t6(X:Cx)(f:Value)(r:List V→Hp→VK→Prop):Prop :=
 ∀(pins:List (Addr × Obj)) (s:Shared) (σ:St) (H:Hp) (xs:List V) (us:List Value) (Q:VK),Inv X pins σ H s→h8 xs us→r xs H Q →
  wpAny (model X.prog X.w) X.A (call f us) (EP X pins σ Q) X.xe s
def tOp(r:R2)(ta tb:TE):TE:=fun σ H Q=>ta σ H fun x H1=>tb σ H1 fun y H2=>r x y H2 Q
def tUn(r:V→Hp→VK→Prop)(ta:TE):TE:=fun σ H Q=>ta σ H fun x H1=>r x H1 Q
def rI(C:Int→Int→Prop)(g:Int→Int→V):R2:=fun x y H Q=>∃ i j,x = .int i∧y = .int j∧C i j∧Q (g i j) H
def rI0(g:Int→Int→V):R2:=fun x y H Q=>∃ i j,x = .int i∧y = .int j∧Q (g i j) H
noncomputable def rU(g:Int→V):V→Hp→VK→Prop:=fun x H Q=>∃ i,x = .int i∧Q (g i) H
section
variable {X:Cx} {a b c:Expr} {ta tb tc:TE} {pos:Pos}
theorem EI(ha:PE X a ta)(hb:PE X b tb){pins:List (Addr × Obj)}{s:Shared}{σ:St}{H:Hp}{R:V→V→Hp→Prop}(I:Inv X pins σ H s)
  (h:ta σ H fun x H1=>tb σ H1 fun y H2=>R x y H2) {Q:Value→Shared→Prop} {f:Value→Value→Sem Value}
  (hf:∀ v u s2 x y H2,Inv X pins σ H2 s2→o7 x v→o7 y u→R x y H2→wpAny (model X.prog X.w) X.A (f v u) Q X.xe s2) :
  wpAny (model X.prog X.w) X.A (eval a X.env) (fun v s₁=>wpAny (model X.prog X.w) X.A (eval b X.env) (fun u s₂=>wpAny (model X.prog X.w) X.A (f v u) Q X.xe s₂) X.xe s₁) X.xe s:=by
 refine thn (ha pins s σ H _ I h) fun v s1 zz=>?_
 obtain⟨x,H1,I1,r1,q1⟩:=zz
 refine thn (hb pins s1 σ H1 _ I1 q1) fun u s2 zz=>?_
 obtain⟨y,H2,I2,r2,q2⟩:=zz
 exact hf v u s2 x y H2 I2 r1 r2 q2
theorem Ca{op:Operator}{r:R2}(ho:OpR X (binaryOp op) r)(ha:PE X a ta)(hb:PE X b tb):PE X (.BinOp a op b pos) (tOp r ta tb):=by
 intro pins s σ H Q I h
 exact wpAny_BinOp (EI ha hb I h fun v u s2 x y H2 I2 rx ry q=>ho pins s2 σ H2 x y v u Q I2 rx ry q)
theorem Gf{op:UnaryOp}{r:V→Hp→VK→Prop}(ho:UnR X (unaryOp op) r)(ha:PE X a ta):PE X (.UnaryOp op a pos) (tUn r ta):=by
 intro pins s σ H Q I h
 exact UnaryOp_ (thn (ha pins s σ H _ I h) fun v s1 ⟨x,H1,I1,r1,q1⟩=>ho pins s1 σ H1 x v Q I1 r1 q1)
theorem opI{f:Value→Value→Sem Value}{C:Int→Int→Prop}{g:Int→Int→Int}
  (rule:∀(i j:Int) (t u:Tok) (s:Shared) (Q:Value→Shared→Prop) (E:Value→Shared→Prop),C i j→Q (.int (g i j) s.toks) { s with toks:=s.toks+1 }→wpAny (model X.prog X.w) X.A (f (.int i t) (.int j u)) Q E s) :
  OpR X f (rI C fun i j=>.int (g i j)):=by
 intro pins s σ H x y v u Q I rx ry h
 obtain⟨i,j,rfl,rfl,hc,q⟩:=h
 obtain⟨t,rfl⟩:=rx
 obtain⟨t',rfl⟩:=ry
 exact rule i j t t' s _ _ hc ⟨.int (g i j),H,I.tok _,⟨_,rfl⟩,q⟩
theorem Gr{f:Value→Value→Sem Value}{g:Int→Int→Int}
  (rule:∀(i j:Int) (t u:Tok) (s:Shared) (Q:Value→Shared→Prop) (E:Value→Shared→Prop),Q (.int (g i j) s.toks) { s with toks:=s.toks+1 }→wpAny (model X.prog X.w) X.A (f (.int i t) (.int j u)) Q E s) :
  OpR X f (rI0 fun i j=>.int (g i j)):=by
 intro pins s σ H x y v u Q I rx ry h
 obtain⟨i,j,rfl,rfl,q⟩:=h
 obtain⟨t,rfl⟩:=rx
 obtain⟨t',rfl⟩:=ry
 exact rule i j t t' s _ _ ⟨.int (g i j),H,I.tok _,⟨_,rfl⟩,q⟩
theorem zY{f:Value→Value→Sem Value}{g:Int→Int→Bool}
  (rule:∀(i j:Int) (t u:Tok) (s:Shared) (Q:Value→Shared→Prop) (E:Value→Shared→Prop),Q (.bool (g i j)) s→wpAny (model X.prog X.w) X.A (f (.int i t) (.int j u)) Q E s) :
  OpR X f (rI0 fun i j=>.bl (g i j)):=by
 intro pins s σ H x y v u Q I rx ry h
 obtain⟨i,j,rfl,rfl,q⟩:=h
 obtain⟨t,rfl⟩:=rx
 obtain⟨t',rfl⟩:=ry
 exact rule i j t t' s _ _ ⟨.bl (g i j),H,I,rfl,q⟩
def xH(i j:Int):Prop:=0≤j∧j≤1000000∧i.natAbs<2 ^ 64
theorem DY:OpR X (binaryOp .Add) (rI0 fun i j=>.int (i+j)):=Gr fun _ _ _ _ _ _ _ q=>add_int q
theorem DV:OpR X (binaryOp .Sub) (rI0 fun i j=>.int (i - j)):=Gr fun _ _ _ _ _ _ _ q=>sub_int q
theorem DX:OpR X (binaryOp .Mod) (rI (fun _ j=>0<j) fun i j=>.int (i % j)):=opI fun i j _ _ _ _ _ hc q=>by
 have h1:(0:Int)<j:=hc
 exact mod_int' (by omega) (by rw[Int.fmod_eq_emod_of_nonneg i (by omega)];exact q)
theorem DW:OpR X (binaryOp .Pow) (rI xH fun i j=>.int (i ^ j.toNat)):=opI fun _ _ _ _ _ _ _ hc q=>pow_int_small hc.1 hc.2.1 hc.2.2 q
theorem unI{f:Value→Sem Value}{g:Int→Int}
  (rule:∀(i:Int) (t:Tok) (s:Shared) (Q:Value→Shared→Prop) (E:Value→Shared→Prop),Q (.int (g i) s.toks) { s with toks:=s.toks+1 }→wpAny (model X.prog X.w) X.A (f (.int i t)) Q E s) :
  UnR X f (rU fun i=>.int (g i)):=by
 intro pins s σ H x v Q I rx h
 obtain⟨i,rfl,q⟩:=h
 obtain⟨t,rfl⟩:=rx
 exact rule i t s _ _ ⟨.int (g i),H,I.tok _,⟨_,rfl⟩,q⟩
theorem CS:UnR X (unaryOp .USub) (rU fun i=>.int (-i)):=unI fun _ _ _ _ _ q=>neg_int q
end
noncomputable def FV:V→V→Bool
 | .non,.non=>true|.non,.int _=>true|.int _,.non=>true|.non,.bl _=>true|.bl _,.non=>true|.non,.str _=>true|.str _,.non=>true
 | .int _,.int _=>true|.bl _,.bl _=>true|.str _,.str _=>true|.byt _,.byt _=>true
 | .int _,.str _=>true|.str _,.int _=>true|.bl _,.str _=>true|.str _,.bl _=>true
 | _,_=>false
def rEq:R2:=fun x y H Q=>FV x y=true∧Q (.bl (decide (x=y))) H
def rNe:R2:=fun x y H Q=>FV x y=true∧Q (.bl (!decide (x=y))) H
theorem qz{i j:Int}:decide (V.int i=V.int j)=(i == j):=by
 rw[Nd]
 simp
theorem jB{i j:Bool}:decide (V.bl i=V.bl j)=(i == j):=by
 rw[Nd]
 simp
theorem qy{i j:Str}:decide (V.str i=V.str j)=(i == j):=by
 rw[Nd]
 simp
theorem qA{i j:Array UInt8}:decide (V.byt i=V.byt j)=(i.toList == j.toList):=by
 rw[Nd]
 cases i
 cases j
 simp
section
variable {X:Cx} {a b c:Expr} {ta tb tc:TE} {pos:Pos}
theorem m5{pins:List (Addr × Obj)}{σ:St}{H:Hp}{s:Shared}{Q:VK}{k k':Bool}(I:Inv X pins σ H s)(q:Q (.bl k) H)(e:k=k'):EP X pins σ Q (.bool k') s:=by
 subst e
 exact⟨.bl k,H,I,rfl,q⟩
theorem vB:OpR X (compareOp .Eq) rEq:=by
 intro pins s σ H x y v u Q I rx ry h
 obtain⟨hs,q⟩:=h
 cases x with
 | non =>
  cases rx
  cases y with
  | non=>cases ry;exact PySem.EqNone.eq_none_none (m5 I q (by simp))
  | bl j=>cases ry;exact PySem.EqNone.eq_none_bool (m5 I q (by simp))
  | int j=>obtain⟨t',rfl⟩:=ry;exact PySem.EqNone.eq_none_int (m5 I q (by simp))
  | str j=>obtain⟨t',rfl⟩:=ry;exact PySem.EqNone.eq_none_str (m5 I q (by simp))
  | _=>exact absurd (show false=true from hs) LO
 | bl i =>
  cases rx
  cases y with
  | non=>cases ry;exact PySem.EqNone.eq_bool_none (m5 I q (by simp))
  | bl j=>cases ry;exact eq_bool (m5 I q jB)
  | str j=>obtain⟨t',rfl⟩:=ry;exact PySem.EqMixed.eq_bool_str (m5 I q (by simp))
  | _=>exact absurd (show false=true from hs) LO
 | int i =>
  obtain⟨t,rfl⟩:=rx
  cases y with
  | non=>cases ry;exact PySem.EqNone.eq_int_none (m5 I q (by simp))
  | int j=>obtain⟨t',rfl⟩:=ry;exact eq_int (m5 I q qz)
  | str j=>obtain⟨t',rfl⟩:=ry;exact PySem.EqMixed.eq_int_str (m5 I q (by simp))
  | _=>exact absurd (show false=true from hs) LO
 | str i =>
  obtain⟨t,rfl⟩:=rx
  cases y with
  | non=>cases ry;exact PySem.EqNone.eq_str_none (m5 I q (by simp))
  | bl j=>cases ry;exact PySem.EqMixed.eq_str_bool (m5 I q (by simp))
  | int j=>obtain⟨t',rfl⟩:=ry;exact PySem.EqMixed.eq_str_int (m5 I q (by simp))
  | str j=>obtain⟨t',rfl⟩:=ry;exact eq_str (m5 I q qy)
  | _=>exact absurd (show false=true from hs) LO
 | byt i =>
  obtain⟨t,rfl⟩:=rx
  cases y with
  | byt j=>obtain⟨t',rfl⟩:=ry;exact PySem.W.eq_bytes (m5 I q qA)
  | _=>exact absurd (show false=true from hs) LO
 | _=>cases y<;>exact absurd (show false=true from hs) LO
theorem vz:OpR X (compareOp .NotEq) rNe:=by
 intro pins s σ H x y v u Q I rx ry h
 obtain⟨hs,q⟩:=h
 cases x with
 | non =>
  cases rx
  cases y with
  | non=>cases ry;exact PySem.EqNone.ne_none_none (m5 I q (by simp))
  | bl j=>cases ry;exact PySem.EqNone.ne_none_bool (m5 I q (by simp))
  | int j=>obtain⟨t',rfl⟩:=ry;exact PySem.EqNone.ne_none_int (m5 I q (by simp))
  | str j=>obtain⟨t',rfl⟩:=ry;exact PySem.EqNone.ne_none_str (m5 I q (by simp))
  | _=>exact absurd (show false=true from hs) LO
 | bl i =>
  cases rx
  cases y with
  | non=>cases ry;exact PySem.EqNone.ne_bool_none (m5 I q (by simp))
  | bl j=>cases ry;exact ne_bool (m5 I q (congrArg not jB))
  | str j=>obtain⟨t',rfl⟩:=ry;exact PySem.EqMixed.ne_bool_str (m5 I q (by simp))
  | _=>exact absurd (show false=true from hs) LO
 | int i =>
  obtain⟨t,rfl⟩:=rx
  cases y with
  | non=>cases ry;exact PySem.EqNone.ne_int_none (m5 I q (by simp))
  | int j=>obtain⟨t',rfl⟩:=ry;exact ne_int (m5 I q (congrArg not qz))
  | str j=>obtain⟨t',rfl⟩:=ry;exact PySem.EqMixed.ne_int_str (m5 I q (by simp))
  | _=>exact absurd (show false=true from hs) LO
 | str i =>
  obtain⟨t,rfl⟩:=rx
  cases y with
  | non=>cases ry;exact PySem.EqNone.ne_str_none (m5 I q (by simp))
  | bl j=>cases ry;exact PySem.EqMixed.ne_str_bool (m5 I q (by simp))
  | int j=>obtain⟨t',rfl⟩:=ry;exact PySem.EqMixed.ne_str_int (m5 I q (by simp))
  | str j=>obtain⟨t',rfl⟩:=ry;exact ne_str (m5 I q (congrArg not qy))
  | _=>exact absurd (show false=true from hs) LO
 | byt i =>
  obtain⟨t,rfl⟩:=rx
  cases y with
  | byt j=>obtain⟨t',rfl⟩:=ry;exact PySem.W.ne_bytes (m5 I q (congrArg not qA))
  | _=>exact absurd (show false=true from hs) LO
 | _=>cases y<;>exact absurd (show false=true from hs) LO
theorem Gm:OpR X (compareOp .Lt) (rI0 fun i j=>.bl (decide (i<j))):=zY fun _ _ _ _ _ _ _ q=>lt_int q
theorem Gn:OpR X (compareOp .LtE) (rI0 fun i j=>.bl (decide (i≤j))):=zY fun _ _ _ _ _ _ _ q=>le_int q
theorem Gp:OpR X (compareOp .Gt) (rI0 fun i j=>.bl (decide (j<i))):=zY fun _ _ _ _ _ _ _ q=>gt_int q
theorem Gq:OpR X (compareOp .GtE) (rI0 fun i j=>.bl (decide (j≤i))):=zY fun _ _ _ _ _ _ _ q=>ge_int q
noncomputable def GG:HO→Bool
 | .lst _=>true
 | .ins _ _ _=>true
 | _=>false
theorem gm{pins:List (Addr × Obj)}{s:Shared}{σ:St}{H:Hp}{a:Addr}{o:HO}(I:Inv X pins σ H s)(h:H a=some o)(p:GG o=true):∃ ob,s.heap.get? a=some ob∧ob.cls ≠ .type "tuple" := by
 cases o with
 | lst xs =>
  obtain⟨_,its,n,_,e⟩:xs.length≤sizeLine∧∃(its:List Value) (n:Nat),h8 xs its∧s.heap.get? a=some { cls:=.type "list",data:=.seq its.toArray n }:=I.hok a _ h
  exact⟨_,e,(by show Value.type "list" ≠ .type "tuple";decide +kernel)⟩
 | ins C dx fs =>
  have x:=I.hok a _ h
  obtain⟨_,_,_,e,_⟩:=x
  exact⟨_,e,(by show Value.ref C ≠ .type "tuple";exact fun z=>by cases z)⟩
 | _=>exact absurd (show false=true from p) LO
theorem OpR.or{f:Value→Value→Sem Value}{r r':R2}(h:OpR X f r)(h':OpR X f r'):OpR X f (fun x y H Q=>r x y H Q∨r' x y H Q):=by
 intro pins s σ H x y v u Q I rx ry q
 rcases q with q|q
 ·exact h pins s σ H x y v u Q I rx ry q
 ·exact h' pins s σ H x y v u Q I rx ry q
theorem vL(b:Expr){op:CmpOp}(h:op ≠ .In:=by decide)(h2:op ≠ .NotIn:=by decide):behindInMarks op b=false:=by
 have e1:(op == CmpOp.In)=false:=by cases op<;>first|rfl|exact absurd rfl h
 have e2:(op == CmpOp.NotIn)=false:=by cases op<;>first|rfl|exact absurd rfl h2
 cases b<;>simp[behindInMarks,e1,e2]
theorem zQ{op:CmpOp}{r:R2}(ho:OpR X (compareOp op) r)(ha:PE X a ta)(hb:PE X b tb)(hm:behindInMarks op b=false):PE X (.Compare a [op] [b] pos) (tOp r ta tb):=by
 intro pins s σ H Q I h
 exact wpAny_Compare1 (EI ha hb I h fun v u s2 x y H2 I2 rx ry q=>ho pins s2 σ H2 x y v u Q I2 rx ry q) hm
def FI(t:TE):TT:=fun σ H Q=>t σ H fun x H'=>∃ k,x = .bl k∧Q k H'
theorem zu{op:CmpOp}{r:R2}(ho:OpR X (compareOp op) r)(ha:PE X a ta)(hb:PE X b tb)(hm:behindInMarks op b=false):PT X (.Compare a [op] [b] pos) (FI (tOp r ta tb)):=by
 intro pins s σ H Q I h
 refine wpAny_isTrue_Compare1 (thn (ha pins s σ H _ I h) fun v s1 ⟨x,H1,I1,r1,q1⟩=>thn (hb pins s1 σ H1 _ I1 q1) fun u s2 ⟨y,H2,I2,r2,q2⟩ =>
  thn (ho pins s2 σ H2 x y v u _ I2 r1 r2 q2) fun c s3 ⟨z,H3,I3,r3,k,e,q3⟩=>?_) hm
 subst e
 cases r3
 exact wpAny_truthy_bool ⟨H3,I3,q3⟩
def uj(r r':R2)(ta tb tc:TE):TE:=fun σ H Q=>ta σ H fun x H1=>tb σ H1 fun y H2=>r x y H2 fun z H3=>∃ k,z = .bl k ∧
 (if k=true then tc σ H3 fun w' H4=>r' y w' H4 Q else Q (.bl false) H3)
theorem vw{op op':CmpOp}{r r':R2}(ho:OpR X (compareOp op) r)(ho':OpR X (compareOp op') r')(ha:PE X a ta)(hb:PE X b tb)(hc:PE X c tc)
  (hm:lastMarks [op,op'] [b,c]=false:=by with_unfolding_all rfl):PE X (.Compare a [op,op'] [b,c] pos) (uj r r' ta tb tc):=by
 intro pins s σ H Q I h
 refine Compare_chain (thn (ha pins s σ H _ I h) fun v s1 ⟨x,H1,I1,r1,q1⟩=>chain_link (thn (hb pins s1 σ H1 _ I1 q1) fun u s2 ⟨y,H2,I2,r2,q2⟩ =>
  thn (ho pins s2 σ H2 x y v u _ I2 r1 r2 q2) fun d s3 ⟨z,H3,I3,r3,k,e,q3⟩=>?_)) hm
 subst e
 cases r3
 refine wpAny_truthy_bool ?_
 cases k with
 | false=>exact ite_ff ⟨.bl false,H3,I3,rfl,q3⟩
 | true=>exact ite_tt (chain_last (thn (hc pins s3 σ H3 _ I3 q3) fun w' s4 ⟨z',H4,I4,r4,q4⟩=>ho' pins s4 σ H4 y z' u w' Q I4 r2 r4 q4))
theorem jq:(sizeLine:Nat)<2 ^ 63:=by rw[sizeLine_eq];decide
theorem fV{x:V}{us:List Value}(r:h8 [x] us):∃ u,us=[u]∧o7 x u:=by
 cases r with
 | cons r1 r2=>cases r2;exact⟨_,rfl,r1⟩
theorem pT{x y:V}{us:List Value}(r:h8 [x,y] us):∃ u w',us=[u,w']∧o7 x u∧o7 y w':=by
 cases r with
 | cons r1 r2 =>
  cases r2 with
  | cons r3 r4=>cases r4;exact⟨_,_,rfl,r1,r3⟩
theorem xj:t6 X (.builtin "abs") (fun xs H Q=>∃ i,xs=[.int i]∧Q (.int (if i<0 then -i else i)) H):=by
 intro pins s σ H xs us Q I r h
 obtain⟨i,rfl,q⟩:=h
 obtain⟨u,rfl,t,rfl⟩:=fV r
 exact call_abs_int fun u tk=>⟨.int (if i<0 then -i else i),H,I.tok _,⟨_,rfl⟩,q⟩
theorem rV(hc:X.calm=true):t6 X (.builtin "max") (fun xs H Q=>∃ i j,xs=[.int i,.int j]∧Q (.int (if j > i then j else i)) H):=by
 intro pins s σ H xs us Q I r h
 obtain⟨i,j,rfl,q⟩:=h
 obtain⟨u,w',rfl,⟨t,rfl⟩,⟨t',rfl⟩⟩:=pT r
 refine max_two_ints (I.ok.hd hc) fun h' tk k=>⟨_,H,I.kept k,?_,q⟩
 by_cases hj:j > i
 ·rw[if_pos hj,if_pos hj];exact⟨_,rfl⟩
 ·rw[if_neg hj,if_neg hj];exact⟨_,rfl⟩
theorem rT(hc:X.calm=true):t6 X (.builtin "min") (fun xs H Q=>∃ i j,xs=[.int i,.int j]∧Q (.int (if j<i then j else i)) H):=by
 intro pins s σ H xs us Q I r h
 obtain⟨i,j,rfl,q⟩:=h
 obtain⟨u,w',rfl,⟨t,rfl⟩,⟨t',rfl⟩⟩:=pT r
 refine min_two_ints (I.ok.hd hc) fun h' tk k=>⟨_,H,I.kept k,?_,q⟩
 by_cases hj:j<i
 ·rw[if_pos hj,if_pos hj];exact⟨_,rfl⟩
 ·rw[if_neg hj,if_neg hj];exact⟨_,rfl⟩
end
structure EO(h:Heap)(x dx C:Addr)(mA:Str→Option Value):Prop where
 obj:h.get? x=some (PySem.W.instObj C dx)
 ns:h.Ns1 dx mA
 ne:dx≠x
theorem rH{h:Heap}{dx:Addr}{mA:Str→Option Value}(n:h.Ns1 dx mA):∃ od,h.get? dx=some od∧∀ name,PySem.W.lookIn name od=some (mA name):=by
 obtain⟨o,es,ep,ho,hd,hk,_,hm⟩:=n
 refine⟨o,ho,fun name=>?_⟩
 have e:=hm name
 unfold nsFind findBy at e
 rw[← Array.find?_toList]at e
 unfold PySem.W.lookIn
 rw[hd]
 dsimp only
 split
 ·rename_i y q
  rw[q]at e
  exact congrArg some e
 ·rename_i q
  rw[q]at e
  have a:es.toList.any (·.refKey)=false:=by
   rw[Pn]
   intro y hy
   obtain⟨z,t,hkey⟩:=hk y (Array.mem_toList_iff.mp hy)
   simp[DictEntry.refKey,hkey]
  have a':¬ es.toList.any (·.refKey)=true:=by rw[a];exact LO
  rw[if_neg a']
  exact congrArg some e
theorem EO.look{h:Heap}{x dx C:Addr}{mA:Str→Option Value}(I:EO h x dx C mA):∃ od,PySem.W.InstAt h x (PySem.W.instObj C dx) C (some od)∧∀ name,PySem.W.lookIn name od=some (mA name) :=
 let ⟨od,ho,hl⟩:=rH I.ns
 ⟨od,⟨I.obj,rfl,rfl,ho⟩,hl⟩
section
variable {prog:Program} {w:World} {A:Around} {E:Value→Shared→Prop} {s:Shared} {K:Ly} {x dx C f:Addr} {mA:Str→Option Value} {name:Str} {v:Value}
end
section
variable {P:Program} {w:World} {H H':Hp} {h h':Heap} {a C dx:Addr} {fs fs':List (Str × V)}
theorem AA(hok:HOk P w H h)(e:H a=some (.ins C dx fs)):∃ mA,EO h a dx C mA∧(∀ f,EN (fs.lookup f) (mA f))∧PySem.Within mA (fs.map (·.1))∧fs.length≤1000∧H dx=some (.own a):=by
 obtain⟨d,z,ne,ob,mA,n,r,q⟩:=(show A0 P w H h a (.ins C dx fs)from hok a _ e)
 exact⟨mA,⟨ob,n,ne⟩,r,q,z,d⟩
end
structure Cls(K:Ly)(C:Addr):Prop where
 pg:PySem.W.plainGet K C Str.empty=true
 hd:PySem.W.hasDictIn K C=true
 po:PySem.W.plainOver K C=true
 sa:PySem.W.findIn K (.ref C) "__setattr__" = some (some (.builtin "object.__setattr__"))
theorem Cls.get{K:Ly}{C:Addr}(c:Cls K C)(f:Str):PySem.W.plainGet K C f=true:=c.pg
section
variable {X:Cx} {pins:List (Addr × Obj)} {σ:St} {H:Hp} {s:Shared} {a C dx:Addr} {fs:List (Str × V)} {f:Str} {v:V} {A:Around} {E:Value→Shared→Prop}
theorem Inv.made(I:Inv X pins σ H s):Inv X pins σ (upd (upd H s.heap.objs.size (.own (s.heap.objs.size+1))) (s.heap.objs.size+1) (.ins C s.heap.objs.size []))
  { s with heap:=(s.heap.push PySem.W.emptyDict).push (PySem.W.instObj C s.heap.objs.size) }:=by
 have e1:(s.heap.push PySem.W.emptyDict).get? s.heap.objs.size=some PySem.W.emptyDict:=LC s.heap rfl
 have e2:((s.heap.push PySem.W.emptyDict).push (PySem.W.instObj C s.heap.objs.size)).get? (s.heap.objs.size+1)=some (PySem.W.instObj C s.heap.objs.size):=by
  have:=LC (s.heap.push PySem.W.emptyDict) (o:=PySem.W.instObj C s.heap.objs.size) rfl
  rwa [Mg]at this
 have e3:(s.heap.push PySem.W.emptyDict).Ns s.heap.objs.size (fun _=>none):=⟨PySem.W.emptyDict,#[],_,e1,rfl,(fun e he=>absurd he (by simp)),fun _=>rfl⟩
 have I1:=I.laid (a:=s.heap.objs.size) (o:=.own (s.heap.objs.size+1)) (h':=s.heap.push PySem.W.emptyDict) (t':=s.toks) (fun b u q=>Lx _ q) (LQ _) ⟨_,e1⟩
 refine I1.laid (a:=s.heap.objs.size+1) (o:=.ins C s.heap.objs.size []) (t':=s.toks) (fun b u q=>Lx _ q) (OH (Mg _ _)) ?_
 have ne:s.heap.objs.size≠s.heap.objs.size+1:=LV (Ow _)
 refine⟨by rw[g7 ne,i3],Ms _,ne,e2,fun _=>none,(Heap.Ns1.of_empty e3).at fun o q=>Lx _ q,fun _=>True.intro,fun y hy=>absurd rfl hy⟩
end
section
variable {X:Cx} {o e value:Expr} {f:Str} {pos pos' tpos:Pos} {ta tv:TE}
end
section
variable {X:Cx} {pins:List (Addr × Obj)} {σ:St} {H:Hp} {s:Shared} {A:Around} {E:Value→Shared→Prop} {Q:Value→Shared→Prop} {c:Value} {b:Bool}
inductive bW (K:Ly) (H:Hp):V→Value→Prop where
 | non:bW K H .non (.type "NoneType")
 | bl (x:Bool):bW K H (.bl x) (.type "bool")
 | int (i:Int):bW K H (.int i) (.type "int")
 | str (x:Str):bW K H (.str x) (.type "str")
 | flt (x:UInt64):bW K H (.flt x) (.type "float")
 | lst {a:Addr} {xs:List V} (e:H a=some (.lst xs)):bW K H (.ref a) (.type "list")
 | frz {a:Addr} {o:Obj} {xs:List V} (e:H a=some (.frz o (.lst xs))):bW K H (.ref a) (.type "list")
 | tup {a:Addr} {xs:List V} (e:H a=some (.tup xs)):bW K H (.ref a) (.type "tuple")
 | dK {a:Addr} {kvs:List (Key × V)} (e:H a=some (.dK kvs)):bW K H (.ref a) (.type "dict")
 | dT {a:Addr} {kvs:List (List Key × V)} (e:H a=some (.dT kvs)):bW K H (.ref a) (.type "dict")
 | ins {a C dx:Addr} {fs:List (Str × V)} (e:H a=some (.ins C dx fs)) (cl:Cls K C) (ha:PySem.W.findIn K (.ref C) "__class__" = some (some (.builtin "object.__class__")))
   (hn:PySem.W.specialIn K (.builtin "object.__class__") "__get__" = some (some (.builtin "getset_descriptor.__get__"))) (htk:PySem.W.takesIn K (.builtin "object.__class__")=some true)
   (hm:PySem.W.mroIn K C (.type "object")=some true):bW K H (.ref a) (.ref C)
theorem L6{x:V}{u t:Value}(I:Inv X pins σ H s)(rx:o7 x u)(ty:bW X.K H x t)(e:PySem.W.kitOne X.K t c=some b)(h:∀ tk,Q (.bool b) { s with toks:=tk }) :
  wpAny (model X.prog X.w) A (call (.builtin "isinstance") [u,c]) Q E s:=by
 cases ty with
 | non=>cases(show u=Value.none from rx);exact PySem.W.kia_one PySem.W.kitx_none I.kIn True.intro e (fun z=>nomatch z) h
 | bl y=>cases(show u=Value.bool y from rx);exact PySem.W.kia_one PySem.W.kitx_bool I.kIn True.intro e (fun z=>nomatch z) h
 | int i=>obtain⟨t,q⟩:=(show ∃ t,u=Value.int i t from rx);cases q;exact PySem.W.kia_one PySem.W.kitx_int I.kIn True.intro e (fun z=>nomatch z) h
 | str y=>obtain⟨t,q⟩:=(show ∃ t,u=Value.str y t from rx);cases q;exact PySem.W.kia_one PySem.W.kitx_str I.kIn True.intro e (fun z=>nomatch z) h
 | flt y=>obtain⟨t,q⟩:=(show ∃ t,u=Value.float y t from rx);cases q;exact PySem.W.kia_one PySem.W.kitx_float I.kIn True.intro e (fun z=>nomatch z) h
 | @lst a xs ea =>
  cases(show u=Value.ref a from rx)
  obtain⟨_,_,n,_,h1⟩:=(show A0 X.prog X.w H s.heap a (.lst xs)from I.hok a _ ea)
  exact PySem.W.kia_one PySem.W.kitx_list I.kIn ⟨_,h1,rfl⟩ e (fun z=>nomatch z) h
 | @frz a ob xs ea =>
  cases(show u=Value.ref a from rx)
  obtain⟨_,_,_,n,_,h1⟩:=(show A0 X.prog X.w H s.heap a (.frz ob (.lst xs))from I.hok a _ ea)
  exact PySem.W.kia_one PySem.W.kitx_list I.kIn ⟨_,h1,rfl⟩ e (fun z=>nomatch z) h
 | @tup a xs ea =>
  cases(show u=Value.ref a from rx)
  obtain⟨_,_,_,p⟩:=(show A0 X.prog X.w H s.heap a (.tup xs)from I.hok a _ ea)
  obtain⟨o,h1,h2,_⟩:=p
  exact PySem.W.kia_one PySem.W.kitx_tuple I.kIn ⟨o,h1,h2⟩ e (fun z=>nomatch z) h
 | @dK a kvs ea =>
  cases(show u=Value.ref a from rx)
  obtain⟨_,_,vs,_,p⟩:=(show A0 X.prog X.w H s.heap a (.dK kvs)from I.hok a _ ea)
  obtain⟨o,es,ep,h1,h2,_⟩:=p
  exact PySem.W.kia_one PySem.W.kitx_dict I.kIn ⟨o,h1,h2.1⟩ e (fun z=>nomatch z) h
 | @dT a kvs ea =>
  cases(show u=Value.ref a from rx)
  obtain⟨_,_,xs,_,o,es,ep,h1,h2,_⟩:=(show A0 X.prog X.w H s.heap a (.dT kvs)from I.hok a _ ea)
  exact PySem.W.kia_one PySem.W.kitx_dict I.kIn ⟨o,h1,h2.1⟩ e (fun z=>nomatch z) h
 | @ins a C dx fs ea cl ha hn htk hm =>
  cases(show u=Value.ref a from rx)
  obtain⟨mA,O,_⟩:=AA I.hok ea
  obtain⟨od,J,_⟩:=O.look
  exact PySem.W.kia_one (PySem.W.kitx_own (cl.get _) cl.hd ha hn htk hm) I.kIn J e (fun z=>nomatch z) h
end
structure F5(k:Nat)(A:Around):Prop where
 hd:A.handled=none
 dp:A.depth+3*k+5<recursionLimit
 un:A.units+16*k+200<cLine
theorem F5.mono{j k:Nat}{A:Around}(r:F5 k A)(h:j≤k):F5 j A:=⟨r.hd,by have:=r.dp;omega,by have:=r.un;omega⟩
theorem F5.deeper{k:Nat}{A:Around}(r:F5 (k+1) A)(env:Env):F5 k (A.deeper env) :=
 ⟨r.hd,by have:=r.dp;show A.depth+1+3*k+5<_;omega,by have:=r.un;show A.units+3+16*k+200<_;omega⟩
theorem F5.in1{k:Nat}{A:Around}(r:F5 (k+1) A):F5 k A.in1 :=
 ⟨r.hd,by have:=r.dp;show A.depth+3*k+5<_;omega,by have:=r.un;show A.units+1+16*k+200<_;omega⟩
theorem F5.depth{k:Nat}{A:Around}(r:F5 k A):A.depth<recursionLimit:=by have:=r.dp;omega
theorem F5.units{k:Nat}{A:Around}(r:F5 k A):A.units+64<cLine:=by have:=r.un;omega
def HL:TA:=fun _ H Q=>Q [] H
def FQ(ta:TE)(tr:TA):TA:=fun σ H Q=>ta σ H fun x H1=>tr σ H1 fun xs H2=>Q (x :: xs) H2
section
variable {X:Cx} {e:Expr} {es:List Expr} {te:TE} {t:TA} {pos:Pos}
theorem DU:PA X [] HL:=fun _ _ _ _ H Q I h=>Calls.spliced_nil ⟨[],H,I,.nil,h⟩
theorem zT(ha:PE X e te)(hr:PA X es t)(hs:starEach (e :: es) X.env=(false,eval e X.env) :: starEach es X.env:=by rfl):PA X (e :: es) (FQ te t):=by
 intro pos pins s σ H Q I h
 rw[hs]
 show wpAny _ _ (spliced ((false,eval e X.env) :: backTo pos (starEach es X.env))) _ _ s
 refine Calls.spliced_cons (thn (ha pins s σ H _ I h) fun u s1 zz=>?_)
 obtain⟨x,H1,I1,r1,q1⟩:=zz
 exact thn (hr pos pins s1 σ H1 _ I1 q1) fun us s2 ⟨xs,H2,I2,r2,q2⟩=>⟨x :: xs,H2,I2,.cons r1 r2,q2⟩
def HG(t:TA):TE:=fun σ H Q=>t σ H fun xs H1=>xs.length≤sizeLine∧∀ p,H1 p=none→Q (.ref p) (upd H1 p (.tup xs))
def HM(t:TA):TE:=fun σ H Q=>t σ H fun xs H1=>xs.length≤sizeLine∧∀ p,H1 p=none→Q (.ref p) (upd H1 p (.lst xs))
theorem DN{x1}(h:PA X es t):PE X (.Tuple es x1 pos) (HG t):=by
 intro pins s σ H Q I hq
 refine wpAny_Tuple_spliced (thn (h pos pins s σ H _ I hq) fun us s1 ⟨xs,H1,I1,r,z,q⟩=>⟨by rw[← r.length];exact z,?_⟩)
 have hf:H1 s1.heap.objs.size=none:=I1.hok.fresh (LQ _)
 refine⟨.ref s1.heap.objs.size,upd H1 s1.heap.objs.size (.tup xs),I1.laid (t':=s1.toks) (fun b u e=>Lx _ e) (LQ _) ?_,rfl,q _ hf⟩
 exact⟨z,us,r,⟨_,LC _ rfl,rfl,_,rfl⟩⟩
theorem vn(h:PA X es t):PE X (.List es pos) (HM t):=by
 intro pins s σ H Q I hq
 refine wpAny_List_spliced (thn (h pos pins s σ H _ I hq) fun us s1 ⟨xs,H1,I1,r,z,q⟩=>⟨by rw[← r.length];exact z,?_⟩)
 have hf:H1 s1.heap.objs.size=none:=I1.hok.fresh (LQ _)
 refine⟨.ref s1.heap.objs.size,upd H1 s1.heap.objs.size (.lst xs),I1.laid (t':=s1.toks) (fun b u e=>Lx _ e) (LQ _) ?_,rfl,q _ hf⟩
 exact⟨z,us,0,r,LC _ rfl⟩
end
noncomputable abbrev Sp:=List V→Hp→VK→XK→Prop
noncomputable abbrev CXT:=List Env→Hp→Shared→XK→Value→Shared→Prop
structure oI(P:Program)(w:World)(K:Ly)(mg:Str→Option Value)(base:Heap)(A:Around)(outer:List Env)(s:Shared)(H:Hp):Prop where
 frames:A.frames=some outer
 mod:Mod K mg base
 bs:∀ b o,base.get? b=some o→s.heap.get? b=some o∧H b=none
 bsz:base.objs.size≤s.heap.objs.size
 funs:s.heap.FunFrames base outer
 frf:∀ b∈frs outer,H b=none
 hok:HOk P w H s.heap
 bare:AllBare s.gens
def CE(outer:List Env)(P:Program)(w:World)(H:Hp)(s:Shared)(Q:VK)(u:Value)(s':Shared):Prop :=
 ∃ v H',s'.os=s.os∧AllBare s'.gens∧Un (frs outer) [] H H' s.heap s'.heap∧HOk P w H' s'.heap∧o7 v u∧Q v H'
def CR(CX:CXT)(outer:List Env)(P:Program)(w:World)(H:Hp)(s:Shared)(Q:VK)(E:XK)(r:Result)(s':Shared):Prop :=
 match r with
 | .ok (.ret u)=>CE outer P w H s Q u s'
 | .ok _=>False
 | .error e=>CX outer H s E e s'
structure Q8(P:Program)(w:World)(K:Ly)(mg:Str→Option Value)(base:Heap)(CX:CXT)(k:Nat)(f:Addr)(fd:FuncData)(ps:List Str)(sp:Sp):Prop where
 len:∀ vs H Q E,sp vs H Q E→vs.length=ps.length
 run:∀(A:Around) (outer:List Env) (s:Shared) (H:Hp) (args:Args) (us:List Value) (vs:List V) (Q:VK) (E:XK),F5 k A→oI P w K mg base A outer s H→BindsTo s fd args (ps.zip us)→h8 vs us→sp vs H Q E →
  codeAny (model P w) A (.call (.ref f) args) (CR CX outer P w H s Q E) s
theorem Q8.mono{P:Program}{w:World}{K:Ly}{mg:Str→Option Value}{base:Heap}{CX:CXT}{j k:Nat}{f:Addr}{fd:FuncData}{ps:List Str}{sp:Sp}(F:Q8 P w K mg base CX j f fd ps sp)(h:j≤k) :
  Q8 P w K mg base CX k f fd ps sp:=⟨F.len,fun A outer s H args us vs Q E hr=>F.run A outer s H args us vs Q E (hr.mono h)⟩
theorem Q8.imp{P:Program}{w:World}{K:Ly}{mg:Str→Option Value}{base:Heap}{CX:CXT}{k:Nat}{f:Addr}{fd:FuncData}{ps:List Str}{sp sp':Sp}(F:Q8 P w K mg base CX k f fd ps sp)
  (h:∀ vs H Q E,sp' vs H Q E→sp vs H Q E):Q8 P w K mg base CX k f fd ps sp' :=
 ⟨fun vs H Q E q=>F.len vs H Q E (h _ _ _ _ q),fun A outer s H args us vs Q E hr he hb hv hs=>F.run A outer s H args us vs Q E hr he hb hv (h _ _ _ _ hs)⟩
theorem oI.in1{P:Program}{w:World}{K:Ly}{mg:Str→Option Value}{base:Heap}{A:Around}{outer:List Env}{s:Shared}{H:Hp}(e:oI P w K mg base A outer s H) :
  oI P w K mg base A.in1 outer s H:=⟨e.frames,e.mod,e.bs,e.bsz,e.funs,e.frf,e.hok,e.bare⟩
section
variable {X:Cx} {pins:List (Addr × Obj)} {σ:St} {H:Hp} {s s':Shared}
theorem Inv.env0(I:Inv X pins σ H s):oI X.prog X.w X.K X.mg X.base X.A X.stack s H :=
 ⟨I.ok.frames,I.ok.mod,I.bs,LL I.ok.bsz I.sz,I.stack,I.stkFree,I.hok,I.bare⟩
theorem Inv.after{Q:VK}{u:Value}(I:Inv X pins σ H s)(h:CE X.stack X.prog X.w H s Q u s'):EP X pins σ Q u s':=by
 obtain⟨v,H',os,bare,un,hok,r,q⟩:=h
 obtain⟨hh,g,d,t,os'⟩:=s'
 obtain rfl:os'=s.os:=os
 exact⟨v,H',I.call (h':=hh) (g':=g) (d':=d) (t':=t) (ch:=[]) un hok bare (fun b z=>absurd z (by simp)),r,q⟩
end
def FR(sp:Sp)(dvs:List V)(E:XK)(t:TA):TE:=fun σ H Q=>t σ H fun vs H1=>sp (vs++dvs) H1 Q E
def dR(K:Ly)(fd:FuncData)(ps:List Str)(ds:List Value):Prop :=
 ∀(s:Shared) (us:List Value),K.In s.heap→(us++ds).length=ps.length→BindsTo s fd ⟨us,[]⟩ (ps.zip (us++ds))
theorem dR.all{K:Ly}{fd:FuncData}{ps:List Str}(h:∀ us:List Value,us.length=ps.length→bindArgs fd ⟨us,[]⟩=pure (ps.zip us)):dR K fd ps []:=fun s us _ hl=>by
 rw[Nx]at hl ⊢
 exact .of_eq (h us hl)
def jO(CX:CXT)(X:Cx)(E:XK):Prop:=∀(pins:List (Addr × Obj)) (σ:St) (H:Hp) (s:Shared) (e:Value) (s':Shared),Inv X pins σ H s→CX X.stack H s E e s'→X.xe e s'
section
variable {X:Cx} {CX:CXT} {k:Nat} {f C:Addr} {fd:FuncData} {ps:List Str} {sp:Sp} {dvs:List V} {ds:List Value} {E:XK} {x m:Str} {p pos apos:Pos} {e o:Expr} {es:List Expr} {ta:TE} {t:TA}
theorem Du{pins:List (Addr × Obj)}{σ:St}{H:Hp}{s:Shared}{Q:VK}{us:List Value}{vs:List V}(F:Q8 X.prog X.w X.K X.mg X.base CX k f fd ps sp)(hr:F5 k X.A)(hb:dR X.K fd ps ds)(hd:h8 dvs ds)(hx:jO CX X E)
  (I:Inv X pins σ H s) (r:h8 vs us) (h:sp (vs++dvs) H Q E):wpAny (model X.prog X.w) X.A (call (.ref f) us) (EP X pins σ Q) X.xe s:=by
 have r2:h8 (vs++dvs) (us++ds):=r.append hd
 have hl:(us++ds).length=ps.length:=by rw[← r2.length];exact F.len _ _ _ _ h
 refine wpAny_call (codeAny_mono (F.run X.A X.stack s H ⟨us,[]⟩ (us++ds) (vs++dvs) Q E hr I.env0 (hb s us I.kIn hl) r2 h) fun r s' hq=>?_)
 cases r with
 | error e=>exact hx pins σ H s e s' I hq
 | ok fl =>
  cases fl with
  | ret u=>exact I.after hq
  | next=>exact False.elim hq
  | brk=>exact False.elim hq
  | cont=>exact False.elim hq
theorem zR(F:Q8 X.prog X.w X.K X.mg X.base CX k f fd ps sp)(hr:F5 k X.A)(hg:Gl X x)(hm:X.mg x=some (.ref f))(hk:PySem.W.keepIn X.K (.ref f)=true)(hb:dR X.K fd ps ds)(hd:h8 dvs ds)(hx:jO CX X E)
  (ha:PA X (e :: es) t) (hdb:(x == ("__debug__" : Str))=false:=by decide) (he:starEach (e :: es) X.env=(false,eval e X.env) :: starEach es X.env:=by rfl) (hpl:(backTo pos (starEach es X.env)).any (·.1)=false:=by rfl) :
  PE X (.Call (.Name x p) (e :: es) [] pos) (FR sp dvs E t):=by
 intro pins s σ H Q I h
 refine wpAny_Call_Name_kw (qm I hg hm ?_ hdb)
 refine PySem.W.callWith_K (h₀:=X.base) I.ok.mod.kin hk (thn (ha pos pins s σ H _ I h) fun us s1 ⟨vs,H1,I1,r,q⟩=>⟨I1.kIn,?_⟩) he hpl
 exact Du F hr hb hd hx I1 r q
end
section
variable {X:Cx} {CX:CXT} {k:Nat} {f C:Addr} {fd:FuncData} {ps ks:List Str} {sp:Sp} {E:XK} {x m:Str} {p pos apos kpos:Pos} {e o:Expr} {es:List Expr} {kws:List Keyword} {te ta:TE} {t tk:TA} {nm:Option Str}
variable {g:List Value→List Value→List Value} {gV:List V→List V→List V}
end
structure e9(N P:List Str)(sc:Scope):Prop where
 kind:sc.kind = .function
 co:sc.isCoroutine=false
 gen:sc.isGenerator=false
 nd:N.Nodup
 pre:N.take P.length=P
 par:∀ x∈P,sc.names.lookup x=some .local∨sc.names.lookup x=some .cell
 nofree:∀ y∈sc.names,y.2 ≠ .free
theorem gG{kindOf:Str→Option NameKind}{x:Str}:∀{binds:List (Str × Value)} {m:Str→Option Value},(∀ v,(x,v)∉binds)→bindL kindOf binds m x=m x
 | [],_,_=>rfl
 | (n,v) :: r,m,h=>by
  unfold bindL
  rw[gG fun w hw=>h w (LG _ hw)]
  split
  ·have:x≠n:=by rintro rfl;exact h v LI
   simp[this]
  ·rfl
theorem gJ{kindOf:Str→Option NameKind}{x:Str}:∀{binds:List (Str × Value)} {m:Str→Option Value},(∀ v,(x,v)∉binds)→bindC kindOf binds m x=m x
 | [],_,_=>rfl
 | (n,v) :: r,m,h=>by
  unfold bindC
  rw[gJ fun w hw=>h w (LG _ hw)]
  split
  ·rfl
  ·have:x≠n:=by rintro rfl;exact h v LI
   simp[this]
theorem gH{kindOf:Str→Option NameKind}{x:Str}{v:Value}:∀{P:List Str} {vs:List Value} {i:Nat} {m:Str→Option Value},P.Nodup→P[i]? = some x→vs[i]? = some v→kindOf x=some .local →
  bindL kindOf (P.zip vs) m x=some v
 | [],_,_,_,_,h,_,_=>by simp at h
 | _ :: _,[],_,_,_,_,h,_=>by simp at h
 | p :: P,w :: vs,0,m,nd,h1,h2,hk=>by
  simp at h1 h2;subst h1;subst h2
  show bindL kindOf ((p,w) :: P.zip vs) m p=_
  unfold bindL
  rw[gG fun v hv=>(NU.mp nd).1 (NV hv).1,if_pos hk]
  simp
 | p :: P,w :: vs,i+1,m,nd,h1,h2,hk=>by
  show bindL kindOf ((p,w) :: P.zip vs) m x=_
  unfold bindL
  exact gH (i:=i) (NU.mp nd).2 (by simpa using h1) (by simpa using h2) hk
theorem gK{kindOf:Str→Option NameKind}{x:Str}{v:Value}:∀{P:List Str} {vs:List Value} {i:Nat} {m:Str→Option Value},P.Nodup→P[i]? = some x→vs[i]? = some v→kindOf x≠some .local →
  bindC kindOf (P.zip vs) m x=some v
 | [],_,_,_,_,h,_,_=>by simp at h
 | _ :: _,[],_,_,_,_,h,_=>by simp at h
 | p :: P,w :: vs,0,m,nd,h1,h2,hk=>by
  simp at h1 h2;subst h1;subst h2
  show bindC kindOf ((p,w) :: P.zip vs) m p=_
  unfold bindC
  rw[gJ fun v hv=>(NU.mp nd).1 (NV hv).1,if_neg hk]
  simp
 | p :: P,w :: vs,i+1,m,nd,h1,h2,hk=>by
  show bindC kindOf ((p,w) :: P.zip vs) m x=_
  unfold bindC
  exact gK (i:=i) (NU.mp nd).2 (by simpa using h1) (by simpa using h2) hk
noncomputable def start(N:List Str)(vs:List V):St:=vs.map some++Nb (N.length - vs.length) none
noncomputable def oj(CX:CXT)(P:Program)(w:World)(K:Ly)(mg:Str→Option Value)(base:Heap)(N:List Str)(qual:Str)(scope:Scope)(f:Addr)(cd:Value)(A:Around)(outer:List Env)(s:Shared)(H:Hp)(E:XK):Cx where
 prog:=P
 w:=w
 K:=K
 mg:=mg
 base:=base
 A:=A.deeper (envOfC qual scope s.heap.objs.size f cd)
 N:=N
 s₀:=s
 H₀:=H
 env:=envOfC qual scope s.heap.objs.size f cd
 outer:=outer
 stack:=envOfC qual scope s.heap.objs.size f cd :: outer
 ex:=[]
 calm:=true
 fn:=fun _=>true
 pn:=[]
 xe:=fun e s'=>wpAny (model P w) (A.deeper (envOfC qual scope s.heap.objs.size f cd)) (leaving (envOfC qual scope s.heap.objs.size f cd) e) (fun _ s''=>CX outer H s E e s'') (fun e' s''=>CX outer H s E e' s'') s'
theorem mB{sc:Scope}{n:Nat}{x:Str}(h:sc.names.lookup x=some .cell):∃ c,(cellsFrom n sc.names []).lookup x=some c:=by
 have q:=PySem.W.cellsFrom_some sc.names n [] (.inl h)
 exact Option.isSome_iff_exists.mp q
theorem rN{CX:CXT}{P:Program}{w:World}{K:Ly}{mg:Str→Option Value}{base:Heap}{N ps:List Str}{qual:Str}{scope:Scope}{f:Addr}{cd:Value}{A:Around}{outer:List Env}{s s1:Shared}{H:Hp}{E:XK}{us:List Value}{vs:List V}
  (S:e9 N ps scope) (hd:A.handled=none) (e0:oI P w K mg base A outer s H) (hl:vs.length=ps.length) (r:h8 vs us)
  (x:InCallC s s.heap.objs.size (bindL (envOfC qual scope s.heap.objs.size f cd).kindOf (ps.zip us) fun _=>none) (cellsFrom (s.heap.objs.size+1) scope.names []) (bindC (envOfC qual scope s.heap.objs.size f cd).kindOf (ps.zip us) fun _=>none) s1) :
  Inv (oj CX P w K mg base N qual scope f cd A outer s H E) [] (start N vs) H s1:=by
 have hpl:ps.length≤N.length:=by have:=congrArg PD S.pre;rw[Ml]at this;omega
 obtain⟨h1,tk,rfl,hk⟩:=x.done
 have noA:∀ b:Addr,b∉(oj CX P w K mg base N qual scope f cd A outer s H E).ex:=fun b z=>absurd (show b∈([]:List Addr)from z) (by simp)
 refine⟨⟨e0.mod,S.kind,rfl,rfl,LQ _,fun y z c h1 h2=>?_,fun y hy=>?_,fun y c _ h=>?_,fun _=>hd,Around.frames_deeper e0.frames,.inr ⟨rfl,rfl⟩,fun b z=>absurd z (noA b),e0.bs,e0.bsz,fun b _ _=>noA b,fun b z=>absurd z (noA b),e0.funs,e0.frf⟩,
  rfl,e0.bare,Un.kept hk,⟨_,x.toInCall.ns,fun i y v h1 h2 h3=>?_⟩,fun y c h=>⟨_,x.cell y c h⟩,e0.hok.fresh (LQ _),fun y c h=>?_,fun p hp=>absurd (show p∈([]:List (Addr × Obj))from hp) (by simp),e0.hok.kept hk,?_⟩
 ·exact name_of_addr x.apart (PySem.mem_of_lookup h1) (PySem.mem_of_lookup h2)
 ·have hy:scope.names.lookup y=some .cell∨scope.names.lookup y=some .free:=hy
  rcases hy with hy|hy
  ·exact mB hy
  ·exact absurd rfl (S.nofree _ (PySem.mem_of_lookup hy))
 ·exact MF (x.above y c (PySem.mem_of_lookup h))
 ·have hi:i<vs.length:=by
   unfold start at h2
   by_cases hi:i<vs.length
   ·exact hi
   ·rw[List.getElem?_append_right (by simpa using hi)]at h2
    rw[ML]at h2
    split at h2<;>cases h2
  have ha:vs[i]? = some v:=by
   unfold start at h2
   rw[List.getElem?_append_left (by simpa using hi),LY]at h2
   cases e:vs[i]? with
   | none=>rw[e]at h2;cases h2
   | some a=>rw[e]at h2;cases h2;rfl
  obtain⟨u,hu,rv⟩:=r.get ha
  have hp:ps[i]? = some y:=by
   rw[← S.pre,List.getElem?_take_of_lt (by omega)];exact h1
  have ndP:ps.Nodup:=by rw[← S.pre];exact S.nd.sublist (List.take_sublist _ _)
  refine⟨u,rv,?_⟩
  rcases S.par y (LS hp)with k|k
  ·exact .inl ⟨k,gH ndP hp hu k⟩
  ·obtain⟨c,e⟩:=mB (n:=s.heap.objs.size+1) k
   refine .inr ⟨.inl k,c,e,?_⟩
   have q:=x.cell y c e
   rw[gK ndP hp hu (by show scope.names.lookup y≠_;rw[k];decide)]at q
   exact q
 ·exact e0.hok.fresh (MF (x.above y c (PySem.mem_of_lookup h)))
 ·unfold start
  show _=N.length
  rw[Mi,LF,NG]
  omega
theorem GV{CX:CXT}{P:Program}{w:World}{K:Ly}{mg:Str→Option Value}{base:Heap}{k:Nat}{f:Addr}{name qual:Str}{params:Arguments}{body:List Stmt}{scope:Scope}{dV kV doc pm cdv ct oc:Value}{an od:Option Addr}
  {osl:Array (Option Value)} {N ps:List Str} {sp:Sp} (lk:K.lookup f=some ⟨oc,od,.func (PySem.W.fnOf name qual params body scope dV kV doc pm an cdv ct),osl⟩) (hcd:PySem.W.codeIn K cdv qual=true) (S:e9 N ps scope)
  (len:∀ vs H Q E,sp vs H Q E→vs.length=ps.length)
  (hbody:∀(A:Around) (outer:List Env) (s:Shared) (H:Hp) (vs:List V) (Q:VK) (E:XK),F5 k (A.deeper (envOfC qual scope s.heap.objs.size f cdv))→sp vs H Q E →
   ∃ t,PSs (oj CX P w K mg base N qual scope f cdv A outer s H E) body t∧t { nx:=fun _ H'=>Q .non H',rt:=Q } (start N vs) H) :
  Q8 P w K mg base CX (k+1) f (PySem.W.fnOf name qual params body scope dV kV doc pm an cdv ct) ps sp:=by
 refine⟨len,fun A outer s H args us vs Q E hr e0 hb r hsp=>?_⟩
 have hl:=len _ _ _ _ hsp
 have KX:K.In s.heap:=e0.mod.kin.keeps fun b o e=>(e0.bs b o e).1
 have lim:s.heap.NoLimit:=e0.mod.nolimit.keeps fun b o e=>(e0.bs b o e).1
 have hkind:∀ y∈ps.zip us,scope.names.lookup y.1=some .local∨(scope.names.lookup y.1=some .cell∧((cellsFrom (s.heap.objs.size+1) scope.names []).lookup y.1).isSome=true):=fun⟨n,v⟩ hy=>by
  rcases S.par n (NV hy).1 with q|q
  ·exact .inl q
  ·exact .inr ⟨q,PySem.W.cellsFrom_some _ _ _ (.inl q)⟩
 refine codeAny_call_function hr.depth (KX _ _ lk) rfl S.co S.gen rfl (PySem.W.codeRec_of KX hcd) (hb _ _ _ _ ?_)
 refine wpAny_newFunctionEnv_cells S.kind hkind fun env he s1 x=>?_
 subst he
 refine⟨lim.keeps x.toInCall.keep,codeAny_func ?_⟩
 obtain⟨t,ht,hq⟩:=hbody A outer s H vs Q E (hr.deeper _) hsp
 have I:Inv (oj CX P w K mg base N qual scope f cdv A outer s H E) [] (start N vs) H s1:=rN S hr.hd e0 hl r x
 refine wpAny_mono (ht [] s1 (start N vs) H _ I hq) (fun fl s' hs=>?_) fun e s' hs=>hs
 have fin:∀{σ':St} {H':Hp} {v:V} {u:Value},Inv (oj CX P w K mg base N qual scope f cdv A outer s H E) [] σ' H' s'→o7 v u→Q v H'→CE outer P w H s Q u s' :=
  fun{σ' H' v u} J rv q=>⟨v,H',J.os,J.bare,J.base,J.hok,rv,q⟩
 cases fl with
 | ret u =>
  obtain⟨v,σ',H',J,rv,q⟩:=hs
  exact fin J rv q
 | next =>
  obtain⟨σ',H',J,q⟩:=hs
  exact fin (v:=V.non) (u:=Value.none) J rfl q
 | brk =>
  obtain⟨_,_,_,q⟩:=hs
  exact False.elim q
 | cont =>
  obtain⟨_,_,_,q⟩:=hs
  exact False.elim q
section
variable {X:Cx} {x:Str} {p pos:Pos} {e:Expr} {es:List Expr} {t:TA} {id T:String} {r:List V→Hp→VK→Prop}
def tCB(r:List V→Hp→VK→Prop)(t:TA):TE:=fun σ H Q=>t σ H fun vs H1=>r vs H1 Q
theorem vx(hc:t6 X (.builtin id) r)(hg:Gl X x)(hm:X.mg x=none)(hv:bootBuiltins x=some (.builtin id))(ha:PA X (e :: es) t)(hn:x ≠ "__name__" := by decide)(hdb:(x == ("__debug__" : Str))=false:=by decide)
  (he:starEach (e :: es) X.env=(false,eval e X.env) :: starEach es X.env:=by rfl) (hpl:(backTo pos (starEach es X.env)).any (·.1)=false:=by rfl):PE X (.Call (.Name x p) (e :: es) [] pos) (tCB r t):=by
 intro pins s σ H Q I h
 refine wpAny_Call_Name_kw (K2 I hg hm hv ?_ hn hdb)
 exact PyProof.Rows.callWith_builtin1 (thn (ha pos pins s σ H _ I h) fun us s1 ⟨vs,H1,I1,r1,q1⟩=>hc pins s1 σ H1 vs us Q I1 r1 q1) he hpl
theorem gj(hc:t6 X (.type T) r)(hg:Gl X x)(hm:X.mg x=none)(hv:bootBuiltins x=some (.type T))(ha:PA X (e :: es) t)(hn:x ≠ "__name__" := by decide)(hdb:(x == ("__debug__" : Str))=false:=by decide)
  (he:starEach (e :: es) X.env=(false,eval e X.env) :: starEach es X.env:=by rfl) (hpl:(backTo pos (starEach es X.env)).any (·.1)=false:=by rfl):PE X (.Call (.Name x p) (e :: es) [] pos) (tCB r t):=by
 intro pins s σ H Q I h
 refine wpAny_Call_Name_kw (K2 I hg hm hv ?_ hn hdb)
 exact PyProof.Rows.callWith_type1 (thn (ha pos pins s σ H _ I h) fun us s1 ⟨vs,H1,I1,r1,q1⟩=>hc pins s1 σ H1 vs us Q I1 r1 q1) he hpl
end
end L2
namespace HT
open PySem PyProof.Rows
section
open PySem.SeqAt
open PySem.AutoSeq1 (wpAny_loadPart')
open PySem.MeetsSeq PySem.MeetsSeq2 PySem.MeetsSeq3
end
section
variable {prog:Program} {w:World} {A:Around} {E:Value→Shared→Prop} {s:Shared}
theorem AM{t b:Addr}{vs ws:List Value}{Q:Value→Shared→Prop}(ht:IsTup s.heap t vs.toArray)(hb:IsTup s.heap b ws.toArray)(hv:vs≠[])
  (h1:ws=[]→Q (.ref t) s) (h2:ws≠[]→Q (.ref s.heap.objs.size) { s with heap:=s.heap.push { cls:=.type "tuple",data:=.seq (vs++ws).toArray } })
  (hsz:vs.length+ws.length≤sizeLine):wpAny (model prog w) A (binaryOp .Add (.ref t) (.ref b)) Q E s:=by
 obtain⟨⟨cls,dd,data,sl⟩,ho,hc,n,hd⟩:=id ht
 obtain⟨⟨cls2,dd2,data2,sl2⟩,ho2,hc2,n2,hd2⟩:=id hb
 simp only at hc hd hc2 hd2
 subst hc hd hc2 hd2
 have e:vs.toArray++ws.toArray=(vs++ws).toArray:=by simp
 by_cases hw:ws=[]
 ·exact concat_meets ⟨_,ho,rfl⟩ ⟨_,ho2,rfl⟩ noFill_tuple_add seq_tuple_add PySem.F.slot_tuple_add PySem.F.entry_tuple_add (PySem.F.args_tuple_add_2 _ _)
   (tuple_addW1 t b vs.toArray ws.toArray n n2 dd dd2 sl sl2 (by simpa using hv) (by simp[hw])) ⟨ho,ho2,h1 hw⟩
 ·refine concat_meets ⟨_,ho,rfl⟩ ⟨_,ho2,rfl⟩ noFill_tuple_add seq_tuple_add PySem.F.slot_tuple_add PySem.F.entry_tuple_add (PySem.F.args_tuple_add_2 _ _)
   (tuple_addW2 t b vs.toArray ws.toArray n n2 dd dd2 sl sl2 (by simpa using hv) (by simpa using hw) (by rw[LN,LN];exact hsz)) ⟨ho,ho2,?_⟩
  rw[e]
  exact h2 hw
noncomputable def sIx(n d:Nat):Option Int→Nat
 | none=>d
 | some v=>if v<0 then(v+(n:Int)).toNat else min v.toNat n
theorem Dp(n d:Nat)(hd:d≤n)(o:Option Int):sIx n d o≤n:=by
 cases o with
 | none=>exact hd
 | some v =>
  show(if v<0 then(v+(n:Int)).toNat else min v.toNat n)≤n
  by_cases hv:v<0
  ·rw[if_pos hv];omega
  ·rw[if_neg hv];exact NJ _ _
theorem qF(v:Int)(n d:Nat):(if v<0 then max (v+(n:Int)) 0 else min v (n:Int))=((sIx n d (some v):Nat):Int):=by
 show(if v<0 then max (v+(n:Int)) 0 else min v (n:Int))=(((if v<0 then(v+(n:Int)).toNat else min v.toNat n):Nat):Int)
 by_cases hv:v<0
 ·simp only[if_pos hv];omega
 ·simp only[if_neg hv];omega
theorem oz(lo hi:Option Int)(n:Nat):Builtin.Slice.sliceAdjust lo hi 1 (n:Int)=(((sIx n 0 lo:Nat):Int),((sIx n n hi:Nat):Int)):=by
 have h1:¬ ((1:Int)<0):=by omega
 unfold Builtin.Slice.sliceAdjust
 simp only[h1,if_false]
 refine Prod.ext ?_ ?_
 ·cases lo with
  | none=>rfl
  | some v=>exact qF v n 0
 ·cases hi with
  | none=>rfl
  | some v=>exact qF v n n
theorem nN(i j:Nat):Builtin.Slice.slicePlaces (i:Int) (j:Int) 1=j - i:=by
 unfold Builtin.Slice.slicePlaces
 have h1:(1:Int) > 0:=by omega
 simp only[h1,if_true,Int.ediv_one]
 split<;>omega
theorem cX{v:Value}{o:Option Int}{Q:Option Int→Shared→Prop}(p:IsPart v o)(h:Q o s):wpAny (model prog w) A (Builtin.Slice.slicePartIndex v) Q E s:=by
 cases p with
 | none=>exact slicePart_none h
 | int i t=>exact slicePart_int h
theorem aV{sl:Addr}{vl vu:Value}{lo hi:Option Int}{n:Nat}{Q:Int × Int × Nat→Shared→Prop}(hs:s.heap.IsSliceOf sl vl vu .none)(pl:IsPart vl lo)(pu:IsPart vu hi)
  (h:Q (((sIx n 0 lo:Nat):Int),1,sIx n n hi - sIx n 0 lo) s):wpAny (model prog w) A (Builtin.Slice.sliceApplied (.ref sl) (pure (n:Int))) Q E s:=by
 obtain⟨os,hos,hcs,hds⟩:=id hs
 unfold Builtin.Slice.sliceApplied Builtin.Slice.sliceFields
 refine Lw (Lw (wpAny_field hos hds (x:=vl) rfl (Lw (wpAny_field hos hds (x:=vu) rfl (Lw (wpAny_field hos hds (x:=.none) rfl (LA ?_)))))))
 refine Lw (slicePart_none ?_)
 show wpAny _ _ (if ((1:Int) == 0)=true then _ else _) _ _ s
 rw[if_neg (by decide)]
 refine Lw (cX pl (Lw (cX pu (Lw (LA ?_)))))
 show wpAny _ _ (match Builtin.Slice.sliceAdjust lo hi 1 (n:Int)with|(lo,hi)=>pure (lo,(1:Int),Builtin.Slice.slicePlaces lo hi 1)) _ _ s
 rw[oz lo hi n]
 show wpAny _ _ (pure (((sIx n 0 lo:Nat):Int),(1:Int),Builtin.Slice.slicePlaces ((sIx n 0 lo:Nat):Int) ((sIx n n hi:Nat):Int) 1)) _ _ s
 rw[nN]
 exact LA h
theorem vj(xs:Array Value)(i k:Nat):((Nl k).filterMap fun(m:Nat)=>xs[((i:Int)+(m:Int)*1).toNat]?).toArray=((xs.toList.drop i).take k).toArray:=by
 have e:(fun(m:Nat)=>xs[((i:Int)+(m:Int)*1).toNat]?)=fun m=>xs[i+m]?:=by
  funext m
  have:((i:Int)+(m:Int)*1).toNat=i+m:=by omega
  rw[this]
 rw[e]
 have:=pick_run xs i k
 rw[List.filterMap_map]at this
 have e2:((fun x=>xs[x]?) ∘ fun x=>i+x)=fun m=>xs[i+m]?:=rfl
 rw[e2]at this
 rw[this]
theorem aH{t sl:Addr}{items:Array Value}{vl vu:Value}{lo hi:Option Int}{Q:Value→Shared→Prop}(ht:IsTup s.heap t items)(hs:s.heap.IsSliceOf sl vl vu .none)(pl:IsPart vl lo)(pu:IsPart vu hi)
  (hw:¬ (sIx items.size 0 lo=0∧sIx items.size items.size hi=items.size))
  (h:Q (.ref s.heap.objs.size) { s with heap:=s.heap.push { cls:=.type "tuple",data:=.seq ((items.toList.drop (sIx items.size 0 lo)).take (sIx items.size items.size hi - sIx items.size 0 lo)).toArray } })
  (hsz:items.size≤sizeLine):wpAny (model prog w) A (getItem (.ref t) (.ref sl)) Q E s:=by
 have htake:sizeOk (.seq ((items.toList.drop (sIx items.size 0 lo)).take (sIx items.size items.size hi - sIx items.size 0 lo)).toArray):=by
  show((items.toList.drop (sIx items.size 0 lo)).take (sIx items.size items.size hi - sIx items.size 0 lo)).toArray.size≤sizeLine
  rw[LN,Ml,MI,Array.length_toList]
  omega
 have hj:sIx items.size items.size hi≤items.size:=Dp _ _ (LQ _) hi
 obtain⟨os,hos,hcs,hds⟩:=id hs
 have hTs:s.TypeIs (.ref sl) "slice" := ⟨os,hos,hcs⟩
 unfold getItem
 try with_reducible refine wpAny_holding ?_
 first|refine Lw (LA ?_)|skip
 refine Lw (wpAny_sequenceKey ht.typeIs (by decide) ?_)
 refine Lw (wpAny_callSpecial?_slot (name:=Str.ofString "__getitem__") ht.typeIs PyProof.Rows.slot_tuple_getitem
  (wpAny_call_entry PyProof.Rows.slot_tuple_getitem ht.typeIs entry_tuple_getitem ?_ (args_tuple_getitem _ _)))
 show wpAny _ _ (Builtin.Tuple.tupleItemsOf (.ref t) >>= _) _ _ s
 refine Lw (tupleItemsOf_ ht ?_)
 refine Lw (wpAny_typeOf hTs ?_)
 rw[if_pos (by decide)]
 refine Lw (aV hs pl pu ?_)
 have hno:¬ ((((sIx items.size 0 lo:Nat):Int) == 0 && (1:Int) == 1 && (sIx items.size items.size hi - sIx items.size 0 lo) == items.size)=true):=by
  intro q
  rw[MB,MB]at q
  have q1:((sIx items.size 0 lo:Nat):Int)=0:=eq_of_beq q.1.1
  have q2:sIx items.size items.size hi - sIx items.size 0 lo=items.size:=eq_of_beq q.2
  exact hw ⟨by omega,by omega⟩
 show wpAny _ _ (if (((sIx items.size 0 lo:Nat):Int) == 0 && (1:Int) == 1 && (sIx items.size items.size hi - sIx items.size 0 lo) == items.size)=true then _ else _) _ _ s
 rw[if_neg hno,vj]
 first
  | exact Lw (m:=Builtin.Tuple.tupleExact _) (wpAny_newObj_type (LA ⟨_,rfl,LA h⟩) htake)
  | exact Lw (m:=Builtin.Tuple.tupleExact _) (wpAny_newObj_type (Lw (LA (LA ⟨_,rfl,LA h⟩))) htake)
  | exact Lw (Lw (m:=Builtin.Tuple.tupleExact _) (wpAny_newObj_type (LA (LA ⟨_,rfl,LA h⟩)) htake))
  | exact Lw (Lw (m:=Builtin.Tuple.tupleExact _) (wpAny_newObj_type (LA ⟨_,rfl,LA h⟩) htake))
end
end HT
namespace L2
open PySem PySem.Spec PyProof.Rows
noncomputable abbrev TO:=St→Hp→(Option Int→Hp→Prop)→Prop
def PO(X:Cx)(e:Option Expr)(t:TO):Prop :=
 ∀(pins:List (Addr × Obj)) (s:Shared) (σ:St) (H:Hp) (Q:Option Int→Hp→Prop),Inv X pins σ H s→t σ H Q →
  wpAny (model X.prog X.w) X.A (evalPart e X.env) (fun u s'=>∃ o H',Inv X pins σ H' s'∧IsPart u o∧Q o H') X.xe s
def yR:TO:=fun _ H Q=>Q none H
def FJ(t:TE):TO:=fun σ H Q=>t σ H fun x H1=>∃ i,x = .int i∧Q (some i) H1
section
variable {X:Cx} {e:Expr} {te:TE} {lo hi:Option Expr} {tl th:TO} {pos p2:Pos}
theorem zI:PO X none yR:=by
 intro pins s σ H Q I h
 rw[evalPart_none]
 exact LA ⟨none,H,I,.none,h⟩
theorem zH(h:PE X e te):PO X (some e) (FJ te):=by
 intro pins s σ H Q I hw
 rw[evalPart_some]
 refine thn (h pins s σ H _ I hw) fun u s1 zz=>?_
 obtain⟨x,H1,I1,r1,q1⟩:=zz
 obtain⟨i,rfl,q⟩:=q1
 obtain⟨t,rfl⟩:=r1
 exact⟨some i,H1,I1,.int i t,q⟩
def SlR(X:Cx)(r:V→Option Int→Option Int→Hp→VK→Prop):Prop :=
 ∀(pins:List (Addr × Obj)) (s:Shared) (σ:St) (H:Hp) (x:V) (v vl vu:Value) (lo hi:Option Int) (sl:Addr) (Q:VK),Inv X pins σ H s→o7 x v→s.heap.IsSliceOf sl vl vu .none→IsPart vl lo→IsPart vu hi→r x lo hi H Q →
  ∃ T id,typeLookup (.type T) "__getitem__" = pure (some (.builtin id))∧s.TypeIs v T∧wpAny (model X.prog X.w) X.A (getItem v (.ref sl)) (EP X pins σ Q) X.xe s
theorem SlR.or{r r':V→Option Int→Option Int→Hp→VK→Prop}(h:SlR X r)(h':SlR X r'):SlR X (fun x lo hi H Q=>r x lo hi H Q∨r' x lo hi H Q):=by
 intro pins s σ H x v vl vu lo hi sl Q I rx hs pl pu q
 rcases q with q|q
 ·exact h pins s σ H x v vl vu lo hi sl Q I rx hs pl pu q
 ·exact h' pins s σ H x v vl vu lo hi sl Q I rx hs pl pu q
def tSl(r:V→Option Int→Option Int→Hp→VK→Prop)(te:TE)(tl th:TO):TE:=fun σ H Q=>te σ H fun x H1=>tl σ H1 fun l H2=>th σ H2 fun u H3=>r x l u H3 Q
theorem lF{r:V→Option Int→Option Int→Hp→VK→Prop}(hr:SlR X r)(he:PE X e te)(hl:PO X lo tl)(hu:PO X hi th):PE X (.Subscript e (.Slice lo hi none p2) pos) (tSl r te tl th):=by
 intro pins s σ H Q I h
 refine Subscript_ (thn (he pins s σ H _ I h) fun v s1 zz=>?_)
 obtain⟨x,H1,I1,r1,q1⟩:=zz
 refine wpAny_Slice (thn (hl pins s1 σ H1 _ I1 q1) fun vl s2 ⟨l,H2,I2,pl,q2⟩=>thn (hu pins s2 σ H2 _ I2 q2) fun vu s3 zz=>?_)
 obtain⟨u,H3,I3,pu,q3⟩:=zz
 rw[evalPart_none]
 refine LA ?_
 have I4:Inv X pins σ H3 { s3 with heap:=s3.heap.push { cls:=.type "slice",data:=.fields #[vl,vu,.none] } }:=I3.kept (t':=s3.toks) fun b ob q=>Lx _ q
 obtain⟨T,id,hT,ht,hg⟩:=hr pins { s3 with heap:=s3.heap.push { cls:=.type "slice",data:=.fields #[vl,vu,.none] } } σ H3 x v vl vu l u s3.heap.objs.size Q I4 r1 (Heap.IsSliceOf.new ..) pl pu q3
 show wpAny (model X.prog X.w) X.A (subscriptTail e (.Slice lo hi none p2) v (.ref s3.heap.objs.size)) (EP X pins σ Q) X.xe { s3 with heap:=s3.heap.push { cls:=.type "slice",data:=.fields #[vl,vu,.none] } }
 exact tail_any (ops:=[.ref s3.heap.objs.size,v]) ht hT hg (by with_unfolding_all rfl)
noncomputable def mr(xs:List V)(lo hi:Option Int):List V:=(xs.drop (HT.sIx xs.length 0 lo)).take (HT.sIx xs.length xs.length hi - HT.sIx xs.length 0 lo)
theorem bM(xs:List V)(lo hi:Option Int):(mr xs lo hi).length≤xs.length:=by
 unfold mr
 rw[Ml,MI]
 omega
noncomputable def HS(K:Ly):V→Option Int→Option Int→Hp→VK→Prop:=fun x lo hi H Q=>∃ a xs,x = .ref a∧SqT K H a xs ∧
 ¬ (HT.sIx xs.length 0 lo=0∧HT.sIx xs.length xs.length hi=xs.length)∧∀ p,H p=none→Q (.ref p) (upd H p (.tup (mr xs lo hi)))
theorem Dg:SlR X (HS X.K):=by
 intro pins s σ H x v vl vu lo hi sl Q I rx hs pl pu h
 obtain⟨a,xs,rfl,hx,hw,q⟩:=h
 cases rx
 obtain⟨its,r,ht,hz⟩:=I.tuple hx
 have hlen:its.toArray.size=xs.length:=by rw[LN];exact r.length.symm
 refine⟨"tuple",_,PyProof.Rows.slot_tuple_getitem.lookup,ht.typeIs,?_⟩
 refine HT.aH ht hs pl pu (by rw[hlen];exact hw) ?_ (by rw[hlen];exact hz)
 rw[hlen]
 refine⟨.ref s.heap.objs.size,_,I.laid (t':=s.toks) (o:=.tup (mr xs lo hi)) (fun b ob q=>Lx _ q) (LQ _) ?_,rfl,q _ (I.hok.fresh (LQ _))⟩
 exact⟨LL (bM xs lo hi) hz,_,(r.drop (HT.sIx xs.length 0 lo)).take (HT.sIx xs.length xs.length hi - HT.sIx xs.length 0 lo),IsTup.new _ _⟩
def Gb(K:Ly):R2:=fun x y H Q=>∃ a b xs ys,x = .ref a∧y = .ref b∧SqT K H a xs∧SqT K H b ys∧xs≠[]∧xs.length+ys.length≤sizeLine ∧
 (ys=[]→Q (.ref a) H)∧(ys≠[]→∀ p,H p=none→Q (.ref p) (upd H p (.tup (xs++ys))))
theorem h8.nil_iff{xs:List V}{us:List Value}(r:h8 xs us):us=[]↔xs=[]:=by
 cases r with
 | nil=>simp
 | cons _ _=>simp
theorem zW:OpR X (binaryOp .Add) (Gb X.K):=by
 intro pins s σ H x y v u Q I rx ry h
 obtain⟨a,b,xs,ys,rfl,rfl,ha,hb,hx,hz,q1,q2⟩:=h
 cases rx
 cases ry
 obtain⟨its,r1,p1,_⟩:=I.tuple ha
 obtain⟨its2,r2,p2,_⟩:=I.tuple hb
 refine HT.AM p1 p2 (fun z=>hx (r1.nil_iff.mp z)) (fun z=>⟨.ref a,H,I,rfl,q1 (r2.nil_iff.mp z)⟩) (fun z=>?_) (by rw[← r1.length,← r2.length];exact hz)
 refine⟨.ref s.heap.objs.size,_,I.laid (t':=s.toks) (o:=.tup (xs++ys)) (fun b ob q=>Lx _ q) (LQ _) ?_,rfl,q2 (fun w=>z (r2.nil_iff.mpr w)) _ (I.hok.fresh (LQ _))⟩
 exact⟨by rw[Mi];exact hz,_,r1.append r2,IsTup.new _ _⟩
end
noncomputable def ixN(n:Nat)(i:Int):Option Nat:=if 0≤i then(if i<n then some i.toNat else none)else if -(n:Int)≤i then some (i+n).toNat else none
noncomputable def atI{α:Type}(xs:List α)(i:Int):Option α:=(ixN xs.length i).bind fun j=>xs[j]?
theorem qp{n:Nat}{i:Int}{j:Nat}(h:ixN n i=some j):seqIndex? i n=some j∧j<n∧-(n:Int)≤i∧i<n:=by
 unfold ixN at h
 by_cases h0:0≤i
 ·rw[if_pos h0]at h
  by_cases h1:i<n
  ·rw[if_pos h1]at h
   have e:i.toNat=j:=Option.some.inj h
   exact⟨by rw[seqIndex_of h0 h1,e],by omega,by omega,h1⟩
  ·rw[if_neg h1]at h;cases h
 ·rw[if_neg h0]at h
  by_cases h1:-(n:Int)≤i
  ·rw[if_pos h1]at h
   have e:(i+n).toNat=j:=Option.some.inj h
   exact⟨by rw[seqIndex_neg (by omega) h1,e],by omega,h1,by omega⟩
  ·rw[if_neg h1]at h;cases h
theorem qK{α:Type}{xs:List α}{i:Int}{v:α}(h:atI xs i=some v):∃ j,seqIndex? i xs.length=some j∧xs[j]? = some v∧j<xs.length∧-(xs.length:Int)≤i∧i<xs.length:=by
 unfold atI at h
 cases e:ixN xs.length i with
 | none=>rw[e]at h;cases h
 | some j =>
  rw[e]at h
  obtain⟨h1,h2,h3,h4⟩:=qp e
  exact⟨j,h1,h,h2,h3,h4⟩
theorem jL{α:Type}{xs:List α}{j:Nat}{v:α}(h:xs[j]? = some v):atI xs (j:Int)=some v:=by
 have hj:j<xs.length:=(LP.mp h).1
 have e:ixN xs.length (j:Int)=some j:=by
  unfold ixN
  rw[if_pos (by omega),if_pos (by omega)];simp
 unfold atI;rw[e];exact h
def jN(b:Expr):Prop:=∀ o i,subscripted b false o i=operate [o,i] (getItem o i)
def IxR(X:Cx)(r:R2):Prop :=
 ∀(value slice:Expr) (pins:List (Addr × Obj)) (s:Shared) (σ:St) (H:Hp) (x y:V) (v u:Value) (Q:VK),Inv X pins σ H s→o7 x v→o7 y u→r x y H Q →
  subscripted slice false v u=operate [v,u] (getItem v u)→wpAny (model X.prog X.w) X.A (subscriptTail value slice v u) (EP X pins σ Q) X.xe s
def MtR(X:Cx)(id:String)(r:V→List V→Hp→VK→Prop):Prop :=
 ∀(pins:List (Addr × Obj)) (s:Shared) (σ:St) (H:Hp) (x:V) (xs:List V) (v:Value) (us:List Value) (Q:VK),Inv X pins σ H s→o7 x v→h8 xs us→r x xs H Q →
  wpAny (model X.prog X.w) X.A (call (.builtin id) (v :: us)) (EP X pins σ Q) X.xe s
section
variable {X:Cx} {a b:Expr} {ta tb:TE} {pos:Pos}
theorem IxR.or{r r':R2}(h:IxR X r)(h':IxR X r'):IxR X (fun x y H Q=>r x y H Q∨r' x y H Q):=by
 intro value slice pins s σ H x y v u Q I rx ry q hs
 rcases q with q|q
 ·exact h value slice pins s σ H x y v u Q I rx ry q hs
 ·exact h' value slice pins s σ H x y v u Q I rx ry q hs
theorem MtR.or{id:String}{r r':V→List V→Hp→VK→Prop}(h:MtR X id r)(h':MtR X id r'):MtR X id (fun x xs H Q=>r x xs H Q∨r' x xs H Q):=by
 intro pins s σ H x xs v us Q I rx rs q
 rcases q with q|q
 ·exact h pins s σ H x xs v us Q I rx rs q
 ·exact h' pins s σ H x xs v us Q I rx rs q
theorem Gg{r:R2}(hr:IxR X r)(ha:PE X a ta)(hb:PE X b tb)(hs:jN b):PE X (.Subscript a b pos) (tOp r ta tb):=by
 intro pins s σ H Q I h
 exact Subscript_ (EI ha hb I h fun v u s2 x y H2 I2 rx ry q=>hr a b pins s2 σ H2 x y v u Q I2 rx ry q (hs _ _))
def HW(K:Ly):R2:=fun x y H Q=>∃ p xs i v,x = .ref p∧y = .int i∧SqL K H p xs∧atI xs i=some v∧Q v H
def HV(K:Ly):R2:=fun x y H Q=>∃ p xs i v,x = .ref p∧y = .int i∧SqT K H p xs∧atI xs i=some v∧Q v H
theorem Az:IxR X (HW X.K):=by
 intro value slice pins s σ H x y v u Q I rx ry h hs
 obtain⟨p,xs,i,z,rfl,rfl,hq,he,q⟩:=h
 cases rx
 obtain⟨t,rfl⟩:=ry
 obtain⟨its,r,pl,hz⟩:=I.list hq
 obtain⟨j,h1,h2,h3,h4,h5⟩:=qK he
 obtain⟨w,ew,rw'⟩:=r.get h2
 have hl:=r.length
 have hn:=jq
 have fin:EP X pins σ Q w s:=⟨z,H,I,rw',q⟩
 by_cases h0:0≤i
 ·have hj:i.toNat=j:=by
   rw[seqIndex_of h0 h5]at h1
   exact Option.some.inj h1
  exact item_listR pl.isList h0 (by omega) (by rw[hj];simpa using ew) fin hs
 ·have hj:(i+(its.toArray.size:Int)).toNat=j:=by
   rw[seqIndex_neg (by omega) h4]at h1
   rw[LN,← hl]
   exact Option.some.inj h1
  exact subscriptTail_builtinR (x:=w) pl.isList.typeIs slot_list_getitem.lookup
   (wpAny_getItem_list_neg (Q:=fun r s'=>r=w∧EP X pins σ Q r s') pl.isList (by omega) (by rw[LN]<;>omega) (by omega) (by rw[hj];simpa using ew) ⟨rfl,fin⟩) hs
theorem El:IxR X (HV X.K):=by
 intro value slice pins s σ H x y v u Q I rx ry h hs
 obtain⟨p,xs,i,z,rfl,rfl,hq,he,q⟩:=h
 cases rx
 obtain⟨t,rfl⟩:=ry
 obtain⟨its,r,pl,hz⟩:=I.tuple hq
 obtain⟨j,h1,h2,h3,h4,h5⟩:=qK he
 obtain⟨w,ew,rw'⟩:=r.get h2
 have hl:=r.length
 have hn:=jq
 have fin:EP X pins σ Q w s:=⟨z,H,I,rw',q⟩
 exact subscriptTail_builtinR (x:=w) pl.typeIs slot_tuple_getitem.lookup
  (getItem_tuple (j:=j) (Q:=fun r s'=>r=w∧EP X pins σ Q r s') pl (by omega) (by omega) (by rw[LN,← hl];exact h1) (by simpa using ew) ⟨rfl,fin⟩) hs
theorem nV(its:List Value)(n j:Nat)(u:Value):Obj.mapSeq (·.setIfInBounds j u) { cls:=.type "list",data:=.seq its.toArray n } = { cls:=.type "list",data:=.seq (its.set j u).toArray n }:=by
 simp[Obj.mapSeq]
theorem Inv.lst{pins:List (Addr × Obj)}{σ:St}{H:Hp}{s:Shared}{p:Addr}{xs:List V}(I:Inv X pins σ H s)(h:H p=some (.lst xs)) :
  ∃(its:List Value) (n:Nat),h8 xs its∧s.heap.get? p=some { cls:=.type "list",data:=.seq its.toArray n }∧xs.length≤sizeLine:=by
 obtain⟨z,its,n,r,e⟩:=I.hok p _ h
 exact⟨its,n,r,e,z⟩
theorem Inv.lstUpd{pins:List (Addr × Obj)}{σ:St}{H:Hp}{s:Shared}{p:Addr}{xs ys:List V}{its its':List Value}{n n':Nat}{f:Obj→Obj}(I:Inv X pins σ H s)(h:H p=some (.lst xs))
  (ho:s.heap.get? p=some { cls:=.type "list",data:=.seq its.toArray n }) (hf:f { cls:=.type "list",data:=.seq its.toArray n } = { cls:=.type "list",data:=.seq its'.toArray n' }) (r:h8 ys its') (hz:ys.length≤sizeLine) (t:Nat) :
  Inv X pins σ (upd H p (.lst ys)) { s with heap:=s.heap.update p f,toks:=t }:=by
 have e:(s.heap.update p f).get? p=some { cls:=.type "list",data:=.seq its'.toArray n' }:=by
  rw[Mu f ho (by rw[hf]<;>rfl),hf]
 refine I.write (x:=p) (e:=p) (by rw[h];trivial) (.inl rfl) (fun b u hb q=>(MR _ _ (Ne.symm hb)).trans q) ⟨_,e⟩ ?_
 exact⟨hz,its',n',r,e⟩
noncomputable def Ga:V→V→V→Hp→(Hp→Prop)→Prop:=fun o i v H Q=>∃ p xs k j,o = .ref p∧i = .int k∧H p=some (.lst xs)∧ixN xs.length k=some j∧Q (upd H p (.lst (xs.set j v)))
theorem ux:Hz X Ga:=by
 intro pins s σ H o i v ov iv u Q I ro ri rv h
 obtain⟨p,xs,k,j,rfl,rfl,hp,hj,q⟩:=h
 cases ro
 obtain⟨t,rfl⟩:=ri
 obtain⟨its,n,r,ho,hz⟩:=I.lst hp
 obtain⟨h1,h2,h3,h4⟩:=qp hj
 have hl:=r.length
 have hn:=jq
 have I':Inv X pins σ (upd H p (.lst (xs.set j v))) { s with heap:=s.heap.update p (Obj.mapSeq (·.setIfInBounds j u)) } :=
  I.lstUpd hp ho (nV its n j u) (r.set rv j) (by rw[OI];exact hz) s.toks
 by_cases h0:0≤k
 ·have hk:k.toNat=j:=by
   rw[seqIndex_of h0 h4]at h1
   exact Option.some.inj h1
  exact PySem.W.ki_setAt ho h0 (by omega) (by rw[LN,← hl];exact h4) (by rw[hk];exact⟨_,I',q⟩)
 ·have hk:(k+(its.toArray.size:Int)).toNat=j:=by
   rw[seqIndex_neg (by omega) h3]at h1
   rw[LN,← hl]
   exact Option.some.inj h1
  exact PySem.W.ki_setBack ho (by omega) (by rw[LN,← hl];exact h3) (by omega) (by rw[hk];exact⟨_,I',q⟩)
theorem gR(lo hi:Option Int)(n:Nat):(sliceBounds lo hi none n).1=((HT.sIx n 0 lo:Nat):Int)∧(sliceBounds lo hi none n).2.1=((HT.sIx n n hi:Nat):Int)∧(sliceBounds lo hi none n).2.2=1:=by
 refine⟨?_,?_,rfl⟩
 ·cases lo with
  | none=>simp[sliceBounds,HT.sIx]
  | some i =>
   simp only[sliceBounds,HT.sIx,Py,show(1:Int) > 0 by decide,if_true]
   by_cases h:i<0
   ·simp only[h,if_true]<;>omega
   ·simp only[h,if_false]<;>omega
 ·cases hi with
  | none=>simp[sliceBounds,HT.sIx]
  | some i =>
   simp only[sliceBounds,HT.sIx,Py,show(1:Int) > 0 by decide,if_true]
   by_cases h:i<0
   ·simp only[h,if_true]<;>omega
   ·simp only[h,if_false]<;>omega
theorem dU(its:List Value)(lo hi:Option Int):slicePick its.toArray lo hi none=((its.drop (HT.sIx its.length 0 lo)).take (HT.sIx its.length its.length hi - HT.sIx its.length 0 lo)).toArray:=by
 obtain⟨h1,h2,h3⟩:=gR lo hi its.toArray.size
 unfold slicePick
 rw[h1,h2,h3]
 simp only[sliceRange_one,pick_run,LN]<;>rfl
noncomputable def HU(K:Ly):V→Option Int→Option Int→Hp→VK→Prop:=fun x lo hi H Q=>∃ a xs,x = .ref a∧SqL K H a xs∧∀ p,H p=none→Q (.ref p) (upd H p (.lst (mr xs lo hi)))
theorem pY:SlR X (HU X.K):=by
 intro pins s σ H x v vl vu lo hi sl Q I rx hs pl pu h
 obtain⟨a,xs,rfl,hx,q⟩:=h
 cases rx
 obtain⟨its,r,ht,hz⟩:=I.list hx
 have hlen:=r.length
 refine⟨"list",_,slot_list_getitem.lookup,ht.isList.typeIs,?_⟩
 refine wpAny_getItem_list_slice ht.isList hs pl pu .none (by simp) ?_ (by rw[LN]<;>omega)
 rw[dU,← hlen]
 refine⟨.ref s.heap.objs.size,_,I.laid (t':=s.toks) (o:=.lst (mr xs lo hi)) (fun b ob q=>Lx _ q) (LQ _) ?_,rfl,q _ (I.hok.fresh (LQ _))⟩
 exact⟨LL (bM xs lo hi) hz,_,0,(r.drop (HT.sIx xs.length 0 lo)).take (HT.sIx xs.length xs.length hi - HT.sIx xs.length 0 lo),LC _ rfl⟩
theorem jJ:t6 X (.builtin "len") (fun xs H Q=>∃ p ys,xs=[.ref p]∧(SqL X.K H p ys∨SqT X.K H p ys)∧Q (.int ys.length) H):=by
 intro pins s σ H xs us Q I r h
 obtain⟨p,ys,rfl,hq,q⟩:=h
 obtain⟨u,rfl,rx⟩:=fV r
 cases rx
 have hn:=jq
 rcases hq with hq|hq
 ·obtain⟨its,r',pl,hz⟩:=I.list hq
  have hlen:=r'.length
  exact Calls.call_len_list pl.isList (by simp only[LN]<;>omega) ⟨.int ys.length,H,I.tok _,⟨s.toks+1,by rw[LN,hlen]⟩,q⟩
 ·obtain⟨its,r',pl,hz⟩:=I.tuple hq
  have hlen:=r'.length
  exact len_tuple pl (by simp only[LN]<;>omega) ⟨.int ys.length,H,I.tok _,⟨s.toks+1,by rw[LN,hlen]⟩,q⟩
theorem t6.or{f:Value}{r r':List V→Hp→VK→Prop}(h:t6 X f r)(h':t6 X f r'):t6 X f (fun xs H Q=>r xs H Q∨r' xs H Q):=by
 intro pins s σ H xs us Q I rs q
 rcases q with q|q
 ·exact h pins s σ H xs us Q I rs q
 ·exact h' pins s σ H xs us Q I rs q
theorem aN:t6 X (.type "list") (fun xs H Q=>∃ p ys,xs=[.ref p]∧(SqL X.K H p ys∨SqT X.K H p ys)∧∀ l,H l=none→Q (.ref l) (upd H l (.lst ys))):=by
 intro pins s σ H xs us Q I r h
 obtain⟨p,ys,rfl,hq,q⟩:=h
 obtain⟨u,rfl,rx⟩:=fV r
 cases rx
 have fin:∀(its:List Value),h8 ys its→ys.length≤sizeLine→∀(h':Heap) (c':Nat),(∀ b o',s.heap.get? b=some o'→h'.get? b=some o') →
   h'.get? s.heap.objs.size=some { cls:=.type "list",dict:=none,data:=.seq its.toArray c',slots:=#[] }→EP X pins σ Q (.ref s.heap.objs.size) { s with heap:=h' }:=fun its r' hz h' c' kp e =>
  ⟨.ref s.heap.objs.size,_,I.laid (t':=s.toks) kp (LQ _) (show A0 X.prog X.w _ h' _ (.lst ys)from⟨hz,its,c',r',e⟩),rfl,q _ (I.hok.fresh (LQ _))⟩
 rcases hq with hq|hq
 ·obtain⟨its,r',pl,hz⟩:=I.list hq
  have hlen:=r'.length
  obtain⟨o,ho,hc,n,hd⟩:=pl.isList
  exact call_list_seq p (.inl rfl) ho hc hd (fun h' c' kp e=>fin its r' hz h' c' kp e) (by simp only[LN]<;>omega)
 ·obtain⟨its,r',pl,hz⟩:=I.tuple hq
  have hlen:=r'.length
  obtain⟨o,ho,hc,n,hd⟩:=pl
  exact call_list_seq p (.inr rfl) ho hc hd (fun h' c' kp e=>fin its r' hz h' c' kp e) (by simp only[LN]<;>omega)
theorem eY:t6 X (.type "tuple") (fun xs H Q=>∃ p ys,xs=[.ref p]∧((SqL X.K H p ys∧∀ l,H l=none→Q (.ref l) (upd H l (.tup ys)))∨(SqT X.K H p ys∧Q (.ref p) H))):=by
 intro pins s σ H xs us Q I r h
 obtain⟨p,ys,rfl,h⟩:=h
 obtain⟨u,rfl,rx⟩:=fV r
 cases rx
 rcases h with⟨hq,q⟩|⟨hq,q⟩
 ·obtain⟨its,r',pl,hz⟩:=I.list hq
  have hlen:=r'.length
  refine call_tuple_list pl.isList (fun h' kp=>?_) (by simp only[LN]<;>omega)
  have I1:Inv X pins σ H { s with heap:=h' }:=I.kept (t':=s.toks) kp
  have I2:Inv X pins σ (upd H h'.objs.size (.tup ys)) { s with heap:=h'.push { cls:=.type "tuple",data:=.seq its.toArray } } :=
   I1.laid (t':=s.toks) (fun b o e=>Lx _ e) (LQ _) (show A0 X.prog X.w _ _ _ (.tup ys)from⟨hz,its,r',IsTup.new _ _⟩)
  exact⟨.ref h'.objs.size,_,I2,rfl,q _ (I1.hok.fresh (LQ _))⟩
 ·obtain⟨its,r',pl,hz⟩:=I.tuple hq
  exact call_tuple_same pl ⟨.ref p,H,I,rfl,q⟩
def tyV(K:Ly)(T:String)(x:V)(H:Hp):Prop:=match x with
 | .str _=>T = "str"
 | .int _=>T = "int"
 | .ref p=>(T = "list" ∧ ∃ xs,SqL K H p xs)∨(T = "tuple" ∧ ∃ o,K.lookup p=some o∧o.cls = .type "tuple" ∧ o.dict=none) ∨
   (T = "dict" ∧ ((∃ kvs,H p=some (.dK kvs)) ∨ ∃ kvs,H p=some (.dT kvs)))∨(T = "set" ∧ ∃ S n,H p=some (.set S n))
 | _=>False
theorem ua{pins:List (Addr × Obj)}{σ:St}{H:Hp}{s:Shared}{T:String}{x:V}{v:Value}(I:Inv X pins σ H s)(r:o7 x v)(ty:tyV X.K T x H) :
  s.TypeIs v T∧∀ a,v = .ref a→∃ ob,s.heap.get? a=some ob∧ob.dict=none:=by
 cases x with
 | str z =>
  obtain⟨t,rfl⟩:=r
  cases(show T = "str" from ty)
  exact⟨typeIs_str s z t,fun _ e=>nomatch e⟩
 | int i =>
  obtain⟨t,rfl⟩:=r
  cases(show T = "int" from ty)
  exact⟨typeIs_int s i t,fun _ e=>nomatch e⟩
 | ref p =>
  cases r
  rcases ty with⟨rfl,xs,hq⟩|⟨rfl,o,hk,hc,hd⟩|⟨rfl,hk⟩|⟨rfl,S,n,hk⟩
  ·obtain⟨its,_,pl,_⟩:=I.list hq
   refine⟨pl.isList.typeIs,fun a e=>?_⟩
   cases e
   obtain⟨o,n,e,c,hd,_⟩:=pl
   exact⟨o,e,hd⟩
  ·refine⟨⟨o,I.kIn p o hk,hc⟩,fun a e=>?_⟩
   cases e
   exact⟨o,I.kIn _ o hk,hd⟩
  ·have z:∃ o,s.heap.get? p=some o∧o.ExactDict:=by
    rcases hk with⟨kvs,hk⟩|⟨kvs,hk⟩
    ·obtain⟨_,_,_,_,o,_,_,e,ex,_⟩:=I.hok p _ hk
     exact⟨o,e,ex⟩
    ·obtain⟨_,_,_,_,o,_,_,e,ex,_⟩:=I.hok p _ hk
     exact⟨o,e,ex⟩
   obtain⟨o,e,ex⟩:=z
   refine⟨⟨o,e,ex.1⟩,fun a e2=>?_⟩
   cases e2
   exact⟨o,e,ex.2.1⟩
  ·obtain⟨o,_,_,_,e,ex,_⟩:=I.hok p _ hk
   refine⟨⟨o,e,ex.1⟩,fun a e2=>?_⟩
   cases e2
   exact⟨o,e,ex.2.1⟩
 | _=>exact False.elim ty
def HQ(K:Ly)(T:String)(r:V→List V→Hp→VK→Prop)(to:TE):TE:=fun σ H Q=>to σ H fun x H1=>tyV K T x H1∧r x [] H1 Q
def tBM(K:Ly)(T:String)(r:V→List V→Hp→VK→Prop)(to:TE)(t:TA):TE:=fun σ H Q=>to σ H fun x H1=>tyV K T x H1∧t σ H1 fun xs H2=>r x xs H2 Q
variable {o e:Expr} {es:List Expr} {to:TE} {t:TA} {name:Str} {apos cpos:Pos} {T id:String} {r:V→List V→Hp→VK→Prop}
theorem vy(pa:PlainAttrs T)(slot:Slot T name id)(hty:typeOf (.builtin id)=pure (.type "method_descriptor"))(hm:MtR X id r)(ho:PE X o to)
  (hbase:attributeBase o name X.env (eval o X.env)=eval o X.env:=by rfl) (hline:(apos.endLine == cpos.line)=true:=by rfl):PE X (.Call (.Attribute o name apos) [] [] cpos) (HQ X.K T r to):=by
 intro pins s σ H Q I h
 refine wpAny_Call_method0_late hbase hline (thn (ho pins s σ H _ I h) fun v s1 zz=>?_)
 obtain⟨x,H1,I1,r1,ty,q1⟩:=zz
 obtain⟨h1,h2⟩:=ua I1 r1 ty
 exact⟨T,id,pa,slot,hty,h1,h2,Calls.callWith_builtin rfl (PySem.evalArgs_none (hm pins s1 σ H1 x [] v [] Q I1 r1 .nil q1))⟩
theorem Gh(pa:PlainAttrs T)(slot:Slot T name id)(hty:typeOf (.builtin id)=pure (.type "method_descriptor"))(hm:MtR X id r)(ho:PE X o to)(ha:PA X (e :: es) t)
  (hbase:attributeBase o name X.env (eval o X.env)=eval o X.env:=by rfl)
  (hfew:((backTo cpos (starEach (e :: es) X.env)).all (fun x=>!x.1) && (backToKw cpos (keywordEach [] X.env)).all (fun x=>x.1.isSome)
   && decide ((e :: es).length+([]:List Keyword).length+(if ([]:List Keyword).isEmpty then 0 else 1)<30))=true:=by rfl)
  (hline:(apos.endLine == cpos.line)=true:=by rfl) (hs:starEach (e :: es) X.env=(false,eval e X.env) :: starEach es X.env:=by rfl) (hplain:(backTo cpos (starEach es X.env)).any (·.1)=false:=by rfl) :
  PE X (.Call (.Attribute o name apos) (e :: es) [] cpos) (tBM X.K T r to t):=by
 intro pins s σ H Q I h
 refine wpAny_Call_method_late hbase hfew hline rfl (thn (ho pins s σ H _ I h) fun v s1 zz=>?_)
 obtain⟨x,H1,I1,r1,ty,q1⟩:=zz
 obtain⟨h1,h2⟩:=ua I1 r1 ty
 refine⟨T,id,pa,slot,hty,h1,h2,?_⟩
 have hA:=ha cpos pins s1 σ H1 _ I1 q1
 rw[hs]at hA ⊢
 refine Calls.callWith_builtin (by show(false || (backTo cpos (starEach es X.env)).any (·.1))=false;rw[hplain]<;>rfl) (Calls.evalArgs_plain ?_)
 exact thn hA fun us s2 ⟨vs,H2,I2,r2,q2⟩=>hm pins s2 σ H2 x vs v us Q I2 r1 r2 q2
end
def MtM(X:Cx)(id:String)(r:V→List V→Hp→VK→Prop):Prop :=
 ∀(pins:List (Addr × Obj)) (s:Shared) (σ:St) (H:Hp) (x:V) (xs:List V) (v:Value) (us:List Value) (Q:VK),Inv X pins σ H s→o7 x v→h8 xs us→r x xs H Q →
  wpAny (model X.prog X.w) X.A (call (.builtin id) (v :: us)) (EP X pins σ Q) X.xe s
theorem h8.one{x:V}{us:List Value}(h:h8 [x] us):∃ u,us=[u]∧o7 x u:=by
 cases h with|cons r t=>cases t;exact⟨_,rfl,r⟩
theorem h8.two{x y:V}{us:List Value}(h:h8 [x,y] us):∃ u v,us=[u,v]∧o7 x u∧o7 y v:=by
 cases h with|cons r t=>cases t with|cons q t2=>cases t2;exact⟨_,_,rfl,r,q⟩
theorem h8.zero:∀{us:List Value},h8 [] us→us=[]
 | _,.nil=>rfl
theorem h8.eraseIdx:∀{xs:List V} {us:List Value} (i:Nat),h8 xs us→h8 (xs.eraseIdx i) (us.eraseIdx i)
 | _,_,_,.nil=>.nil
 | _,_,0,.cons _ t=>t
 | _,_,i+1,.cons r t=>.cons r (h8.eraseIdx i t)
theorem h8.reverse{xs:List V}{us:List Value}(h:h8 xs us):h8 xs.reverse us.reverse:=by
 induction h with
 | nil=>exact .nil
 | cons r t ih=>rw[NA,NA];exact h8.append ih (.cons r .nil)
section
variable {X:Cx} {pins:List (Addr × Obj)} {σ:St} {H:Hp} {s:Shared} {l b:Addr} {xs ys zs:List V}
theorem Inv.lset{its its':List Value}{n:Nat}{f:Array Value→Array Value}{t':Nat}(I:Inv X pins σ H s)(hH:H l=some (.lst xs))
  (e:s.heap.get? l=some { cls:=.type "list",data:=.seq its.toArray n }) (hf:f its.toArray=its'.toArray) (hv:h8 ys its') (hz:ys.length≤sizeLine) :
  Inv X pins σ (upd H l (.lst ys)) { s with heap:=s.heap.update l (Obj.mapSeq f),toks:=t' }:=by
 have q:=PySem.IsL.update e f
 rw[hf]at q
 refine I.write (x:=l) (e:=l) (by rw[hH];exact trivial) (.inl rfl) (fun b' u hb hu=>(MR s.heap (Obj.mapSeq f) (Ne.symm hb)).trans hu) ⟨_,q⟩ ?_
 exact⟨hz,its',_,hv,q⟩
theorem Inv.lnew{its:List Value}{t':Nat}(I:Inv X pins σ H s)(hv:h8 ys its)(hz:ys.length≤sizeLine) :
  Inv X pins σ (upd H s.heap.objs.size (.lst ys)) { s with heap:=s.heap.push { cls:=.type "list",data:=.seq its.toArray },toks:=t' } :=
 I.laid (fun _ _ q=>Lx _ q) (LQ _) ⟨hz,its,0,hv,LC _ rfl⟩
theorem Inv.fresh(I:Inv X pins σ H s):H s.heap.objs.size=none:=I.hok.fresh (LQ _)
theorem Inv.lstM(I:Inv X pins σ H s)(hH:H l=some (.lst xs)):xs.length≤sizeLine∧∃(its:List Value) (n:Nat),h8 xs its∧xs.length=its.length∧s.heap.get? l=some { cls:=.type "list",data:=.seq its.toArray n }:=by
 obtain⟨z,its,n,r,e⟩:=I.hok l _ hH
 exact⟨z,its,n,r,r.length,e⟩
end
section
variable {X:Cx}
noncomputable def qg:V→List V→Hp→VK→Prop:=fun x vs H Q=>∃ l xs y,x = .ref l∧vs=[y]∧H l=some (.lst xs)∧xs.length<sizeLine∧Q .non (upd H l (.lst (xs++[y])))
theorem gq:MtM X "list.append" qg:=by
 intro pins s σ H x vs v us Q I rx rv h
 obtain⟨l,xs,y,rfl,rfl,hH,hz,q⟩:=h
 cases rx
 obtain⟨u,rfl,ru⟩:=rv.one
 obtain⟨z,its,n,r,hl,e⟩:=I.lstM hH
 refine call_meets F.slot_list_append ⟨_,e,rfl⟩ F.entry_list_append (F.args_list_append_2 _ _) (PySem.list_append l its.toArray n u (by rw[LN];omega)) ⟨e,?_⟩
 refine⟨.non,_,I.lset (its':=its++[u]) hH e (by simp) (r.append (.cons ru .nil)) ?_,rfl,q⟩
 rw[Mi,List.length_singleton]
 omega
noncomputable def lD:V→List V→Hp→VK→Prop:=fun x vs H Q=>∃ l xs,x = .ref l∧vs=[]∧H l=some (.lst xs)∧Q .non (upd H l (.lst xs.reverse))
theorem nU:MtM X "list.reverse" lD:=by
 intro pins s σ H x vs v us Q I rx rv h
 obtain⟨l,xs,rfl,rfl,hH,q⟩:=h
 cases rx
 have hus:=rv.zero
 subst hus
 obtain⟨z,its,n,r,hl,e⟩:=I.lstM hH
 refine call_meets F.slot_list_reverse ⟨_,e,rfl⟩ F.entry_list_reverse (F.args_list_reverse_1 _) (AutoSeq1.list_reverse_list_0 l its.toArray n (by rw[LN];omega)) ⟨e,?_⟩
 refine⟨.non,_,I.lset (its':=its.reverse) hH e (by simp) r.reverse ?_,rfl,q⟩
 rw[OW]
 omega
end
section
variable {prog:Program} {w:World} {A:Around} {E:Value→Shared→Prop} {s:Shared}
end
section
variable {X:Cx}
end
end L2
namespace Att
open PySem PySem.W PySem.Calls PyProof.Rows
theorem bT{P:Params}{h:Heap}:∀(ns:List Int) (vs:List Value),WellAll P h vs (ns.map WData.int)→IntsAre vs ns:=by
 intro ns
 induction ns with
 | nil =>
  intro vs w
  rw[Nq]at w
  cases w
  exact .nil
 | cons n ns ih =>
  intro vs w
  rw[Mv]at w
  cases w with
  | cons a b =>
   cases a
   exact .cons _ _ (ih _ b)
theorem rf{l:OpenLaw}{n:Nat}(hn:l.most=some n){P:Params}{h:Heap}{args:List WData}{vals:List Value}
  (hpre:l.row.toRowW.claim.pre args=true) (hwl:WellAll P h vals args) :
  ∃ a vs ns,vals=[Value.ref a]∧args=[WData.list (ns.map WData.int)]∧h.get? a=some { cls:=.type "list",data:=.seq vs.toArray }∧IntsAre vs ns∧ns.length≤n:=by
 have hsh:WShape.hasAll [] args [.list .int]=true:=(pre_splitW hpre).1
 have hc:l.pre.holds [] { args:=args } = true:=(pre_splitW hpre).2
 obtain⟨d,r,rfl,h1,h2⟩:=hasAllW_cons hsh
 obtain rfl:=hasAllW_nil h2
 obtain⟨xs,rfl,h3⟩:=hasW_list h1
 obtain⟨ns,rfl⟩:=items_int h3
 have hlen:ns.length≤n:=by
  unfold OpenLaw.pre at hc
  have h4:(WTm.not (.lt (.lit (.int (n:Int))) (.len (.arg 0)))).holds [] { args:=[.list (ns.map .int)] } = true:=by
   have h4:=(holds_andW hc).1
   rw[hn]at h4
   exact h4
  have h5:=condW_of h4 (w_not (w_lt w_lit (w_len_list (w_arg rfl))))
  rw[LF]at h5
  refine Nat.le_of_not_lt fun q=>?_
  have q':(n:Int)<((ns.length:Nat):Int):=by omega
  first
   | (rw[decide_eq_true q']at h5;exact absurd h5 (by decide))
   | (simp at h5;omega)
 cases hwl with
 | cons w1 w2 =>
  cases w2
  cases w1 with
  | list ho hall=>exact⟨_,_,ns,rfl,rfl,ho,bT ns _ hall,hlen⟩
theorem rp(l:OpenLaw)(args:List WData):l.row.toRowW.claim.post args (.bool true) args=true :=
 postW_of (r:=l.row.toRowW) (X:=(true == true))
  (show WShape.has [] (.bool true) .bool=true by first|rfl|decide|simp[WShape.has,WShape.arms,WShape.armsAll])
  (show(WTm.eq .res (.lit (.bool true))).value [] { args:=args,res:=some (.bool true),after:=args } = some (.bool (true == true))from w_eq_bool (w_res rfl) w_lit) rfl
theorem mE{l:OpenLaw}{n:Nat}{q:Program}{loose:List Str}{XP:(Str→Option Value)→Heap→Prop}{YP:World→Heap→Prop}{d:DefRec}
  (hn:l.most=some n) (hdf:d.params.defaults=[])
  (call:∀(w:World) (s₀ s₁:Shared) (mg mb:Str→Option Value) (fa:Addr) (o:Obj) (pm cd doc:Value) (a:Addr) (vs:List Value) (ns:List Int),
   Ground q loose [] XP w s₀ mg mb s₁.heap→YP w s₁.heap →
   s₁.heap.get? fa=some o→o.data = .func (docDef d.name d.params d.body d.scope pm cd doc)→s₁.heap.CodeRec cd d.name→mg d.name=some (.ref fa) →
   s₁.heap.get? a=some { cls:=.type "list",data:=.seq vs.toArray }→IntsAre vs ns→ns.length≤n→s₁.gens = #[] →
   codeAny (model l.prog w) callerA (.call (.ref fa) ⟨[.ref a],[]⟩) (fun r s'=>r = .ok (.ret (.bool true))∧OldK s₁.heap s'.heap∧s'.os=s₁.os∧AllBare s'.gens) s₁) :
  WalkO q loose XP YP l.row.toRowW d [] (fun f vs=>PySem.call f vs):=by
 intro w s₀ s₁ mg mb G Y fa o pm cd doc dV kV ho hd hcd hD hmg hg args vals as hpre hlay hrd hwl hlo
 obtain rfl:dV = .none:=Dflts.none hD hdf
 obtain rfl:kV = .none:=Dflts.noKw hD
 obtain⟨a,vs,ns,rfl,rfl,hobj,hints,hlen⟩:=rf hn hpre hwl
 refine enter_call (codeAny_mono (call w s₀ s₁ mg mb fa o pm cd doc a vs ns G Y ho (fd_plain hd) hcd hmg hobj hints hlen hg) fun r s' hq=>?_)
 obtain⟨rfl,h2,h3,h4⟩:=hq
 exact⟨.inl ⟨.bool true,.bool true,[],rfl,fun _=>rfl,.bool true,rp l _,fun _=>⟨List.Pairwise.nil,fun _ hm=>(nomatch hm)⟩⟩,h2,h3,h4⟩
section
variable {prog:Program} {w:World} {A:Around} {E:Value→Shared→Prop} {s:Shared} {K:Frag}
end
end Att
namespace L2
open PySem PySem.Spec PyProof.Rows
theorem aU:∀{vs:List Value} {ns:List Int},IntsAre vs ns→h8 (ns.map V.int) vs
 | _,_,.nil=>.nil
 | _,_,.cons n t h=>.cons ⟨t,rfl⟩ (aU h)
def rY(H:Hp):Prop:=∀ b,H b=none ∨ ∃ o xs,H b=some (.frz o (.lst xs))
theorem vR{P:Program}{w:World}{K:Ly}{mg mb:Str→Option Value}{CX:CXT}{k:Nat}{fa a:Addr}{fd:FuncData}{x:Str}{sp:Sp}{s₁:Shared}{vs:List Value}{ns:List Int}
  (KX:K.In s₁.heap) (hns:s₁.heap.Ns mainGlobals mg) (hb:s₁.heap.Ns builtinsNs mb) (hbb:∀ x:Str,x ≠ "__name__" → mb x=bootBuiltins x) (hlim:s₁.heap.NoLimit) (hg:s₁.gens = #[])
  (ha:s₁.heap.get? a=some { cls:=.type "list",data:=.seq vs.toArray }) (hi:IntsAre vs ns) (hl:ns.length≤sizeLine) (hr:F5 k callerA)
  (F:∀ base:Heap,K.In base→base.Ns mainGlobals mg→Q8 P w K mg base CX k fa fd [x] sp) (hbind:∀(s:Shared) (u:Value),BindsTo s fd ⟨[u],[]⟩ [(x,u)])
  (hsp:∀ H:Hp,rY H→SqL K H a (ns.map V.int)→sp [.ref a] H (fun v _=>v = .bl true) fun _ _ _=>False)
  (hCX:∀ H e s',CX [] H s₁ (fun _ _ _=>False) e s'→False) :
  codeAny (model P w) callerA (.call (.ref fa) ⟨[.ref a],[]⟩) (fun r s'=>r = .ok (.ret (.bool true))∧OldK s₁.heap s'.heap∧s'.os=s₁.os∧AllBare s'.gens) s₁:=by
 have rv:=aU hi
 have lenV:=hi.length
 have core:∀ H:Hp,rY H→SqL K H a (ns.map V.int)→HOk P w H s₁.heap→(∀ b,H b≠none→b=a)→(H a≠none→K.lookup a=none) →
   codeAny (model P w) callerA (.call (.ref fa) ⟨[.ref a],[]⟩) (fun r s'=>r = .ok (.ret (.bool true))∧OldK s₁.heap s'.heap∧s'.os=s₁.os∧AllBare s'.gens) s₁:=by
  intro H hO hS hok hA hK
  have base_of:∀{b:Addr} {o:Obj},s₁.heap.get? b=some o→H b=none→(ju s₁.heap H).get? b=some o:=fun e n=>wg e n
  have noA:∀{b:Addr} {o:Obj} {es:Array DictEntry} {ep:Nat},s₁.heap.get? b=some o→o.data = .dict es ep→H b=none:=fun{b o es ep} e d=>by
   cases q:H b with
   | none=>rfl
   | some u =>
    have e':b=a:=hA b (by rw[q];simp)
    subst e'
    rw[ha]at e;cases e
    have d':Data.seq vs.toArray _=Data.dict es ep:=d
    cases d'
  have nsK:∀{b:Addr} {m:Str→Option Value},s₁.heap.Ns b m→(ju s₁.heap H).Ns b m:=fun{b m} ⟨o,es,ep,e,d,r⟩=>⟨o,es,ep,base_of e (noA e d),d,r⟩
  have hKb:K.In (ju s₁.heap H):=fun b o e=>base_of (KX b o e) (by
   cases q:H b with
   | none=>rfl
   | some u =>
    have e':b=a:=hA b (by rw[q];simp)
    subst e'
    rw[hK (by rw[q];simp)]at e;cases e)
  have hM:Mod K mg (ju s₁.heap H):=⟨hKb,nsK hns,⟨mb,nsK hb,hbb⟩,let ⟨mc,h1,h2⟩:=hlim;⟨mc,nsK h1,h2⟩⟩
  have e0:oI P w K mg (ju s₁.heap H) callerA [] s₁ H:=⟨rfl,hM,fun b o e=>Ag e,OH (rO _ _),trivial,fun b hb=>absurd (show b∈([]:List Addr)from hb) (by simp),hok,.of_eq hg⟩
  refine codeAny_mono ((F _ hKb (nsK hns)).run callerA [] s₁ H ⟨[.ref a],[]⟩ [.ref a] [.ref a] _ _ hr e0 (hbind s₁ (.ref a)) (.cons rfl .nil) (hsp H hO hS)) fun r s' h=>?_
  cases r with
  | error e=>exact(hCX H e s' h).elim
  | ok fl =>
   cases fl with
   | next=>exact False.elim h
   | brk=>exact False.elim h
   | cont=>exact False.elim h
   | ret u =>
    obtain⟨v,H',os,bare,un,hok',r',q⟩:=h
    have q':v = .bl true:=q
    subst q'
    obtain rfl:u=Value.bool true:=r'
    refine⟨rfl,OldK.of_keep fun b o e=>?_,os,bare⟩
    cases q:H b with
    | none=>exact un.keep b o e q (by intro z;exact absurd (show b∈([]:List Addr)from z) (by simp)) (by simp)
    | some u =>
     rcases hO b with z|⟨ob,xs,z⟩
     ·rw[q]at z;cases z
     ·have z2:=un.frzs b ob _ z
      obtain⟨e1,_⟩:=hok b _ z
      obtain⟨e2,_⟩:=hok' b _ z2
      rw[e]at e1;cases e1
      exact e2
 cases hk:K.lookup a with
 | some o =>
  have e:=KX a o hk
  rw[ha]at e
  cases e
  refine core (fun _=>none) (fun _=>.inl rfl) (.inr ⟨_,vs.toArray,_,hk,rfl,rfl,rfl,by rw[LN,lenV];exact hl,by simpa using rv⟩) (fun b u z=>by have z':(none:Option HO)=some u:=z;cases z') (fun b z=>absurd rfl z) fun z=>absurd rfl z
 | none =>
  refine core (fun b=>if b=a then some (.frz { cls:=.type "list",data:=.seq vs.toArray } (.lst (ns.map V.int)))else none) (fun b=>?_) (.inl (.inr ⟨{ cls:=.type "list",data:=.seq vs.toArray },if_pos rfl⟩)) (fun b u z=>?_) (fun b z=>?_) fun _=>hk
  ·by_cases hb:b=a
   ·exact .inr ⟨_,_,if_pos hb⟩
   ·exact .inl (if_neg hb)
  ·by_cases hb:b=a
   ·have z':=(if_pos hb).symm.trans z
    cases z'
    subst hb
    exact⟨ha,by rw[LF];exact hl,vs,_,rv,ha⟩
   ·have z':=(if_neg hb).symm.trans z
    cases z'
  ·by_cases hb:b=a
   ·exact hb
   ·exact absurd (if_neg hb) z
theorem yN{l:PySem.W.OpenLaw}{n k:Nat}{q:Program}{loose:List Str}{XP:(Str→Option Value)→Heap→Prop}{YP:World→Heap→Prop}{d:DefRec}{K:Params→Ly}{CX:World→CXT}{sp:World→Sp}{x:Str}
  (hn:l.most=some n) (hn2:n≤sizeLine) (hdf:d.params.defaults=[]) (hr:F5 k callerA)
  (hY:∀(w:World) (h:Heap),YP w h→(K w.params).In h)
  (F:∀(w:World) (mg:Str→Option Value) (fa:Addr) (h:Heap),(K w.params).In h→h.Ns mainGlobals mg→mg d.name=some (.ref fa) →
   ∃ fd:FuncData,(∀(s:Shared) (u:Value),BindsTo s fd ⟨[u],[]⟩ [(x,u)]) ∧
    ∀ base:Heap,(K w.params).In base→base.Ns mainGlobals mg→Q8 l.prog w (K w.params) mg base (CX w) k fa fd [x] (sp w))
  (hsp:∀(w:World) (H:Hp) (a:Addr) (ns:List Int),ns.length≤n→rY H→SqL (K w.params) H a (ns.map V.int)→sp w [.ref a] H (fun v _=>v = .bl true) fun _ _ _=>False)
  (hCX:∀(w:World) (H:Hp) (s:Shared) (e:Value) (s':Shared),CX w [] H s (fun _ _ _=>False) e s'→False) :
  PySem.W.WalkO q loose XP YP l.row.toRowW d [] (fun f vs=>PySem.call f vs):=by
 refine Att.mE hn hdf fun w s₀ s₁ mg mb fa o pm cd doc a vs ns G Y ho hd hcd hmg hobj hints hlen hg=>?_
 have KX:=hY w _ Y
 obtain⟨fd,hb,hF⟩:=F w mg fa _ KX G.T.g hmg
 exact vR KX G.T.g G.T.b G.T.builtins G.T.nolimit hg hobj hints (LL hlen hn2) hr hF hb (fun H hO hS=>hsp w H a ns hlen hO hS) fun H e s'=>hCX w H s₁ e s'
theorem tX{l:PySem.W.OpenLaw}{n k:Nat}{q:Program}{loose:List Str}{XP:(Str→Option Value)→Heap→Prop}{YP:World→Heap→Prop}{d:DefRec}{K:Params→Ly}{CX:CXT}{sp:Ly→Sp}{x:Str}
  (hn:l.most=some n) (hn2:n≤sizeLine) (hdf:d.params.defaults=[]) (hr:F5 k callerA)
  (hY:∀(w:World) (h:Heap),YP w h→(K w.params).In h)
  (F:∀(w:World) (mg:Str→Option Value) (fa:Addr) (h:Heap),(K w.params).In h→h.Ns mainGlobals mg→mg d.name=some (.ref fa) →
   ∃ fd:FuncData,(∀(s:Shared) (u:Value),BindsTo s fd ⟨[u],[]⟩ [(x,u)]) ∧
    ∀ base:Heap,(K w.params).In base→base.Ns mainGlobals mg→Q8 l.prog w (K w.params) mg base CX k fa fd [x] (sp (K w.params)))
  (hsp:∀(K:Ly) (H:Hp) (a:Addr) (ns:List Int),ns.length≤n→rY H→SqL K H a (ns.map V.int)→sp K [.ref a] H (fun v _=>v = .bl true) fun _ _ _=>False)
  (hCX:∀(H:Hp) (s:Shared) (e:Value) (s':Shared),CX [] H s (fun _ _ _=>False) e s'→False) :
  PySem.W.WalkO q loose XP YP l.row.toRowW d [] (fun f vs=>PySem.call f vs) :=
 yN (K:=K) (CX:=fun _=>CX) (sp:=fun w=>sp (K w.params)) hn hn2 hdf hr hY F (fun w H a ns h1 h2 h3=>hsp (K w.params) H a ns h1 h2 h3) fun _ H s e s'=>hCX H s e s'
noncomputable def P9(s:Stmt):Arguments:=match s with
 | .FunctionDef _ a _ _ _ _ _ _ _ _=>a
 | _=>{ posonlyargs:=[],args:=[],vararg:=none,kwonlyargs:=[],kw_defaults:=[],kwarg:=none,defaults:=[] }
noncomputable def G2(s:Stmt):List Stmt:=match s with
 | .FunctionDef _ _ b _ _ _ _ _ _ _=>b
 | _=>[]
noncomputable def e6(s:Stmt):Scope:=match s with
 | .FunctionDef _ _ _ _ _ _ sc _ _ _=>sc
 | _=>{ kind:=.function,names:=[],isGenerator:=false,isCoroutine:=false }
abbrev CX0:CXT:=fun _ _ _ _ _ _=>False
abbrev E0:XK:=fun _ _ _=>False
theorem Gj{X:Cx}:jO CX0 X E0:=fun _ _ _ _ _ _ _ h=>h.elim
section
variable {P:Program} {w:World} {K:Ly} {mg:Str→Option Value} {base:Heap}
end
section
variable {X:Cx}
theorem pv(i:Nat){x:Str}{pos:Pos}(hN:X.N[i]? = some x:=by rfl)(hv:Vis X.env.scope x:=by first|exact Or.inl rfl|exact Or.inr (Or.inl rfl)|exact Or.inr (Or.inr rfl))(hd:(x == ("__debug__" : Str))=false:=by decide)
  (hcd:(x == ("__classdict__" : Str))=false:=by decide):PE X (.Name x pos) (FH i):=vm hN hv hd hcd
end
theorem GF{A B:Prop}(h:B):if false=true then A else B:=by
 rw[if_neg LO]
 exact h
theorem GC{A B:Prop}(h:A):if true=true then A else B:=by
 rw[if_pos rfl]
 exact h
end L2
end
namespace RM
open Rat
noncomputable def bl(n:Nat):Nat:=n.log2+1
theorem az(n:Nat):n<2 ^ bl n:=Nat.lt_log2_self
theorem dO{n k:Nat}(h:n<2 ^ k)(hk:0<k):bl n≤k:=by
 unfold bl
 rcases Pf n with h0|h0
 ·subst h0;rw[Nat.log2_zero];omega
 ·have:=(OX (OY.mp h0)).mpr h
  omega
theorem oy(n:Nat):0<bl n:=Nat.succ_pos _
theorem jK{m n:Nat}(h:m≤n):bl m≤bl n:=dO (LR h (az n)) (oy n)
theorem Q1(m n:Nat):bl (m*n)≤bl m+bl n:=by
 refine dO ?_ (Nat.add_pos_left (oy m) _)
 rw[Mt]
 exact MG (az m) (az n)
theorem EH(m n:Nat):bl (m+n)≤max (bl m) (bl n)+1:=by
 refine dO ?_ (Nat.succ_pos _)
 have h1:=az m
 have h2:=az n
 have e1:2 ^ bl m≤2 ^ max (bl m) (bl n):=LD (by decide) (OJ _ _)
 have e2:2 ^ bl n≤2 ^ max (bl m) (bl n):=LD (by decide) (Ox _ _)
 rw[MC]
 omega
noncomputable def sz(q:Rat):Nat:=max (bl q.num.natAbs) (bl q.den)
theorem J7(q:Rat):bl q.num.natAbs≤sz q:=OJ _ _
theorem D5(q:Rat):bl q.den≤sz q:=Ox _ _
theorem Dc(q:Rat):0<sz q:=Lz (oy _) (J7 q)
theorem BV{q:Rat}{n:Nat}(h1:bl q.num.natAbs≤n)(h2:bl q.den≤n):sz q≤n:=OQ.mpr ⟨h1,h2⟩
theorem Ec(a b:Int):(divInt a b).num.natAbs≤a.natAbs:=by
 rw[num_divInt]
 rcases Int.lt_trichotomy b 0 with h|h|h
 ·rw[Oa h]
  refine LL (Od _ _) ?_
  simp
 ·subst h;simp
 ·rw[OD h,Int.one_mul]
  exact Od _ _
theorem Eu(a b:Int)(hb:b≠0):(divInt a b).den≤b.natAbs:=by
 rw[den_divInt,if_neg hb]
 exact Nf _ _
theorem T7(a b:Int)(hb:b≠0):sz (divInt a b)≤max (bl a.natAbs) (bl b.natAbs) :=
 BV (LL (jK (Ec a b)) (OJ _ _)) (LL (jK (Eu a b hb)) (Ox _ _))
theorem o9(q:Rat):(q.den:Int)≠0:=by have:=q.den_nz;omega
theorem oA(q r:Rat):q+r=divInt (q.num*r.den+r.num*q.den) (q.den*r.den):=by
 conv=>lhs;rw[← num_divInt_den q,← num_divInt_den r]
 rw[divInt_add_divInt _ _ (o9 q) (o9 r)]
theorem nT(q r:Rat):q*r=divInt (q.num*r.num) (q.den*r.den):=by
 conv=>lhs;rw[← num_divInt_den q,← num_divInt_den r]
 rw[divInt_mul_divInt]
theorem wL(q r:Rat):q / r=divInt (q.num*r.den) (q.den*r.num):=by
 rw[div_def]
 conv=>lhs;rw[← num_divInt_den q,← num_divInt_den r]
 rw[inv_divInt,divInt_mul_divInt]
theorem dF(a b:Int):(a+b).natAbs≤a.natAbs+b.natAbs:=NB a b
theorem E9(q r:Rat):sz (q+r)≤sz q+sz r+1:=by
 rw[oA]
 have hb:((q.den:Int)*(r.den:Int))≠0:=Mn (o9 q) (o9 r)
 refine LL (T7 _ _ hb) (OQ.mpr ⟨?_,?_⟩)
 ·refine LL (jK (dF _ _)) (LL (EH _ _) ?_)
  rw[Mf,Mf]
  have h1:=Q1 q.num.natAbs (r.den:Int).natAbs
  have h2:=Q1 r.num.natAbs (q.den:Int).natAbs
  have a1:=J7 q
  have a2:=J7 r
  have a3:=D5 q
  have a4:=D5 r
  simp only[LJ]at h1 h2 ⊢
  omega
 ·rw[Mf]
  have h1:=Q1 (q.den:Int).natAbs (r.den:Int).natAbs
  have a3:=D5 q
  have a4:=D5 r
  simp only[LJ]at h1 ⊢
  omega
theorem r9(q r:Rat):sz (q*r)≤sz q+sz r:=by
 rw[nT]
 have hb:((q.den:Int)*(r.den:Int))≠0:=Mn (o9 q) (o9 r)
 refine LL (T7 _ _ hb) (OQ.mpr ⟨?_,?_⟩)
 ·rw[Mf]
  have h1:=Q1 q.num.natAbs r.num.natAbs
  have a1:=J7 q
  have a2:=J7 r
  omega
 ·rw[Mf]
  have h1:=Q1 (q.den:Int).natAbs (r.den:Int).natAbs
  have a3:=D5 q
  have a4:=D5 r
  simp only[LJ]at h1 ⊢
  omega
theorem N0(q:Rat):sz (-q)=sz q:=by
 unfold sz
 rw[Oo,OZ,MD]
theorem CZ(q r:Rat):sz (q - r)≤sz q+sz r+1:=by
 rw[Pg]
 have:=E9 q (-r)
 rw[N0]at this
 exact this
theorem W6(q r:Rat)(hr:r≠0):sz (q / r)≤sz q+sz r:=by
 rw[wL]
 have hn:r.num≠0:=fun h=>hr (Ng.mp h)
 have hb:((q.den:Int)*r.num)≠0:=Mn (o9 q) hn
 refine LL (T7 _ _ hb) (OQ.mpr ⟨?_,?_⟩)
 ·rw[Mf]
  have h1:=Q1 q.num.natAbs (r.den:Int).natAbs
  have a1:=J7 q
  have a4:=D5 r
  simp only[LJ]at h1 ⊢
  omega
 ·rw[Mf]
  have h1:=Q1 (q.den:Int).natAbs r.num.natAbs
  have a3:=D5 q
  have a2:=J7 r
  simp only[LJ]at h1 ⊢
  omega
theorem um(q:Rat){n:Nat}(hn:0<n)(h1:q.num.natAbs<2 ^ n)(h2:q.den<2 ^ n):sz q≤n:=BV (dO h1 hn) (dO h2 hn)
theorem Z3:sz 0=1:=by decide
theorem uo:sz 1=1:=by decide
theorem mh(a b:Nat)(h:b≠0):MH a b=MH b (a % b):=by
 rw[Pq,Nat.gcd_rec,Pq]
theorem P7{a g:Int}(h:g ∣ a):a.fdiv g=a / g:=by
 obtain⟨c,rfl⟩:=h
 by_cases hg:g=0
 ·subst hg;simp
 ·rw[Int.mul_fdiv_cancel_left _ hg,Int.mul_ediv_cancel_left _ hg]
theorem Ed(a b:Int)(hb:b≠0)(share:Int)(hs:share=if b<0 then -((MH a.natAbs b.natAbs:Nat):Int)else((MH a.natAbs b.natAbs:Nat):Int)) :
  a.fdiv share=(divInt a b).num∧b.fdiv share=((divInt a b).den:Int):=by
 have hg:MH a.natAbs b.natAbs=Qc b a:=by unfold Qc;exact Pq _ _
 have da:((Qc b a:Nat):Int) ∣ a:=Int.gcd_dvd_right b a
 have db:((Qc b a:Nat):Int) ∣ b:=Int.gcd_dvd_left b a
 rw[hg]at hs
 rw[num_divInt,den_divInt,if_neg hb]
 by_cases h:b<0
 ·rw[if_pos h]at hs
  subst hs
  rw[P7 (Int.neg_dvd.mpr da),P7 (Int.neg_dvd.mpr db),Oa h]
  refine⟨?_,?_⟩
  ·rw[Int.ediv_neg,Int.neg_one_mul,Pa da]
  ·rw[Int.ediv_neg,← Pa db]
   have e:-b=((b.natAbs:Nat):Int):=by omega
   rw[e]
   norm_cast
 ·rw[if_neg h]at hs
  subst hs
  have hp:0<b:=by omega
  rw[P7 da,P7 db,OD hp,Int.one_mul]
  refine⟨rfl,?_⟩
  have e:b=((b.natAbs:Nat):Int):=by omega
  conv=>lhs;rw[e]
  norm_cast
theorem Gz(q r:Rat):decide (q.num*(r.den:Int)<r.num*(q.den:Int))=decide (q<r):=by
 by_cases h:q<r
 ·rw[decide_eq_true h,decide_eq_true ((Rat.lt_iff q r).mp h)]
 ·rw[decide_eq_false h,decide_eq_false (fun z=>h ((Rat.lt_iff q r).mpr z))]
end RM
namespace L2
open PySem PySem.Spec PyProof.Rows
section
variable {prog:Program} {w:World} {A:Around} {R:Result→Shared→Prop} {s:Shared}
noncomputable def pV(ifs:List Expr)(env:Env):Sem Bool:=forIn ifs true fun c r=>if r=true then do let ok ← isTrue c env (eval c env);pure (ForInStep.yield ok)else pure (ForInStep.yield r)
theorem jD{elt target iter:Expr}{ifs:List Expr}{scope:Scope}{pos:Pos}{it acc:Value}{env:Env}(I:Nat→Shared→Prop)
  (turn:∀ n s,I n s→wpAny (model prog w) A (pyNext it) (fun r s₁=>match r with
   | none=>R (.ok .next) s₁
   | some v=>wpAny (model prog w) A (letOwnedTupleGo target it v) (fun _ s₁'=>wpAny (model prog w) A (assign target env v) (fun _ s₂=>wpAny (model prog w) A (pV ifs env) (fun ok s₂'=>if ok=true then wpAny (model prog w) A (eval elt env) (fun x s₃ =>
     wpAny (model prog w) A (call (.builtin "list.append") [acc,x]) (fun _ s₄=>∃ m,m<n∧I m s₄) (notedBy (model prog w) A env fun e s'=>R (.error e) s') s₃)
     (notedBy (model prog w) A env fun e s'=>R (.error e) s') s₂' else ∃ m,m<n∧I m s₂') (notedBy (model prog w) A env fun e s'=>R (.error e) s') s₂) (notedBy (model prog w) A env fun e s'=>R (.error e) s') s₁') (notedBy (model prog w) A env fun e s'=>R (.error e) s') s₁) (notedBy (model prog w) A env fun e s'=>R (.error e) s') s)
  (n:Nat) (h:I n s) :
  codeAny (model prog w) A (.compLoop (.ListComp elt [⟨target,iter,ifs,0⟩] scope pos) 0 it acc env) R s:=by
 refine codeAny_loop rfl I (fun n s hI=>?_) n h
 show wpAny _ _ ((compTurn (.ListComp elt [⟨target,iter,ifs,0⟩] scope pos) 0 it acc env).onRaise (fun x=>do noteFrame x env;theTreesLotGoes x)) _ _ s
 refine wpAny_noted ?_
 rw[compTurn_list]
 refine Lw (wpAny_standAt (Lw (wpAny_mono (turn n s hI) (fun r s₁ h₁=>?_) fun _ _ h'=>h')))
 cases r with
 | none=>exact LA h₁
 | some v =>
  refine Lw (wpAny_mono h₁ (fun _ s₁' h₁'=>?_) fun _ _ h'=>h')
  refine Lw (wpAny_mono h₁' (fun _ s₂ h₂=>Lw (wpAny_mono h₂ (fun ok s₂' h₃=>?_) fun _ _ h'=>h')) fun _ _ h'=>h')
  cases ok with
  | true =>
   refine Lw (Lw (wpAny_mono h₃ (fun x s₃ h₄=>Lw (wpAny_mono h₄ (fun _ s₄ h₅=>LA (LA ⟨rfl,h₅⟩)) fun _ _ h'=>h')) fun _ _ h'=>h'))
  | false=>exact Lw (LA (LA ⟨rfl,h₃⟩))
end
def br(X:Cx)(ifs:List Expr)(t:TT):Prop :=
 ∀(pins:List (Addr × Obj)) (s:Shared) (σ:St) (H:Hp) (Q:Bool→Hp→Prop),Inv X pins σ H s→t σ H Q→wpAny (model X.prog X.w) X.A (pV ifs X.env) (TP X pins σ Q) X.xe s
def HF:TT:=fun _ H Q=>Q true H
theorem vc{X:Cx}:br X [] HF:=fun pins s σ H Q I q=>LA ⟨H,I,q⟩
theorem uZ{X:Cx}{c:Expr}{t:TT}(h:PT X c t):br X [c] t:=fun pins s σ H Q I q=>wpAny_tests_one (h pins s σ H Q I q)
noncomputable def T1(cells:List (Str × Addr)):List (Str × NameKind)→List (Str × Addr)→List (Str × Addr)
 | [],acc=>acc
 | (n,k) :: r,acc=>if k == .free then T1 cells r ((n,(cells.lookup n).getD 0) :: acc)else T1 cells r acc
theorem Y6{env:Env}:∀(names:List (Str × NameKind)) (acc:List (Str × Addr)),(∀ n,(n,NameKind.free)∈names→∃ c,env.cells.lookup n=some c) →
  (forIn names acc (fun(x:Str × NameKind) (cs:List (Str × Addr))=>if (x.2 == NameKind.free)=true then(do let a ← cellOf env x.1;pure (ForInStep.yield ((x.1,a) :: cs)))else pure (ForInStep.yield cs)):Sem (List (Str × Addr)))=pure (T1 env.cells names acc)
 | [],acc,_=>rfl
 | (n,k) :: r,acc,h=>by
  rw[Ny]
  unfold T1
  by_cases hk:(k == NameKind.free)=true
  ·have e:k = .free:=by cases k<;>first|rfl|(exact absurd hk (by decide))
   subst e
   obtain⟨c,hc⟩:=h n LI
   rw[if_pos hk,if_pos hk]
   have e1:cellOf env n=pure c:=by unfold cellOf;rw[hc]
   rw[e1,pure_bind,pure_bind,hc]
   exact Y6 r _ fun m hm=>h m (LG _ hm)
  ·rw[if_neg hk,if_neg hk,pure_bind]
   exact Y6 r _ fun m hm=>h m (LG _ hm)
theorem mz{scope:Scope}{env:Env}(h:∀ n,(n,NameKind.free)∈scope.names→∃ c,env.cells.lookup n=some c):closureFor scope env=pure (T1 env.cells scope.names []):=by
 have:=Y6 (env:=env) scope.names [] h
 unfold closureFor
 first
  | (simp only[]at this ⊢;rw[← this];simp only[bind_pure];rfl)
  | (rw[← this];rfl)
  | (simp only[bind_pure,pure_bind];exact this)
theorem Q0{cells:List (Str × Addr)}{x:Str}{c:Addr}:∀(names:List (Str × NameKind)) (acc:List (Str × Addr)),(∀ n,(n,NameKind.free)∈names→∃ c,cells.lookup n=some c)→(∀ y d,acc.lookup y=some d→cells.lookup y=some d)→(T1 cells names acc).lookup x=some c→cells.lookup x=some c
 | [],acc,_,ha,h=>ha x c h
 | (n,k) :: r,acc,hn,ha,h=>by
  unfold T1 at h
  by_cases hk:(k == NameKind.free)=true
  ·rw[if_pos hk]at h
   have e:k = .free:=by cases k<;>first|rfl|(exact absurd hk (by decide))
   subst e
   obtain⟨d,hd⟩:=hn n LI
   refine Q0 r _ (fun m hm=>hn m (LG _ hm)) (fun y e hy=>?_) h
   rw[Np]at hy
   split at hy
   ·rename_i hz
    have hz':y=n:=by simpa using hz
    subst hz'
    rw[hd]at hy ⊢
    cases hy;rfl
   ·exact ha y e hy
  ·rw[if_neg hk]at h
   exact Q0 r _ (fun m hm=>hn m (LG _ hm)) ha h
theorem V5{cells:List (Str × Addr)}{x:Str}:∀(names:List (Str × NameKind)) (acc:List (Str × Addr)),((x,NameKind.free)∈names ∨ ∃ c,acc.lookup x=some c)→∃ c,(T1 cells names acc).lookup x=some c
 | [],acc,h=>by
  rcases h with h|h
  ·cases h
  ·exact h
 | (n,k) :: r,acc,h=>by
  unfold T1
  by_cases hk:(k == NameKind.free)=true
  ·rw[if_pos hk]
   refine V5 r _ ?_
   by_cases hx:x=n
   ·right;rw[Np];simp[hx]
   ·rcases h with h|⟨c,h⟩
    ·rcases LB.mp h with z|z
     ·injection z with z1 _;exact absurd z1 hx
     ·exact .inl z
    ·right
     refine⟨c,?_⟩
     rw[Np]
     have:(x == n)=false:=by simpa using hx
     rw[this];exact h
  ·rw[if_neg hk]
   refine V5 r _ ?_
   rcases h with h|h
   ·rcases LB.mp h with z|z
    ·injection z with _ z2
     subst z2
     exact absurd rfl hk
    ·exact .inl z
   ·exact .inr h
theorem bH{scope:Scope}{env:Env}{x:Str}{k:NameKind}(h:(relabel scope env).names.lookup x=some k)(hk:k = .cell∨k = .free)(hcell:∀ y∈scope.names,y.2 ≠ .cell):(x,NameKind.free)∈scope.names:=by
 have go:∀(l:List (Str × NameKind)),(∀ y∈l,y.2 ≠ .cell)→(l.map fun(n,k)=>if (k == NameKind.free && env.scope.kind == .function && env.kindOf n == some .cell)=true then(n,NameKind.cell)else(n,k)).lookup x=some k→(x,NameKind.free)∈l:=by
  intro l
  induction l with
  | nil=>intro _ h;cases h
  | cons p r ih =>
   intro hl h
   obtain⟨n,j⟩:=p
   rw[Mv,Np]at h
   by_cases hj:j = .free
   ·subst hj
    by_cases hx:x=n
    ·subst hx;exact LI
    ·refine LG _ (ih (fun y hy=>hl y (LG _ hy)) ?_)
     have e:∀ b:Bool,(x == (if b=true then(n,NameKind.cell)else(n,NameKind.free)).1)=false:=fun b=>by cases b<;>simpa using hx
     dsimp only at h
     rw[e]at h
     exact h
   ·have e:(j == NameKind.free)=false:=by simpa using hj
    have hc:=hl (n,j) LI
    dsimp only at h
    rw[e]at h
    simp only[Nn,Nc,if_false]at h
    by_cases hx:x=n
    ·have:(x == n)=true:=by simpa using hx
     rw[this]at h
     have h':j=k:=by simpa using h
     subst h'
     rcases hk with z|z
     ·exact absurd z hc
     ·exact absurd z hj
    ·have:(x == n)=false:=by simpa using hx
     rw[this]at h
     exact LG _ (ih (fun y hy=>hl y (LG _ hy)) h)
 exact go scope.names hcell h
noncomputable def cxF(X:Cx)(scope:Scope)(cl:List (Str × Addr))(N':List Str)(s3:Shared)(H3:Hp)(C:Addr)(fp:List Addr)(pins:List (Addr × Obj)):Cx :=
 { X with N:=N',s₀:=s3,H₀:=H3,env:=compEnvC scope cl C X.env,outer:=X.stack,ex:=fp,fn:=fun _=>false,pn:=X.pn++pins,xe:=fun _ _=>False }
noncomputable def jH(n:Nat)(caps:List Nat)(σ:St):St:=Nb n none++caps.map fun i=>(σ[i]?).getD none
def mR(n:Nat)(caps:List Nat)(wi:TI)(g:TG)(tc:TT)(te:TE):TE:=fun σ H Q=>wi σ H fun J H1=>∀ D,H1 D=none→∃ W:Nat→Nat→Hp→Prop,(∃ m,W 0 m (upd H1 D (.lst [])))∧∀ i m H,W i m H →
 (J.stop i H∧Q (.ref D) H)∨(J.go i H∧∀ x H',J.yld i H x H'→g x (jH n caps σ) H' fun σ2 H2=>tc σ2 H2 fun b H2'=>if b=true then te σ2 H2' fun v H3=>∃ ys,H3 D=some (.lst ys)∧ys.length<sizeLine∧∃ m',m'<m∧W (i+1) m' (upd H3 D (.lst (ys++[v])))else ∃ m',m'<m∧W (i+1) m' H2')
section
variable {X:Cx} {elt tg iter:Expr} {scope:Scope} {cl:List (Str × Addr)} {tgs cps:List Str} {caps:List Nat} {wi:TI} {g:TG} {tc:TT} {te:TE} {pos:Pos} {ifs:List Expr}
def xG(s3:Shared)(H3:Hp)(fp:List Addr)(cl:List (Str × Addr))(x:Str)(v:V):Prop :=
 ∃(u:Value) (c:Addr) (o:Obj),o7 v u∧cl.lookup x=some c∧s3.heap.get? c=some o∧o.data = .cell (some u)∧H3 c=none∧c∉fp
theorem Inv.reset{pins pins':List (Addr × Obj)}{σ0 σ':St}{H3 H':Hp}{s3 s':Shared}{fp:List Addr}{C:Addr}(I:Inv (cxF X scope cl (tgs++cps) s3 H3 C fp pins) pins' σ' H' s')
  (hsc:∀ x∈cps,(relabel scope X.env).names.lookup x=some .cell∨(relabel scope X.env).names.lookup x=some .free) (hl:caps.length=cps.length)
  (hc:∀(j:Nat) (x:Str) (v:V),cps[j]? = some x→(caps.map fun i=>(σ0[i]?).getD none)[j]? = some (some v)→xG s3 H3 fp cl x v) :
  Inv (cxF X scope cl (tgs++cps) s3 H3 C fp pins) pins' (jH tgs.length caps σ0) H' s':=by
 obtain⟨m,hn,_⟩:=I.loc
 refine⟨I.ok,I.os,I.bare,I.base,⟨m,hn,fun i x v e1 e2 e3=>?_⟩,I.cell,I.free,I.freeC,I.pin,I.hok,by simp[jH,cxF,hl]⟩
 have e1:(tgs++cps)[i]? = some x:=e1
 unfold jH at e2
 rw[NN]at e1 e2
 rw[NG]at e2
 by_cases hi:i<tgs.length
 ·rw[if_pos hi]at e2
  rw[ML]at e2
  split at e2<;>cases e2
 ·rw[if_neg hi]at e1 e2
  obtain⟨u,c,o,r,h1,h2,h3,h4,h5⟩:=hc (i - tgs.length) x v e1 e2
  obtain⟨sl,k⟩:=I.base.any h2 h4 h5
  refine⟨u,r,.inr ⟨?_,c,h1,_,k,h3⟩⟩
  rcases hsc x (LS e1)with z|z
  ·exact .inl z
  ·exact .inr z
theorem mx{pins:List (Addr × Obj)}{σ0:St}{σ:St}{H3:Hp}{s3:Shared}{fp:List Addr}{it D C:Addr}{tn:Nat→Heap→Prop}{J:It}{h₁:Heap}{tk:Nat}{m:Str→Option Value}{R:Result→Shared→Prop}{Qd:Hp→Prop}
  (hc:X.calm=true) (hcell:∀ x∈scope.names,x.2 ≠ .cell) (hkind:scope.kind = .function)
  (hcl:∀ x c,cl.lookup x=some c→X.env.cells.lookup x=some c) (hhas:∀ x,(x,NameKind.free)∈scope.names→∃ c,cl.lookup x=some c)
  (hsc:∀ x∈cps,(relabel scope X.env).names.lookup x=some .cell∨(relabel scope X.env).names.lookup x=some .free) (hl:caps.length=cps.length)
  (hcap:∀(j:Nat) (x:Str) (v:V),cps[j]? = some x→(caps.map fun i=>(σ0[i]?).getD none)[j]? = some (some v)→xG s3 H3 fp cl x v)
  (hg:∀ cl s3 H3 C fp pins,PG (cxF X scope cl (tgs++cps) s3 H3 C fp pins) tg g) (hq:∀ cl s3 H3 C fp pins,br (cxF X scope cl (tgs++cps) s3 H3 C fp pins) ifs tc) (he:∀ cl s3 H3 C fp pins,PE (cxF X scope cl (tgs++cps) s3 H3 C fp pins) elt te)
  (I3:Inv X pins σ H3 s3) (T:mI X.prog X.w X.K tg J fp it tn) (st3:tn 0 s3.heap) (f3:∀ b∈fp,W1 X pins H3 b) (hC:C=s3.heap.objs.size) (hn:h₁.Ns C m) (hk:∀ b o,s3.heap.get? b=some o→h₁.get? b=some o)
  (W:Nat→Nat→Hp→Prop) (m0:Nat) (w0:W 0 m0 H3)
  (turn:∀ i m H,W i m H→(J.stop i H∧Qd H)∨(J.go i H∧∀ x H',J.yld i H x H'→g x (jH tgs.length caps σ0) H' fun σ2 H2=>tc σ2 H2 fun b H2'=>if b=true then te σ2 H2' fun v H3=>∃ ys,H3 D=some (.lst ys)∧ys.length<sizeLine∧∃ m',m'<m∧W (i+1) m' (upd H3 D (.lst (ys++[v])))else ∃ m',m'<m∧W (i+1) m' H2'))
  (hR:∀ s' H' σ',Inv (cxF X scope cl (tgs++cps) s3 H3 C fp pins) [] σ' H' s'→Qd H'→R (.ok .next) s') :
  codeAny (model X.prog X.w) X.A (.compStart (.ListComp elt [⟨tg,iter,ifs,0⟩] scope pos) 0 (.ref it) (.ref D) (compEnvC scope cl C X.env)) R { s3 with heap:=h₁,toks:=tk }:=by
 have lt3:∀ b∈fp,b<s3.heap.objs.size:=fun b hb=>by
  obtain⟨o,e,_⟩:=T.obj 0 _ st3 b hb
  exact LH e
 have ok':(cxF X scope cl (tgs++cps) s3 H3 C fp pins).Ok:={
  mod:=I3.ok.mod
  kind:=hkind
  glob:=I3.ok.glob
  blt:=I3.ok.blt
  above:=OH hC.symm
  inj:=fun x y c e e'=>I3.ok.inj x y c (hcl x c e) (hcl y c e')
  has:=fun x h=>by
   rcases h with h|h
   ·exact hhas x (bH h (.inl rfl) hcell)
   ·exact hhas x (bH h (.inr rfl) hcell)
  cab:=fun x c h=>by cases h
  hd:=fun _=>I3.ok.hd hc
  frames:=I3.ok.frames
  stk:=.inl rfl
  exf:=fun b hb=>⟨fun z=>by
   have z':b=C:=z
   have h1:=lt3 b hb
   rw[z',hC]at h1
   exact MT _ h1,fun x c e=>(f3 b hb).2.2.2.2.1 x c (hcl x c e)⟩
  bs:=fun b o e=>I3.bs b o e
  bsz:=LL I3.ok.bsz I3.sz
  noex:=fun b o e hb=>by
   obtain⟨_,_,_,q,_⟩:=f3 b hb
   rcases q with q|q
   ·exact I3.ok.noex b o e q
   ·have h1:=LH e
    exact absurd (Lz (Lz h1 I3.ok.bsz) q) (MT _)
  exfs:=fun b hb z=>by
   obtain⟨_,q1,q2,_⟩:=f3 b hb
   rcases LB.mp (I3.stkSub b z)with y|y
   ·exact q1 y
   ·exact q2 y
  funs:=I3.stack
  frf:=I3.stkFree }
 have J0:Inv (cxF X scope cl (tgs++cps) s3 H3 C fp pins) [] (Nb (tgs++cps).length none) H3 { s3 with heap:=h₁,toks:=tk }:={
  ok:=ok'
  os:=rfl
  bare:=I3.bare
  base:=Un.kept hk
  loc:=⟨m,hn,fun i x v _ e _=>by
   rw[ML]at e
   split at e<;>cases e⟩
  cell:=fun x c e=>by
   obtain⟨v,o,ho,hd⟩:=I3.cell x c (hcl x c e)
   exact⟨v,o,hk c o ho,hd⟩
  free:=I3.hok.fresh (OH hC.symm)
  freeC:=fun x c e=>I3.freeC x c (hcl x c e)
  pin:=fun p hp=>by
   have hp':p∈X.pn++pins:=by simpa[cxF]using hp
   obtain⟨a1,a2,a3,a4,a5⟩:=I3.pin p hp'
   refine⟨hk _ _ a1,a2,fun z=>?_,fun z=>?_,a5⟩
   ·have z':p.1=C:=z
    have h1:=LH a1
    rw[z',hC]at h1
    exact MT _ h1
   ·rcases LB.mp (I3.stkSub _ z)with y|y
    ·exact a3 y
    ·exact a4 y
  hok:=I3.hok.kept hk
  len:=by simp[cxF] }
 have stat:∀{H':Hp},(∀ b∈fp,H' b=none)→∀ b∈fp,W1 (cxF X scope cl (tgs++cps) s3 H3 C fp pins) [] H' b:=fun hn b hb=>by
  obtain⟨_,_,_,_,_,q⟩:=f3 b hb
  exact⟨hn b hb,(ok'.exf b hb).1,ok'.exfs b hb,.inl hb,(ok'.exf b hb).2,fun p hp=>q p (by simpa[cxF]using hp)⟩
 have loop:codeAny (model X.prog X.w) X.A (.compLoop (.ListComp elt [⟨tg,iter,ifs,0⟩] scope pos) 0 (.ref it) (.ref D) (compEnvC scope cl C X.env)) R { s3 with heap:=h₁,toks:=tk }:=by
  refine jD (fun n s'=>∃ i σ' H',Inv (cxF X scope cl (tgs++cps) s3 H3 C fp pins) [] σ' H' s'∧tn i s'.heap∧(∀ b∈fp,H' b=none)∧W i n H') ?_ m0
   ⟨0,_,H3,J0,T.keep _ _ _ st3 fun b hb o e=>hk b o e,fun b hb=>(f3 b hb).1,w0⟩
  rintro n s4 ⟨i,σ4,H4,I4,st4,fr4,w4⟩
  rcases turn i n H4 w4 with⟨stop,qn⟩|⟨go,step⟩
  ·refine thn (T.done (cxF X scope cl (tgs++cps) s3 H3 C fp pins) rfl rfl rfl hc i [] s4 σ4 H4 _ I4 (stat fr4) st4 stop) fun r s5 zz=>?_
   obtain⟨hr,I5⟩:=zz
   subst hr
   exact hR s5 H4 σ4 I5 qn
  ·refine thn (T.item (cxF X scope cl (tgs++cps) s3 H3 C fp pins) rfl rfl rfl hc i [] s4 σ4 H4 _ I4 (stat fr4) st4 go) fun r s5 zz=>?_
   obtain⟨u,hr,h5⟩:=zz
   subst hr
   refine thn h5 fun _ s6 zz=>?_
   obtain⟨x,H6,I6,r6,y6,st6,fr6⟩:=zz
   have I6w:=I6.reset hsc hl hcap
   have I6':=I6w.pinned (stat fr6) (T.obj _ _ st6)
   refine wpAny_mono (hg cl s3 H3 C fp pins _ s6 _ H6 x u _ I6' r6 (step x H6 y6)) (fun _ s7 ⟨σ7,H7,I7,q7⟩=>?_) fun _ _ z=>z.elim
   refine wpAny_mono (hq cl s3 H3 C fp pins _ s7 σ7 H7 _ I7 q7) (fun b s7' ⟨H7',I7',q7'⟩=>?_) fun _ _ z=>z.elim
   cases b with
   | false =>
    obtain⟨m',hm,w8⟩:=q7'
    refine⟨m',hm,i+1,σ7,H7',I7'.unpinned,T.keep _ _ _ st6 fun b hb o e=>(I7'.pin (b,o) (LZ _ (LZ _ (D7 hb e)))).1,fun b hb=>?_,w8⟩
    obtain⟨o,e,d⟩:=T.obj _ _ st6 b hb
    exact(I7'.pin (b,o) (LZ _ (LZ _ (D7 hb e)))).2.1
   | true =>
    refine wpAny_mono (he cl s3 H3 C fp pins _ s7' σ7 H7' _ I7' q7') (fun v s8 ⟨y,H8,I8,r8,q8⟩=>?_) fun _ _ z=>z.elim
    obtain⟨ys,hy,hz,m',hm,w8⟩:=q8
    refine wpAny_mono (gq (X:=cxF X scope cl (tgs++cps) s3 H3 C fp pins) _ s8 σ7 H8 (.ref D) [y] (.ref D) [v] (fun _ H9=>W (i+1) m' H9) I8 rfl (.cons r8 .nil) ⟨D,ys,y,rfl,rfl,hy,hz,w8⟩) (fun _ s9 ⟨_,H9,I9,_,w9⟩=>?_) fun _ _ z=>z.elim
    refine⟨m',hm,i+1,σ7,H9,I9.unpinned,T.keep _ _ _ st6 fun b hb o e=>(I9.pin (b,o) (LZ _ (LZ _ (D7 hb e)))).1,fun b hb=>?_,w9⟩
    obtain⟨o,e,d⟩:=T.obj _ _ st6 b hb
    exact(I9.pin (b,o) (LZ _ (LZ _ (D7 hb e)))).2.1
 exact codeAny_compStart_list loop (T.self _ 0 _ _ _ (T.keep _ _ _ st3 fun b hb o e=>hk b o e) loop)
theorem gD(hc:X.calm=true)(hcell:∀ x∈scope.names,x.2 ≠ .cell)(hkind:scope.kind = .function)(hnames:∀ x∈scope.names,x.2 = .local→scope.names.lookup x.1=some .local)
  (hfr:∀ x∈scope.names,x.2 = .free→x.1∈cps) (hN:caps.map (fun i=>X.N[i]?)=cps.map some) (hX:∀ x∈cps,X.env.scope.names.lookup x=some .cell∧scope.names.lookup x=some .free)
  (hsc:∀ x∈cps,(relabel scope X.env).names.lookup x=some .cell∨(relabel scope X.env).names.lookup x=some .free)
  (hi:PI X tg iter wi) (hg:∀ cl s3 H3 C fp pins,PG (cxF X scope cl (tgs++cps) s3 H3 C fp pins) tg g) (hq:∀ cl s3 H3 C fp pins,br (cxF X scope cl (tgs++cps) s3 H3 C fp pins) ifs tc) (he:∀ cl s3 H3 C fp pins,PE (cxF X scope cl (tgs++cps) s3 H3 C fp pins) elt te)
  (hs:∀ x,foldedSetIterable iter X.env x=pure x) {use:Option (Value→Sem Unit)} {Qf:Value→Shared→Prop} {pins:List (Addr × Obj)} {s:Shared} {σ:St} {H:Hp} {Q:VK} (I:Inv X pins σ H s) (h:mR tgs.length caps wi g tc te σ H Q)
  (hU:∀(D C:Addr) (s':Shared) (H4:Hp) (m4:Str→Option Value),s'.heap.Ns C m4→W1 X pins H4 C→(∀ h',Heap.SameBut C s'.heap h'→Inv X pins σ H4 { s' with heap:=h' })→Q (.ref D) H4→compPost (model X.prog X.w) X.A X.xe use Qf (.ref D) C (.ok .next) s') :
  wpAny (model X.prog X.w) X.A (comprehension (.ListComp elt [⟨tg,iter,ifs,0⟩] scope pos) scope X.env (firstIterPos [⟨tg,iter,ifs,0⟩] pos) (newList []) false (eval iter X.env) use) Qf X.xe s:=by
 have hl:caps.length=cps.length:=by
  have:=congrArg PD hN
  simpa using this
 have hcells:∀ n,(n,NameKind.free)∈scope.names→∃ c,X.env.cells.lookup n=some c:=fun n hn=>I.ok.has n (.inl (hX n (hfr _ hn rfl)).1)
 refine wpAny_comprehension_free (use:=use) rfl hs (mz hcells) hkind hnames (thn (hi pins s σ H _ I h) fun v s1 h1=>thn h1 fun itv s2 h2=>?_)
 obtain⟨it,fp,tn,J,H',e,I2,T,st2,f2,hW⟩:=h2
 subst e
 refine wpAny_newObj_type (hd:=by size_fits) (wpAny_newFunctionEnv hcell (by intro y hy;simp at hy) (fun h₁ hns₁ hsb₁=>?_) hkind)
 dsimp only at hns₁ hsb₁ ⊢
 have I3:=I2.lnew (ys:=[]) (its:=[]) (t':=s2.toks) .nil (Ms _)
 obtain⟨W,⟨m0,w0⟩,turn⟩:=hW _ I2.fresh
 have st3:tn 0 (s2.heap.push { cls:=.type "list",data:=.seq ([]:List Value).toArray }):=T.keep _ _ _ st2 fun b hb o e=>Lx _ e
 have f3:∀ b∈fp,W1 X pins (upd H' s2.heap.objs.size (.lst [])) b:=fun b hb=>by
  obtain⟨q0,q⟩:=f2 b hb
  obtain⟨o,e,_⟩:=T.obj 0 _ st2 b hb
  exact⟨by rw[g7 (LV (LH e))];exact q0,q⟩
 have old:∀ b o,(s2.heap.push { cls:=.type "list",data:=.seq ([]:List Value).toArray }).get? b=some o→h₁.get? b=some o:=fun b o e =>
  hsb₁.extBut b o (LV (LH e)) (Lx _ e)
 have hcap:∀(j:Nat) (x:Str) (v:V),cps[j]? = some x→(caps.map fun i=>(σ[i]?).getD none)[j]? = some (some v) →
   xG { s2 with heap:=s2.heap.push { cls:=.type "list",data:=.seq ([]:List Value).toArray },toks:=s2.toks } (upd H' s2.heap.objs.size (.lst [])) fp (T1 X.env.cells scope.names []) x v:=fun j x v ex ev=>by
  have hx:=hX x (LS ex)
  have hj:(caps.map (fun i=>X.N[i]?))[j]? = some (some x):=by rw[hN,LY,ex];rfl
  rw[LY]at ev hj
  cases hcj:caps[j]? with
  | none=>rw[hcj]at ev;cases ev
  | some i =>
   rw[hcj]at ev hj
   have ev':(σ[i]?).getD none=some v:=by simpa using ev
   have hj':X.N[i]? = some x:=by simpa using hj
   have es:σ[i]? = some (some v):=by
    cases q:σ[i]? with
    | none=>rw[q]at ev';cases ev'
    | some w=>rw[q]at ev';rw[show w=some v by simpa using ev']
   obtain⟨m,hn,hlook⟩:=I3.loc
   obtain⟨u,ru,lk⟩:=hlook i x v hj' es (.inr (.inl hx.1))
   rcases lk with⟨k1,_⟩|⟨_,c,hc1,o,ho,hd⟩
   ·have k1':X.env.scope.names.lookup x=some .local:=k1
    rw[hx.1]at k1';cases k1'
   ·have hmem:(x,NameKind.free)∈scope.names:=by
     have hlk:=hx.2
     have go:∀ l:List (Str × NameKind),l.lookup x=some .free→(x,NameKind.free)∈l:=by
      intro l
      induction l with
      | nil=>intro z;cases z
      | cons p r ih =>
       intro z
       obtain⟨n,k⟩:=p
       rw[Np]at z
       split at z
       ·rename_i q;have q':x=n:=by simpa using q
        have z':k = .free:=by simpa using z
        rw[q',z'];exact LI
       ·exact LG _ (ih z)
     exact go _ hlk
    obtain⟨c',hc'⟩:=V5 (cells:=X.env.cells) scope.names [] (.inl hmem)
    have:=Q0 scope.names [] hcells (fun y d z=>by cases z) hc'
    rw[hc1]at this
    cases this
    refine⟨u,c,o,ru,hc',ho,hd,I3.freeC x c hc1,fun hb=>?_⟩
    exact(f3 c hb).2.2.2.2.1 x c hc1 rfl
 refine mx (s3:={ s2 with heap:=s2.heap.push { cls:=.type "list",data:=.seq ([]:List Value).toArray },toks:=s2.toks }) (Qd:=fun H=>Q (.ref s2.heap.objs.size) H) (tk:=s2.toks+([]:List (Str × Value)).length) (cl:=T1 X.env.cells scope.names [])
  hc hcell hkind (fun x c z=>Q0 scope.names [] hcells (fun y d z=>by cases z) z) (fun x z=>V5 scope.names [] (.inl z)) hsc hl hcap hg hq he I3 T st3 f3 rfl hns₁ old W m0 w0 turn fun s' H4 σ4 I4 q4=>?_
 obtain⟨m4,hn4,_⟩:=I4.loc
 have hCfree:H4 _=none:=I4.free
 have nC:∀ b u,H4 b=some u→b≠(s2.heap.push { cls:=.type "list",data:=.seq ([]:List Value).toArray }).objs.size:=fun b u e z=>by
  rw[z]at e
  have:=e.symm.trans hCfree
  cases this
 have lt:∀ b o,(s2.heap.push { cls:=.type "list",data:=.seq ([]:List Value).toArray }).get? b=some o→b≠(s2.heap.push { cls:=.type "list",data:=.seq ([]:List Value).toArray }).objs.size:=fun b o e=>LV (LH e)
 have ub:=I4.base
 have fC:W1 X pins H4 (s2.heap.push { cls:=.type "list",data:=.seq ([]:List Value).toArray }).objs.size:=I3.fpOk (LQ _) hCfree
 refine hU _ _ s' H4 m4 hn4 fC (fun h' hsb=>?_) q4
 have un:Un (frs X.stack) fp (upd H' s2.heap.objs.size (.lst [])) H4 (s2.heap.push { cls:=.type "list",data:=.seq ([]:List Value).toArray }) h':={
  keep:=fun b o e n x y=>(hsb.2 b (lt b o e)).trans (ub.keep b o e n x y)
  slot:=fun b o e n x y=>let ⟨q,z⟩:=ub.slot b o e n x y;⟨q,(hsb.2 b (lt b o e)).trans z⟩
  free:=ub.free
  there:=fun b o e y=>let ⟨q,z⟩:=ub.there b o e y;⟨q,(hsb.2 b (lt b o e)).trans z⟩
  tups:=ub.tups
  frzs:=ub.frzs
  tbls:=ub.tbls }
 refine I3.call' (s':={ s' with heap:=h' }) I4.os un (fun b u e=>?_) I4.bare fun b hb=>?_
 ·refine(I4.hok b u e).stay (fun c v hcv q=>(hsb.2 c ?_).trans q) (fun _ q=>q) fun _ _ q=>q
  rcases hcv with z|z
  ·rw[z];exact nC b u e
  ·exact nC c _ z
 ·obtain⟨q0,q1,q2,q3,q4,q5⟩:=f3 b hb
  exact⟨q3,q1,q4,q5⟩
theorem vt(hc:X.calm=true)(hcell:∀ x∈scope.names,x.2 ≠ .cell)(hkind:scope.kind = .function)(hnames:∀ x∈scope.names,x.2 = .local→scope.names.lookup x.1=some .local)
  (hfr:∀ x∈scope.names,x.2 = .free→x.1∈cps) (hN:caps.map (fun i=>X.N[i]?)=cps.map some) (hX:∀ x∈cps,X.env.scope.names.lookup x=some .cell∧scope.names.lookup x=some .free)
  (hsc:∀ x∈cps,(relabel scope X.env).names.lookup x=some .cell∨(relabel scope X.env).names.lookup x=some .free)
  (hi:PI X tg iter wi) (hg:∀ cl s3 H3 C fp pins,PG (cxF X scope cl (tgs++cps) s3 H3 C fp pins) tg g) (hq:∀ cl s3 H3 C fp pins,br (cxF X scope cl (tgs++cps) s3 H3 C fp pins) ifs tc) (he:∀ cl s3 H3 C fp pins,PE (cxF X scope cl (tgs++cps) s3 H3 C fp pins) elt te)
  (hs:∀ x,foldedSetIterable iter X.env x=pure x:=by intro _;rfl):PE X (.ListComp elt [⟨tg,iter,ifs,0⟩] scope pos) (mR tgs.length caps wi g tc te):=by
 intro pins s σ H Q I h
 rw[eval_ListComp]
 exact gD hc hcell hkind hnames hfr hN hX hsc hi hg hq he hs I h fun D C s' H4 m4 hn4 fC hI q4=>⟨m4,hn4,fun h' hsb=>⟨.ref D,H4,hI h' hsb,rfl,q4⟩⟩
def PU(X:Cx)(i:Nat)(x:Str)(pos':Pos)(e:Expr)(te:TE):Prop:=∀(pins:List (Addr × Obj)) (s:Shared) (σ:St) (H:Hp) (Q:VK),Inv X pins σ H s→te σ H Q →
 wpAny (model X.prog X.w) X.A (evalThenUse e X.env (assign (.Name x pos') X.env)) (fun _ s'=>∃ v H',Inv X pins (σ.set i (some v)) H' s'∧Q v H') X.xe s
theorem PU.imp{X:Cx}{i:Nat}{x:Str}{pos':Pos}{e:Expr}{t t':TE}(h:PU X i x pos' e t)(f:∀ σ H Q,t' σ H Q→t σ H Q):PU X i x pos' e t':=fun pins s σ H Q I q=>h pins s σ H Q I (f σ H Q q)
theorem zy{i:Nat}{x:Str}{pos' pos:Pos}{e:Expr}{te:TE}(h:PU X i x pos' e te)(hs:swapsWith e (some (.Name x pos')) pos.line X.env=pure true):PS X (.Assign [.Name x pos'] e pos) (CY te (wu i)):=by
 intro pins s σ H D I q
 rw[exec_Assign_Name_used _ _ _ _ hs]
 refine Lw (wpAny_standAt (Lw (thn (h pins s σ H _ I q) fun _ s1 ⟨v,H1,I1,q1⟩=>LA ?_)))
 exact⟨_,H1,I1,q1⟩
theorem uW(hc:X.calm=true)(hcell:∀ x∈scope.names,x.2 ≠ .cell)(hkind:scope.kind = .function)(hnames:∀ x∈scope.names,x.2 = .local→scope.names.lookup x.1=some .local)
  (hfr:∀ x∈scope.names,x.2 = .free→x.1∈cps) (hN:caps.map (fun i=>X.N[i]?)=cps.map some) (hX:∀ x∈cps,X.env.scope.names.lookup x=some .cell∧scope.names.lookup x=some .free)
  (hsc:∀ x∈cps,(relabel scope X.env).names.lookup x=some .cell∨(relabel scope X.env).names.lookup x=some .free)
  (hi:PI X tg iter wi) (hg:∀ cl s3 H3 C fp pins,PG (cxF X scope cl (tgs++cps) s3 H3 C fp pins) tg g) (hq:∀ cl s3 H3 C fp pins,br (cxF X scope cl (tgs++cps) s3 H3 C fp pins) ifs tc) (he:∀ cl s3 H3 C fp pins,PE (cxF X scope cl (tgs++cps) s3 H3 C fp pins) elt te)
  {i:Nat} {x:Str} {pos':Pos} (hNd:X.N.Nodup) (hxi:X.N[i]? = some x) (hx:Loc X.env.scope x) (hf:X.fn x=true∨X.env.scope.names.lookup x=some .local)
  (hs:∀ x,foldedSetIterable iter X.env x=pure x:=by intro _;rfl):PU X i x pos' (.ListComp elt [⟨tg,iter,ifs,0⟩] scope pos) (mR tgs.length caps wi g tc te):=by
 intro pins s σ H Q I h
 refine Lw (thn (gD (use:=some (assign (.Name x pos') X.env)) (Qf:=fun _ s'=>∃ v H',Inv X pins (σ.set i (some v)) H' s'∧Q v H') hc hcell hkind hnames hfr hN hX hsc hi hg hq he hs I h fun D C s' H4 m4 hn4 fC hI q4=>?_) fun _ s1 z=>LA z)
 have I4:Inv X pins σ H4 s':=hI s'.heap (Heap.SameBut.refl _ _)
 show wpAny _ _ (assign (.Name x pos') X.env (.ref D)) _ _ s'
 refine wpAny_assign_Name (fW (v:=.ref D) I4 hNd hxi hx rfl (fun s2 I2 ⟨a,hsb,ha⟩=>?_) hf)
 have hac:C≠a:=by
  rcases ha with ha|ha
  ·rw[ha];exact fC.2.1
  ·exact Ne.symm (fC.2.2.2.2.1 x a ha)
 refine⟨m4,hn4.sameBut hsb hac,fun h' hs'=>⟨.ref D,H4,?_,q4⟩⟩
 exact I2.turned (t':=s2.toks) (fun b o hb e=>hs'.extBut b o hb e) fC.1 fC.2.1 fC.2.2.2.1 fC.2.2.2.2.1 fC.2.2.2.2.2
end
end L2
namespace L2
open PySem
noncomputable def SI:Bool→Heap→Addr→Addr→Nat→Prop
 | true,h,it,a,i=>h.IsListIter it a i
 | false,h,it,a,i=>h.IsTupleIter it a i
noncomputable def SS:Bool→Heap→Addr→Array Value→Prop
 | true,h,a,xs=>h.IsList a xs
 | false,h,a,xs=>h.IsTuple a xs
theorem SI.at{k:Bool}{h h':Heap}{it a:Addr}{i:Nat}(x:SI k h it a i)(f:∀ o,h.get? it=some o→h'.get? it=some o):SI k h' it a i:=by
 cases k<;>(obtain⟨o,e,r⟩:=x;exact⟨o,f o e,r⟩)
theorem SS.at{k:Bool}{h h':Heap}{a:Addr}{xs:Array Value}(x:SS k h a xs)(f:∀ o,h.get? a=some o→h'.get? a=some o):SS k h' a xs:=by
 cases k<;>(obtain⟨o,e,r⟩:=x;exact⟨o,f o e,r⟩)
theorem SI.obj{k:Bool}{h:Heap}{it a:Addr}{i:Nat}(x:SI k h it a i):∃ o,h.get? it=some o∧∀ v,o.data ≠ .cell v:=by
 cases k<;>(obtain⟨o,e,c,d⟩:=x;exact⟨o,e,fun v z=>by rw[d]at z;cases z⟩)
theorem SS.obj{k:Bool}{h:Heap}{a:Addr}{xs:Array Value}(x:SS k h a xs):∃ o,h.get? a=some o:=by
 cases k<;>(obtain⟨o,e,_⟩:=x;exact⟨o,e⟩)
section
variable {prog:Program} {w:World} {A:Around} {E:Value→Shared→Prop} {s:Shared}
theorem qX{p t:Addr}{n:Nat}{xs:Array Value}{v:Value}{Q:Value→Shared→Prop}(hp:s.heap.IsTupleIter p t n)(ht:s.heap.IsTuple t xs)(hv:xs[n]? = some v)
  (q:∀ h',h'.IsTupleIter p t (n+1)→Heap.SameBut p s.heap h'→Q v { s with heap:=h' }):wpAny (model prog w) A (Builtin.SmallTypes.nextOf (.ref p)) Q E s:=by
 obtain⟨ob,e1,e2,e3⟩:=id hp
 obtain⟨ot,f1,_,cap,f2⟩:=ht
 unfold Builtin.SmallTypes.nextOf
 refine Lw (wpAny_callSpecial?_slot (name:=Str.ofString "__next__") hp.typeIs F.slot_tuple_iterator_next (wpAny_call_entry F.slot_tuple_iterator_next hp.typeIs F.entry_tuple_iterator_next ?_ (F.args_tuple_iterator_next_1 _)))
 show wpAny _ _ (field (.ref p) 0 >>= _) _ _ s
 refine Lw (wpAny_field e1 e3 (x:=.ref t) rfl ?_)
 show wpAny _ _ (if (Value.ref t == Value.none)=true then _ else _) _ _ s
 rw[if_neg (fun z:(Value.ref t == Value.none)=true=>nomatch z)]
 show wpAny _ _ (field (.ref p) 1 >>= _) _ _ s
 refine Lw (wpAny_field e1 e3 (x:=.int n 0) rfl ?_)
 show wpAny _ _ (seqItems? (.ref t) >>= _) _ _ s
 refine Lw (wpAny_seqItems f1 f2 ?_)
 simp only[Mp,hv]
 refine Lw (wpAny_setField e1 e3 (by simp) (LA ⟨v,rfl,LA (q _ ⟨_,Mu _ e1 (Obj.isFreed_of_fields (Obj.data_mapFields e3 _)),(Obj.cls_mapFields ..).trans e2,?_⟩ (Heap.SameBut.update ..))⟩))
 rw[Obj.data_mapFields e3];simp[rawInt]
theorem ud{p t:Addr}{n:Nat}{xs:Array Value}{Q:Value→Shared→Prop}(hA:A.handled=none)(hp:s.heap.IsTupleIter p t n)(ht:s.heap.IsTuple t xs)(hv:xs[n]? = none)
  (q:∀ h' e,Heap.ExtBut p s.heap h'→(∃ o,h'.get? e=some o∧o.cls = .type "StopIteration")→E (.ref e) { s with heap:=h' }):wpAny (model prog w) A (Builtin.SmallTypes.nextOf (.ref p)) Q E s:=by
 obtain⟨ob,e1,e2,e3⟩:=id hp
 obtain⟨ot,f1,_,cap,f2⟩:=ht
 unfold Builtin.SmallTypes.nextOf
 refine Lw (wpAny_callSpecial?_slot (name:=Str.ofString "__next__") hp.typeIs F.slot_tuple_iterator_next (wpAny_call_entry F.slot_tuple_iterator_next hp.typeIs F.entry_tuple_iterator_next ?_ (F.args_tuple_iterator_next_1 _)))
 show wpAny _ _ (field (.ref p) 0 >>= _) _ _ s
 refine Lw (wpAny_field e1 e3 (x:=.ref t) rfl ?_)
 show wpAny _ _ (if (Value.ref t == Value.none)=true then _ else _) _ _ s
 rw[if_neg (fun z:(Value.ref t == Value.none)=true=>nomatch z)]
 show wpAny _ _ (field (.ref p) 1 >>= _) _ _ s
 refine Lw (wpAny_field e1 e3 (x:=.int n 0) rfl ?_)
 show wpAny _ _ (seqItems? (.ref t) >>= _) _ _ s
 refine Lw (wpAny_seqItems f1 f2 ?_)
 simp only[Mp,hv]
 refine Lw (wpAny_rule (Lw (wpAny_setField e1 e3 (by simp) ?_)))
 show wpAny _ _ (newExc (.type "StopIteration") [] >>= _) _ _ _
 refine Lw ?_;simp only[newExc,newTuple]
 refine Lw (wpAny_newObj_type ?_ (by size_fits));refine Lw (m:=firstArgMember _ _) (wpAny_of_eq (a:=Value.none) (by first|rfl|(simp only[firstArgMember];rfl)) ?_)
 refine wpAny_newObj_type ?_ (by size_fits);simp only[raiseNew];refine Lw (wpAny_handled ?_)
 first|rw[show A.in1.handled=none from hA]|rw[hA]
 refine Lw (LA (wpAny_throw (q _ _ (((Heap.SameBut.update ..).extBut.push _).push _) ⟨_,LC _ rfl,rfl⟩)))
theorem N6{k:Bool}{p a:Addr}{n:Nat}{xs:Array Value}{v:Value}{Q:Value→Shared→Prop}(hp:SI k s.heap p a n)(ha:SS k s.heap a xs)(hv:xs[n]? = some v)
  (q:∀ h',SI k h' p a (n+1)→Heap.SameBut p s.heap h'→Q v { s with heap:=h' }):wpAny (model prog w) A (Builtin.SmallTypes.nextOf (.ref p)) Q E s:=by
 cases k with
 | true=>exact wpAny_nextOf_list_item hp ha hv q
 | false=>exact qX hp ha hv q
theorem gW{k:Bool}{p a:Addr}{n:Nat}{xs:Array Value}{Q:Value→Shared→Prop}(hA:A.handled=none)(hp:SI k s.heap p a n)(ha:SS k s.heap a xs)(hv:xs[n]? = none)
  (q:∀ h' e,Heap.ExtBut p s.heap h'→(∃ o,h'.get? e=some o∧o.cls = .type "StopIteration")→E (.ref e) { s with heap:=h' }):wpAny (model prog w) A (Builtin.SmallTypes.nextOf (.ref p)) Q E s:=by
 cases k with
 | true=>exact wpAny_nextOf_list_end hA hp ha hv q
 | false=>exact ud hA hp ha hv q
theorem SI.but{k:Bool}{h h':Heap}{it a b:Addr}{i:Nat}(x:SI k h it a i)(e:Heap.ExtBut b h h')(n:it≠b):SI k h' it a i:=x.at fun o z=>e it o n z
theorem SS.but{k:Bool}{h h':Heap}{a b:Addr}{xs:Array Value}(x:SS k h a xs)(e:Heap.ExtBut b h h')(n:a≠b):SS k h' a xs:=x.at fun o z=>e a o n z
theorem xK{z TI TO p1 p2 l1 l2:Addr}{c1 c2:Bool}{n1 n2:Nat}{xs ys:Array Value}{v1 v2 u1 u2:Value}{Q:Option Value→Shared→Prop}(D:ZipApart z TI TO p1 p2 l1 l2)
  (iz:IsZip s.heap z TI TO .none) (iI:IsPair s.heap TI (.ref p1) (.ref p2)) (iO:IsPair s.heap TO u1 u2) (g1:SI c1 s.heap p1 l1 n1) (g2:SI c2 s.heap p2 l2 n2) (m1:SS c1 s.heap l1 xs) (m2:SS c2 s.heap l2 ys) (w1:xs[n1]? = some v1) (w2:ys[n2]? = some v2)
  (q:∀ h',IsZip h' z TI TO (rawInt s.heap.objs.size)→IsPair h' TO v1 v2→SI c1 h' p1 l1 (n1+1)→SI c2 h' p2 l2 (n2+1)→IsPair h' s.heap.objs.size v1 v2→h'.objs.size=s.heap.objs.size+1 →
   (∀ b o,b≠z→b≠TO→b≠p1→b≠p2→s.heap.get? b=some o→h'.get? b=some o)→Q (some (.ref s.heap.objs.size)) { s with heap:=h' }):wpAny (model prog w) A (pyNext (.ref z)) Q E s:=by
 have ty:s.TypeIs (.ref z) "zip" := ⟨_,iz,rfl⟩
 unfold pyNext
 refine Lw (wpAny_attempt (wpAny_callSpecial?_slot (name:=Str.ofString "__next__") ty F.slot_zip_next (wpAny_call_entry F.slot_zip_next ty F.entry_zip_next ?_ (F.args_zip_next_1 _))))
 show wpAny _ _ (field (.ref z) 2 >>= _) _ _ _
 refine Lw (wpAny_field iz rfl (x:=.bool false) rfl ?_)
 show wpAny _ _ (field (.ref z) 3 >>= _) _ _ _
 refine Lw (wpAny_field iz rfl (x:=.ref TI) rfl (Lw (wpAny_seqItems iI rfl ?_)))
 show wpAny _ _ (Builtin.SmallTypes.ownedTupleIsFree (.ref z) >>= _) _ _ _
 refine Lw ?_;unfold Builtin.SmallTypes.ownedTupleIsFree
 refine Lw (wpAny_field iz rfl (x:=.none) rfl (LA ?_));simp only[if_true]
 refine Lw (wpAny_rule (Lw (wpAny_field iz rfl (x:=.ref TO) rfl (Lw (wpAny_setField_rec iz (by simp) fun ha za sa=>?_)))))
 replace za:IsZip ha z TI TO .ellipsis:=za
 refine Lw ?_;simp only[NK,NW,Ny,Oe]
 refine Lw (Lw (wpAny_onRaise ?_))
 show wpAny _ _ (Builtin.SmallTypes.nextOf (.ref p1) >>= _) _ _ _
 refine Lw (N6 (g1.but sa.extBut D.i1z) (m1.but sa.extBut D.l1z) w1 fun hb gb sb=>LA ?_)
 have oB:IsPair hb TO u1 u2:=sb.extBut _ _ D.TOi1 (sa.extBut _ _ D.TOz iO)
 refine Lw (wpAny_seqItems oB rfl (Lw (wpAny_updateSeq_pair oB fun hc oC sc=>?_)))
 replace oC:IsPair hc TO v1 u2:=oC
 refine Lw (wpAny_letGo (LA (Lw (Lw (wpAny_onRaise ?_)))))
 show wpAny _ _ (Builtin.SmallTypes.nextOf (.ref p2) >>= _) _ _ _
 refine Lw (N6 (((g2.but sa.extBut D.i2z).but sb.extBut D.i12.symm).but sc.extBut D.TOi2.symm) (((m2.but sa.extBut D.l2z).but sb.extBut D.l2i1).but sc.extBut D.l2TO) w2 fun hd gd sd=>LA ?_)
 have oD:IsPair hd TO v1 u2:=sd.extBut _ _ D.TOi2 oC
 refine Lw (wpAny_seqItems oD rfl (Lw (wpAny_updateSeq_pair oD fun he oE se=>?_)))
 replace oE:IsPair he TO v1 v2:=oE
 refine Lw (wpAny_letGo (LA (LA (Lw (wpAny_seqItems oE rfl (Lw (wpAny_newTuple ?_)))))))
 have zs:he.objs.size=s.heap.objs.size:=by rw[se.1,sd.1,sc.1,sb.1,sa.1]
 have zE:IsZip he z TI TO .ellipsis:=se.extBut _ _ D.TOz.symm (sd.extBut _ _ D.i2z.symm (sc.extBut _ _ D.TOz.symm (sb.extBut _ _ D.i1z.symm za)))
 have kE:∀ b o,b≠z→b≠TO→b≠p1→b≠p2→s.heap.get? b=some o→he.get? b=some o:=fun b o b1 b2 b3 b4 e=>se.extBut _ _ b2 (sd.extBut _ _ b4 (sc.extBut _ _ b2 (sb.extBut _ _ b3 (sa.extBut _ _ b1 e))))
 have gE1:SI c1 he p1 l1 (n1+1):=((gb.but sc.extBut D.TOi1.symm).but sd.extBut D.i12).but se.extBut D.TOi1.symm
 have gE2:SI c2 he p2 l2 (n2+1):=gd.but se.extBut D.TOi2.symm
 have ltz:z<he.objs.size:=LH zE
 show wpAny _ _ (Builtin.SmallTypes.ownedTupleHandOut (.ref z) (.ref he.objs.size) >>= _) _ _ _
 refine Lw ?_;unfold Builtin.SmallTypes.ownedTupleHandOut
 refine Lw (wpAny_setField_rec (Lx _ zE) (by simp) fun hf zf sf=>?_)
 replace zf:IsZip hf z TI TO (rawInt he.objs.size):=zf
 refine wpAny_setField_rec zf (by simp) fun hg zg sg=>?_
 replace zg:IsZip hg z TI TO (rawInt he.objs.size):=zg
 have lift:∀ b o,b≠z→he.get? b=some o→hg.get? b=some o:=fun b o b1 e=>sg.extBut _ _ b1 (sf.extBut _ _ b1 (Lx _ e))
 have tG:IsPair hg he.objs.size v1 v2:=sg.extBut _ _ (Mm ltz) (sf.extBut _ _ (Mm ltz) (LC _ rfl))
 have zz:hg.objs.size=he.objs.size+1:=by rw[sg.1,sf.1,Mg]
 rw[zs]at zg tG zz
 refine LA ⟨_,rfl,LA ?_⟩
 show Q (some (.ref he.objs.size)) _
 rw[zs]
 exact q hg zg (lift _ _ D.TOz oE) (gE1.at fun o e=>lift _ o D.i1z e) (gE2.at fun o e=>lift _ o D.i2z e) tG zz fun b o b1 b2 b3 b4 e=>lift b o b1 (kE b o b1 b2 b3 b4 e)
theorem CG{z TI TO p1 p2 l1 l2:Addr}{c1 c2:Bool}{n1 n2:Nat}{xs ys:Array Value}{u1 u2:Value}{Q:Option Value→Shared→Prop}(hA:A.handled=none)(D:ZipApart z TI TO p1 p2 l1 l2)
  (iz:IsZip s.heap z TI TO .none) (iI:IsPair s.heap TI (.ref p1) (.ref p2)) (iO:IsPair s.heap TO u1 u2) (g1:SI c1 s.heap p1 l1 n1) (g2:SI c2 s.heap p2 l2 n2) (m1:SS c1 s.heap l1 xs) (m2:SS c2 s.heap l2 ys) (fin:xs[n1]? = none∨ys[n2]? = none)
  (q:∀ h',(∀ b o,b≠z→b≠TO→b≠p1→b≠p2→s.heap.get? b=some o→h'.get? b=some o)→Q none { s with heap:=h' }):wpAny (model prog w) A (pyNext (.ref z)) Q E s:=by
 have ty:s.TypeIs (.ref z) "zip" := ⟨_,iz,rfl⟩
 unfold pyNext
 have out:∀(h':Heap) (e:Addr),(∀ b o,b≠z→b≠TO→b≠p1→b≠p2→s.heap.get? b=some o→h'.get? b=some o)→(∃ o,h'.get? e=some o∧o.cls = .type "StopIteration") →
   wpAny (model prog w) A (do if ← isInstance (.ref e) (.type "StopIteration")then pure none else throw (.ref e):Sem (Option Value)) Q E { s with heap:=h' }:=fun h' e k ⟨o,e1,e2⟩ =>
  Lw (wpAny_isInstance (T := "StopIteration") (b:=true) ⟨o,e1,e2⟩ isSubtype_stop (LA (q h' k)))
 refine Lw (wpAny_attempt (wpAny_callSpecial?_slot (name:=Str.ofString "__next__") ty F.slot_zip_next (wpAny_call_entry F.slot_zip_next ty F.entry_zip_next ?_ (F.args_zip_next_1 _))))
 show wpAny _ _ (field (.ref z) 2 >>= _) _ _ _
 refine Lw (wpAny_field iz rfl (x:=.bool false) rfl ?_)
 show wpAny _ _ (field (.ref z) 3 >>= _) _ _ _
 refine Lw (wpAny_field iz rfl (x:=.ref TI) rfl (Lw (wpAny_seqItems iI rfl ?_)))
 show wpAny _ _ (Builtin.SmallTypes.ownedTupleIsFree (.ref z) >>= _) _ _ _
 refine Lw ?_;unfold Builtin.SmallTypes.ownedTupleIsFree
 refine Lw (wpAny_field iz rfl (x:=.none) rfl (LA ?_));simp only[if_true]
 refine Lw (wpAny_rule (Lw (wpAny_field iz rfl (x:=.ref TO) rfl (Lw (wpAny_setField_rec iz (by simp) fun ha za sa=>?_)))))
 replace za:IsZip ha z TI TO .ellipsis:=za
 refine Lw ?_;simp only[NK,NW,Ny,Oe]
 refine Lw (Lw (wpAny_onRaise ?_))
 show wpAny _ _ (Builtin.SmallTypes.nextOf (.ref p1) >>= _) _ _ _
 cases w1:xs[n1]? with
 | none =>
  refine Lw (gW hA (g1.but sa.extBut D.i1z) (m1.but sa.extBut D.l1z) w1 fun hb e sb zz=>?_)
  obtain⟨oe,oe1,oe2⟩:=zz
  have zb:IsZip hb z TI TO .ellipsis:=sb _ _ D.i1z.symm za
  have nz:e≠z:=fun y=>by subst y;rw[zb]at oe1;cases oe1;simp at oe2
  refine wpAny_setField_rec zb (by simp) fun hc _ sc=>out hc e (fun b o b1 _ b3 _ y=>sc.extBut _ _ b1 (sb _ _ b3 (sa.extBut _ _ b1 y))) ⟨oe,sc.extBut _ _ nz oe1,oe2⟩
 | some v1 =>
  have w2:ys[n2]? = none:=fin.resolve_left (by rw[w1];exact fun y=>nomatch y)
  refine Lw (N6 (g1.but sa.extBut D.i1z) (m1.but sa.extBut D.l1z) w1 fun hb gb sb=>LA ?_)
  have oB:IsPair hb TO u1 u2:=sb.extBut _ _ D.TOi1 (sa.extBut _ _ D.TOz iO)
  refine Lw (wpAny_seqItems oB rfl (Lw (wpAny_updateSeq_pair oB fun hc oC sc=>?_)))
  refine Lw (wpAny_letGo (LA (Lw (Lw (wpAny_onRaise ?_)))))
  show wpAny _ _ (Builtin.SmallTypes.nextOf (.ref p2) >>= _) _ _ _
  refine Lw (gW hA (((g2.but sa.extBut D.i2z).but sb.extBut D.i12.symm).but sc.extBut D.TOi2.symm) (((m2.but sa.extBut D.l2z).but sb.extBut D.l2i1).but sc.extBut D.l2TO) w2 fun hd e sd zz=>?_)
  obtain⟨oe,oe1,oe2⟩:=zz
  have zd:IsZip hd z TI TO .ellipsis:=sd _ _ D.i2z.symm (sc.extBut _ _ D.TOz.symm (sb.extBut _ _ D.i1z.symm za))
  have nz:e≠z:=fun y=>by subst y;rw[zd]at oe1;cases oe1;simp at oe2
  refine wpAny_setField_rec zd (by simp) fun he _ se=>out he e (fun b o b1 b2 b3 b4 y=>se.extBut _ _ b1 (sd _ _ b4 (sc.extBut _ _ b2 (sb.extBut _ _ b3 (sa.extBut _ _ b1 y))))) ⟨oe,se.extBut _ _ nz oe1,oe2⟩
end
noncomputable abbrev itO(k:Bool)(a:Addr):Obj:={ cls:=.type (if k then "list_iterator" else "tuple_iterator"),data:=.fields #[.ref a,.int 0 0] }
noncomputable abbrev zA(k1:Bool)(h:Heap)(l1:Addr):Heap:=h.push (itO k1 l1)
noncomputable abbrev zB(k1 k2:Bool)(h:Heap)(l1 l2:Addr):Heap:=(zA k1 h l1).push (itO k2 l2)
noncomputable abbrev zC(k1 k2:Bool)(h:Heap)(l1 l2:Addr):Heap:=(zB k1 k2 h l1 l2).push { cls:=.type "tuple",data:=.seq #[.ref h.objs.size,.ref (zA k1 h l1).objs.size] }
noncomputable abbrev zD(k1 k2:Bool)(h:Heap)(l1 l2:Addr):Heap:=(zC k1 k2 h l1 l2).push { cls:=.type "tuple",data:=.seq #[.none,.none] }
noncomputable abbrev zE(k1 k2:Bool)(h:Heap)(l1 l2:Addr):Heap:=(zD k1 k2 h l1 l2).push { cls:=.type "zip",data:=.fields #[.none,.bool false,.bool false,.ref (zB k1 k2 h l1 l2).objs.size,.ref (zC k1 k2 h l1 l2).objs.size] }
set_option maxHeartbeats 2000000 in
theorem CF(k1 k2:Bool)(l1 l2:Addr)(xs ys:Array Value) :
  Meets (Builtin.«zip.__new__» ⟨[.type "zip",.ref l1,.ref l2],[]⟩) (fun _ R s=>SS k1 s.heap l1 xs∧SS k2 s.heap l2 ys∧R (.ok (.ret (.ref (zD k1 k2 s.heap l1 l2).objs.size))) { s with heap:=zE k1 k2 s.heap l1 l2 }) :=
 .of_wp fun prog w A R s h=>by
  obtain⟨hp,g,d,tk,os⟩:=s
  obtain⟨ha,hb,h⟩:=h
  have hsub:=sub_zip
  cases k1 with
  | true =>
   have a1:Heap.IsList (Shared.heap ⟨hp,g,d,tk,os⟩) l1 xs:=ha
   cases k2 with
   | true =>
    have a2:Heap.IsList (Shared.heap ⟨hp.push { cls:=.type "list_iterator",data:=.fields #[.ref l1,.int 0 0] },g,d,tk,os⟩) l2 ys:=Heap.IsList.push hb _
    wp_walk using wpAny_pyIter_list a1,wpAny_pyIter_list a2
    exact⟨_,rfl,h⟩
   | false =>
    have a2:Heap.IsTuple (Shared.heap ⟨hp.push { cls:=.type "list_iterator",data:=.fields #[.ref l1,.int 0 0] },g,d,tk,os⟩) l2 ys:=Heap.IsTuple.push hb _
    wp_walk using wpAny_pyIter_list a1,wpAny_pyIter_tuple a2
    exact⟨_,rfl,h⟩
  | false =>
   have a1:Heap.IsTuple (Shared.heap ⟨hp,g,d,tk,os⟩) l1 xs:=ha
   cases k2 with
   | true =>
    have a2:Heap.IsList (Shared.heap ⟨hp.push { cls:=.type "tuple_iterator",data:=.fields #[.ref l1,.int 0 0] },g,d,tk,os⟩) l2 ys:=Heap.IsList.push hb _
    wp_walk using wpAny_pyIter_tuple a1,wpAny_pyIter_list a2
    exact⟨_,rfl,h⟩
   | false =>
    have a2:Heap.IsTuple (Shared.heap ⟨hp.push { cls:=.type "tuple_iterator",data:=.fields #[.ref l1,.int 0 0] },g,d,tk,os⟩) l2 ys:=Heap.IsTuple.push hb _
    wp_walk using wpAny_pyIter_tuple a1,wpAny_pyIter_tuple a2
    exact⟨_,rfl,h⟩
section
variable {prog:Program} {w:World} {A:Around} {E:Value→Shared→Prop} {s:Shared}
theorem AN{k1 k2:Bool}{l1 l2:Addr}{xs ys:Array Value}{Q:Value→Shared→Prop}(ha:SS k1 s.heap l1 xs)(hb:SS k2 s.heap l2 ys)
  (q:∀ h',IsZip h' (s.heap.objs.size+4) (s.heap.objs.size+2) (s.heap.objs.size+3) .none→IsPair h' (s.heap.objs.size+2) (.ref s.heap.objs.size) (.ref (s.heap.objs.size+1))→IsPair h' (s.heap.objs.size+3) .none .none →
   SI k1 h' s.heap.objs.size l1 0→SI k2 h' (s.heap.objs.size+1) l2 0→h'.objs.size=s.heap.objs.size+5→(∀ b o,s.heap.get? b=some o→h'.get? b=some o)→Q (.ref (s.heap.objs.size+4)) { s with heap:=h' }) :
  wpAny (model prog w) A (call (.type "zip") [.ref l1,.ref l2]) Q E s:=by
 refine callType_new F.called_zip (by decide) (F.typeCall_zip_2 _ _) (F.newCall_zip_2 _ _) (fun obj=>F.args_object_init_3 obj _ _) F.entry_zip_new (CF k1 k2 l1 l2 xs ys) ⟨ha,hb,?_⟩
 have s1:(zA k1 s.heap l1).objs.size=s.heap.objs.size+1:=Mg ..
 have s2:(zB k1 k2 s.heap l1 l2).objs.size=s.heap.objs.size+2:=(Mg ..).trans (by rw[s1])
 have s3:(zC k1 k2 s.heap l1 l2).objs.size=s.heap.objs.size+3:=(Mg ..).trans (by rw[s2])
 have s4:(zD k1 k2 s.heap l1 l2).objs.size=s.heap.objs.size+4:=(Mg ..).trans (by rw[s3])
 have s5:(zE k1 k2 s.heap l1 l2).objs.size=s.heap.objs.size+5:=(Mg ..).trans (by rw[s4])
 have o5:(zE k1 k2 s.heap l1 l2).get? (zD k1 k2 s.heap l1 l2).objs.size=some _:=LC _ rfl
 have up1:∀ b o,(zD k1 k2 s.heap l1 l2).get? b=some o→(zE k1 k2 s.heap l1 l2).get? b=some o:=fun b o e=>Lx _ e
 have o4:(zE k1 k2 s.heap l1 l2).get? (zC k1 k2 s.heap l1 l2).objs.size=some _:=up1 _ _ (LC _ rfl)
 have up2:∀ b o,(zC k1 k2 s.heap l1 l2).get? b=some o→(zE k1 k2 s.heap l1 l2).get? b=some o:=fun b o e=>up1 b o (Lx _ e)
 have o3:(zE k1 k2 s.heap l1 l2).get? (zB k1 k2 s.heap l1 l2).objs.size=some _:=up2 _ _ (LC _ rfl)
 have up3:∀ b o,(zB k1 k2 s.heap l1 l2).get? b=some o→(zE k1 k2 s.heap l1 l2).get? b=some o:=fun b o e=>up2 b o (Lx _ e)
 have o2:(zE k1 k2 s.heap l1 l2).get? (zA k1 s.heap l1).objs.size=some (itO k2 l2):=up3 _ _ (LC _ rfl)
 have up4:∀ b o,(zA k1 s.heap l1).get? b=some o→(zE k1 k2 s.heap l1 l2).get? b=some o:=fun b o e=>up3 b o (Lx _ e)
 have o1:(zE k1 k2 s.heap l1 l2).get? s.heap.objs.size=some (itO k1 l1):=up4 _ _ (LC _ rfl)
 have mk:∀(k:Bool) (b a:Addr),(zE k1 k2 s.heap l1 l2).get? b=some (itO k a)→SI k (zE k1 k2 s.heap l1 l2) b a 0:=fun k b a e=>by cases k<;>exact⟨_,e,rfl,rfl⟩
 show _∧_
 rw[s2,s3,s4]at o5
 rw[s1,s2]at o3
 rw[s3]at o4
 rw[s1]at o2
 rw[s4]
 exact⟨⟨_,o5,rfl⟩,q _ o5 o3 o4 (mk _ _ _ o1) (mk _ _ _ o2) s5 fun b o e=>up4 b o (Lx _ e)⟩
end
end L2
namespace L2
open PySem PySem.Spec PyProof.Rows
section
variable {X:Cx} {pins:List (Addr × Obj)} {σ:St} {H:Hp} {s:Shared} {h':Heap}
theorem Inv.turnedN{t':Nat}{ch:List Addr}(I:Inv X pins σ H s)(k:∀ b o,b∉ch→s.heap.get? b=some o→h'.get? b=some o)(hf:∀ b∈ch,W1 X pins H b):Inv X pins σ H { s with heap:=h',toks:=t' }:=by
 have nit:∀ b u,H b=some u→b∉ch:=fun b u e z=>by rw[(hf b z).1]at e;cases e
 refine I.step (g':=s.gens) (d':=s.drawn) (ch:=ch) (fun b hb=>?_) (fun b o _ _ hc e _=>k b o hc e) (fun b o _ _ hc e _=>⟨o.slots,k b o hc e⟩) (fun _ _ _ _ n=>n)
  (fun b o hc e=>⟨o,k b o hc e⟩) (fun _ _ e=>e) (fun _ _ _ e=>e) (fun b ps e=>⟨#[],by rw[e];simp⟩) (fun m hm=>?_) (fun b u e=>?_) I.bare
 ·obtain⟨_,q1,_,q3,q4,q5⟩:=hf b hb
  exact⟨q3,q1,q4,q5⟩
 ·obtain⟨o,es,ep,ho,r⟩:=hm
  exact⟨o,es,ep,k _ o (fun z=>(hf _ z).2.1 rfl) ho,r⟩
 ·refine(I.hok b u e).stay (fun c v hc q=>k c v ?_ q) (fun _ q=>q) fun _ _ q=>q
  rcases hc with z|z
  ·rw[z];exact nit b u e
  ·exact nit c _ z
end
def SqK(K:Ly)(k:Bool)(H:Hp)(a:Addr)(xs:List V):Prop:=if k=true then SqL K H a xs else SqT K H a xs
theorem Inv.sqk{X:Cx}{pins:List (Addr × Obj)}{σ:St}{H:Hp}{s:Shared}(I:Inv X pins σ H s){k:Bool}{a:Addr}{xs:List V}(h:SqK X.K k H a xs):∃ its:List Value,h8 xs its∧SS k s.heap a its.toArray:=by
 cases k with
 | true =>
  obtain⟨its,r,p,_⟩:=I.list (show SqL X.K H a xs from h)
  exact⟨its,r,p.isList⟩
 | false =>
  obtain⟨its,r,p,_⟩:=I.tuple (show SqT X.K H a xs from h)
  exact⟨its,r,p⟩
theorem Inv.sqk_inj{X:Cx}{pins:List (Addr × Obj)}{σ:St}{H:Hp}{s:Shared}(I:Inv X pins σ H s){k:Bool}{a:Addr}{xs ys:List V}(h:SqK X.K k H a xs)(h2:SqK X.K k H a ys):xs=ys:=by
 cases k with
 | true=>exact I.list_inj (show SqL X.K H a xs from h) (show SqL X.K H a ys from h2)
 | false=>exact I.tuple_inj (show SqT X.K H a xs from h) (show SqT X.K H a ys from h2)
noncomputable def Itz(K:Ly)(k1 k2:Bool)(l1 l2:Addr):It :=
 ⟨fun i H=>∃ xs ys x y,SqK K k1 H l1 xs∧SqK K k2 H l2 ys∧xs[i]? = some x∧ys[i]? = some y,
  fun i H v H'=>∃ T x y,H T=none∧v = .ref T∧H'=upd H T (.tup [x,y])∧(∀ xs,SqK K k1 H l1 xs→xs[i]? = some x)∧∀ ys,SqK K k2 H l2 ys→ys[i]? = some y,
  fun i H=>∃ xs ys,SqK K k1 H l1 xs∧SqK K k2 H l2 ys∧(xs.length≤i∨ys.length≤i)⟩
def Hw(k1 k2:Bool)(z TI TO p1 p2 l1 l2:Addr)(i:Nat)(h:Heap):Prop:=IsZip h z TI TO .none∧IsPair h TI (.ref p1) (.ref p2)∧(∃ a b,IsPair h TO a b)∧SI k1 h p1 l1 i∧SI k2 h p2 l2 i
theorem uc{P:Program}{w:World}{K:Ly}{elts:List Expr}{kx:Nat}{tp:Pos}{k1 k2:Bool}{z TI TO p1 p2 l1 l2:Addr}(D:ZipApart z TI TO p1 p2 l1 l2) :
  mI P w K (.Tuple elts kx tp) (Itz K k1 k2 l1 l2) [z,TI,TO,p1,p2] z (Hw k1 k2 z TI TO p1 p2 l1 l2) where
 mem:=by simp
 obj:=fun i h ⟨iz,iI,⟨a,b,iO⟩,g1,g2⟩ c hc=>by
  simp only[LB,LK,or_false]at hc
  rcases hc with rfl|rfl|rfl|rfl|rfl
  ·exact⟨_,iz,fun v e=>by cases e⟩
  ·exact⟨_,iI,fun v e=>by cases e⟩
  ·exact⟨_,iO,fun v e=>by cases e⟩
  ·exact g1.obj
  ·exact g2.obj
 keep:=fun i h h' ⟨iz,iI,⟨a,b,iO⟩,g1,g2⟩ k=>⟨k z (by simp) _ iz,k TI (by simp) _ iI,⟨a,b,k TO (by simp) _ iO⟩,g1.at fun o e=>k p1 (by simp) o e,g2.at fun o e=>k p2 (by simp) o e⟩
 item:=by
  intro X hP hw hK hc i pins s σ H E I hf st hg
  subst hP hw hK
  obtain⟨iz,iI,⟨a,b,iO⟩,g1,g2⟩:=st
  obtain⟨xs,ys,x,y,q1,q2,hx,hy⟩:=hg
  obtain⟨is1,r1,m1⟩:=I.sqk q1
  obtain⟨is2,r2,m2⟩:=I.sqk q2
  obtain⟨u1,hu1,ru1⟩:=r1.get hx
  obtain⟨u2,hu2,ru2⟩:=r2.get hy
  refine xK D iz iI iO g1 g2 m1 m2 (v1:=u1) (v2:=u2) (by simpa using hu1) (by simpa using hu2) fun h' a1 a2 a3 a4 a5 a6 kk=>?_
  refine⟨_,rfl,?_⟩
  refine wpAny_letOwnedTupleGo_zip (s:={ s with heap:=h' }) a1 fun h2 b1 b2=>?_
  have lt:∀{c o},s.heap.get? c=some o→c≠s.heap.objs.size:=fun e=>LV (LH e)
  have nz:s.heap.objs.size≠z:=Ne.symm (lt iz)
  have I1:Inv X pins σ (upd H s.heap.objs.size (.tup [x,y])) { s with heap:=s.heap.push { cls:=.type "tuple",data:=.seq #[u1,u2] },toks:=s.toks } :=
   I.laid (o:=.tup [x,y]) (fun b ob q=>Lx _ q) (LQ _) ⟨(show 2≤sizeLine by decide),[u1,u2],.cons ru1 (.cons ru2 .nil),IsTup.new _ _⟩
  have nfp:∀ c∈[z,TI,TO,p1,p2],c≠s.heap.objs.size:=fun c hc=>by
   simp only[LB,LK,or_false]at hc
   rcases hc with rfl|rfl|rfl|rfl|rfl
   ·exact lt iz
   ·exact lt iI
   ·exact lt iO
   ·obtain⟨o,e,_⟩:=g1.obj;exact lt e
   ·obtain⟨o,e,_⟩:=g2.obj;exact lt e
  have hf':∀ c∈[z,TI,TO,p1,p2],W1 X pins (upd H s.heap.objs.size (.tup [x,y])) c:=fun c hc=>by
   obtain⟨f0,f1⟩:=hf c hc
   exact⟨by rw[g7 (nfp c hc)];exact f0,f1⟩
  have I2:Inv X pins σ (upd H s.heap.objs.size (.tup [x,y])) { s with heap:=h2,toks:=s.toks }:=by
   refine Inv.turnedN (s:={ s with heap:=s.heap.push { cls:=.type "tuple",data:=.seq #[u1,u2] },toks:=s.toks }) (t':=s.toks) (h':=h2) (ch:=[z,TI,TO,p1,p2]) I1 (fun c o hcn e=>?_) hf'
   simp only[LB,LK,or_false,not_or]at hcn
   obtain⟨n1,n2,n3,n4,n5⟩:=hcn
   refine b2.extBut c o n1 ?_
   by_cases hcs:c=s.heap.objs.size
   ·subst hcs
    have e':(s.heap.push { cls:=.type "tuple",data:=.seq #[u1,u2] }).get? s.heap.objs.size=some o:=e
    rw[LC _ rfl]at e'
    cases e'
    exact a5
   ·have e':(s.heap.push { cls:=.type "tuple",data:=.seq #[u1,u2] }).get? c=some o:=e
    have hlt:c<s.heap.objs.size:=by
     have:=LH e'
     rw[Mg]at this
     exact Nat.lt_of_le_of_ne (Nat.le_of_lt_succ this) hcs
    have hold:s.heap.get? c=some o:=by
     have:∃ o',s.heap.get? c=some o':=by
      cases q:s.heap.get? c with
      | some o'=>exact⟨o',rfl⟩
      | none=>exact absurd e' (by rw[Oh _ _ _ hcs];rw[q];exact fun z=>nomatch z)
     obtain⟨o',ho'⟩:=this
     have:=Lx { cls:=.type "tuple",data:=.seq #[u1,u2] } ho'
     rw[e']at this
     cases this;exact ho'
    exact kk c o n1 n3 n4 n5 hold
  refine⟨.ref s.heap.objs.size,_,I2,rfl,⟨_,x,y,I.hok.fresh (LQ _),rfl,rfl,fun zs hz=>by rw[I.sqk_inj hz q1];exact hx,fun zs hz=>by rw[I.sqk_inj hz q2];exact hy⟩,?_,fun c hc=>(hf' c hc).1⟩
  have lift:∀ c o,c≠z→h'.get? c=some o→h2.get? c=some o:=fun c o n e=>b2.extBut c o n e
  exact⟨b1,lift _ _ D.TIz (kk _ _ D.TIz D.TITO D.TIi1 D.TIi2 iI),⟨_,_,lift _ _ D.TOz a2⟩,a3.at fun o e=>lift _ o D.i1z e,a4.at fun o e=>lift _ o D.i2z e⟩
 done:=by
  intro X hP hw hK hc i pins s σ H E I hf st hg
  subst hP hw hK
  obtain⟨iz,iI,⟨a,b,iO⟩,g1,g2⟩:=st
  obtain⟨xs,ys,q1,q2,hx⟩:=hg
  obtain⟨is1,r1,m1⟩:=I.sqk q1
  obtain⟨is2,r2,m2⟩:=I.sqk q2
  have e1:=r1.length
  have e2:=r2.length
  refine CG (I.ok.hd hc) D iz iI iO g1 g2 m1 m2 (hx.elim (fun h=>.inl (by simp;omega)) fun h=>.inr (by simp;omega)) fun h' kk=>⟨rfl,?_⟩
  refine I.turnedN (t':=s.toks) (ch:=[z,TI,TO,p1,p2]) (fun c o hcn e=>?_) hf
  simp only[LB,LK,or_false,not_or]at hcn
  obtain⟨n1,n2,n3,n4,n5⟩:=hcn
  exact kk c o n1 n3 n4 n5 e
 self:=fun _ _ _ _ _ st h=>wpAny_pyIter_zip st.1 h
def Ii(K:Ly)(ta:TA):TI:=fun σ H R=>ta σ H fun vs H1=>∃ k1 k2 l1 l2,vs=[.ref l1,.ref l2]∧(∃ xs,SqK K k1 H1 l1 xs)∧(∃ ys,SqK K k2 H1 l2 ys)∧R (Itz K k1 k2 l1 l2) H1
theorem DH{X:Cx}{elts:List Expr}{kx:Nat}{tp:Pos}{a b:Expr}{ta:TA}{p pos:Pos}(hg:Gl X "zip")(hm:X.mg "zip" = none)(ha:PA X [a,b] ta)
  (hs:starEach [a,b] X.env=[(false,eval a X.env),(false,eval b X.env)]:=by rfl) (hs2:starEach [b] X.env=[(false,eval b X.env)]:=by rfl):PI X (.Tuple elts kx tp) (.Call (.Name "zip" p) [a,b] [] pos) (Ii X.K ta):=by
 intro pins s σ H R I h
 refine Call_ (K2 I hg hm PyProof.Rows.boot_zip (PyProof.Rows.callWith_type1 (thn (ha pos pins s σ H _ I h) fun us s1 ⟨vs,H1,I1,r1,q1⟩=>?_) (by rw[hs,hs2]) (by rw[hs2];rfl)))
 obtain⟨k1,k2,l1,l2,e,⟨xs,q2⟩,⟨ys,q3⟩,q⟩:=q1
 subst e
 cases r1 with
 | cons r rr =>
  cases rr with
  | cons r' rr =>
   cases rr
   cases r
   cases r'
   obtain⟨is1,_,m1⟩:=I1.sqk q2
   obtain⟨is2,_,m2⟩:=I1.sqk q3
   have lt1:l1<s1.heap.objs.size:=by obtain⟨o,e⟩:=m1.obj;exact LH e
   have lt2:l2<s1.heap.objs.size:=by obtain⟨o,e⟩:=m2.obj;exact LH e
   refine AN m1 m2 fun h' a1 a2 a3 a4 a5 a6 kk=>?_
   refine wpAny_pyIter_zip (s:={ s1 with heap:=h' }) a1 ?_
   have D:ZipApart (s1.heap.objs.size+4) (s1.heap.objs.size+2) (s1.heap.objs.size+3) s1.heap.objs.size (s1.heap.objs.size+1) l1 l2:=PyProof.Rows.zipApart_new lt1 lt2
   refine⟨s1.heap.objs.size+4,_,_,_,H1,rfl,I1.kept (t':=s1.toks) kk,uc D,⟨a1,a2,⟨_,_,a3⟩,a4,a5⟩,fun c hc=>?_,q⟩
   have hge:s1.heap.objs.size≤c:=by
    simp only[LB,LK,or_false]at hc
    rcases hc with rfl|rfl|rfl|rfl|rfl
    ·exact Mj _ _
    ·exact Mj _ _
    ·exact Mj _ _
    ·exact LQ _
    ·exact Mj _ _
   exact I1.fpOk hge (I1.hok.fresh hge)
section
variable {X:Cx} {pins:List (Addr × Obj)} {σ:St} {H:Hp} {s:Shared} {p:Addr}
theorem Inv.swap{a b:HO}(I:Inv X pins σ H s)(hp:H p=some a)(ha:(∀ x,a ≠ .own x)∧∀ xs,a ≠ .tup xs)(h1:∀ xs,X.H₀ p≠some (.tup xs))(h2:∀ o u,X.H₀ p≠some (.frz o u))(h3:∀ ps,X.H₀ p≠some (.tbl ps))
  (new:A0 X.prog X.w H s.heap p b):Inv X pins σ (upd H p b) s:=by
 have ne:∀{c:Addr},H c=none→c≠p:=fun{c} q z=>by subst z;rw[hp]at q;cases q
 have st:∀{c:Addr} {o:HO},A0 X.prog X.w H s.heap c o→A0 X.prog X.w (upd H p b) s.heap c o:=fun{c o} x =>
  x.stay (fun _ _ _ q=>q) (fun d q=>by
   have:d≠p:=by intro z;subst z;rw[hp]at q;cases q;exact ha.1 _ rfl
   rw[g7 this];exact q) fun d xs q=>by
   have:d≠p:=by intro z;subst z;rw[hp]at q;cases q;exact ha.2 _ rfl
   rw[g7 this];exact q
 refine⟨I.ok,I.os,I.bare,⟨I.base.keep,I.base.slot,fun c o e n x=>?_,I.base.there,fun c xs q=>?_,fun c o u q=>?_,fun c ps q=>?_⟩,I.loc,I.cell,?_,fun x c e=>?_,fun q hq=>?_,fun c o q=>?_,I.len⟩
 ·have:=I.base.free c o e n x
  rw[g7 (ne this)];exact this
 ·have:c≠p:=by intro z;subst z;exact h1 xs q
  rw[g7 this];exact I.base.tups c xs q
 ·have:c≠p:=by intro z;subst z;exact h2 o u q
  rw[g7 this];exact I.base.frzs c o u q
 ·have:c≠p:=by intro z;subst z;exact h3 ps q
  rw[g7 this];exact I.base.tbls c ps q
 ·rw[g7 (ne I.free)];exact I.free
 ·rw[g7 (ne (I.freeC x c e))];exact I.freeC x c e
 ·obtain⟨a1,a2,a3,a4,a5⟩:=I.pin q hq
  exact⟨a1,by rw[g7 (ne a2)];exact a2,a3,a4,a5⟩
 ·by_cases z:c=p
  ·subst z;rw[i3]at q;cases q;exact st new
  ·rw[g7 z]at q;exact st (I.hok c o q)
theorem Inv.freeze{xs:List V}(I:Inv X pins σ H s)(hp:H p=some (.lst xs)):∃ o,Inv X pins σ (upd H p (.frz o (.lst xs))) s:=by
 have k:=I.hok p _ hp
 obtain⟨z,its,n,r,e⟩:=id k
 refine⟨_,I.swap hp ⟨fun _ q=>(nomatch q),fun _ q=>(nomatch q)⟩ (fun ys q=>?_) (fun o u q=>?_) (fun ps q=>?_) ⟨e,k⟩⟩
 ·rw[I.base.tups p ys q]at hp;cases hp
 ·rw[I.base.frzs p o u q]at hp;cases hp
 ·obtain⟨more,q⟩:=I.base.tbls p ps q;rw[q]at hp;cases hp
structure CD(X:Cx)(p:Addr):Prop where
 t:∀ xs,X.H₀ p≠some (.tup xs)
 f:∀ o u,X.H₀ p≠some (.frz o u)
 b:∀ ps,X.H₀ p≠some (.tbl ps)
theorem Inv.loose{xs:List V}(I:Inv X pins σ H s)(hp:H p=some (.lst xs)):CD X p :=
 ⟨fun ys q=>(by rw[I.base.tups p ys q]at hp;cases hp),fun o u q=>(by rw[I.base.frzs p o u q]at hp;cases hp),fun ps q=>(by obtain⟨more,q⟩:=I.base.tbls p ps q;rw[q]at hp;cases hp)⟩
def FO(t:TE):TE:=fun σ H Q=>t σ H fun v H1=>∃ p xs,v = .ref p∧H1 p=some (.lst xs)∧∀ o,Q v (upd H1 p (.frz o (.lst xs)))
theorem aY{x:Expr}{t:TE}(h:PE X x t):PE X x (FO t):=fun pins s σ H Q I q =>
 wpAny_mono (h pins s σ H _ I q) (fun u s1 zz=>by
  obtain⟨v,H1,I1,r,p,xs,e,hp,q1⟩:=zz
  obtain⟨o,I2⟩:=I1.freeze hp
  exact⟨v,_,I2,r,q1 o⟩) fun _ _ z=>z
theorem Dz{i:Nat}{y:Str}{pos':Pos}{x:Expr}{t:TE}(h:PU X i y pos' x t):PU X i y pos' x (FO t):=fun pins s σ H Q I q =>
 wpAny_mono (h pins s σ H _ I q) (fun u s1 zz=>by
  obtain⟨v,H1,I1,p,xs,e,hp,q1⟩:=zz
  obtain⟨o,I2⟩:=I1.freeze hp
  exact⟨v,_,I2,q1 o⟩) fun _ _ z=>z
def FN(t:TE):TE:=fun σ H Q=>t σ H fun v H1=>(∃ p xs,v = .ref p∧H1 p=some (.lst xs)∧∀ o,Q v (upd H1 p (.frz o (.lst xs))))∨Q v H1
theorem zP{x:Expr}{t:TE}(h:PE X x t):PE X x (FN t):=fun pins s σ H Q I q =>
 wpAny_mono (h pins s σ H _ I q) (fun u s1 zz=>by
  obtain⟨v,H1,I1,r,z⟩:=zz
  rcases z with⟨p,xs,e,hp,q1⟩|q1
  ·obtain⟨o,I2⟩:=I1.freeze hp
   exact⟨v,_,I2,r,q1 o⟩
  ·exact⟨v,H1,I1,r,q1⟩) fun _ _ z=>z
noncomputable def aG(p:Addr)(xs:List V):HO:=.ext fun h=>xs.length≤sizeLine∧∃(its:List Value) (n:Nat),h8 xs its∧h.get? p=some { cls:=.type "list",data:=.seq its.toArray n }
theorem Inv.hide{xs:List V}(I:Inv X pins σ H s)(hp:H p=some (.lst xs)):Inv X pins σ (upd H p (aG p xs)) s:=by
 have k:=I.hok p _ hp
 have l:=I.loose hp
 obtain⟨z,its,n,r,e⟩:=id k
 exact I.swap hp ⟨fun _ q=>(nomatch q),fun _ q=>(nomatch q)⟩ l.t l.f l.b ⟨⟨z,its,n,r,e⟩,⟨_,e⟩,fun h1 h2 ⟨z,its,n,r,e⟩ k=>⟨z,its,n,r,k _ e⟩⟩
theorem Inv.show'{xs:List V}(I:Inv X pins σ H s)(l:CD X p)(hp:H p=some (aG p xs)):Inv X pins σ (upd H p (.lst xs)) s:=by
 obtain⟨k,_,_⟩:=I.hok p _ hp
 exact I.swap hp ⟨fun _ q=>(nomatch q),fun _ q=>(nomatch q)⟩ l.t l.f l.b k
def ui(p:Addr)(t:TE):TE:=fun σ H Q=>∃ xs,H p=some (.lst xs)∧t σ (upd H p (aG p xs)) fun v H1=>H1 p=some (aG p xs)∧Q v (upd H1 p (.lst xs))
theorem qi{x:Expr}{t:TE}(h:PE X x t):PE X x fun σ H Q=>∃ p,ui p t σ H Q:=fun pins s σ H Q I ⟨p,xs,hp,q⟩ =>
 wpAny_mono (h pins s σ _ _ (I.hide hp) q) (fun u s1 ⟨v,H1,I2,r,hp1,q1⟩=>⟨v,_,I2.show' (I.loose hp) hp1,r,q1⟩) fun _ _ z=>z
def ug(p:Addr)(t:TT):TT:=fun σ H Q=>∃ xs,H p=some (.lst xs)∧t σ (upd H p (aG p xs)) fun v H1=>H1 p=some (aG p xs)∧Q v (upd H1 p (.lst xs))
theorem gh{ifs:List Expr}{t:TT}(h:br X ifs t):br X ifs fun σ H Q=>∃ p,ug p t σ H Q:=fun pins s σ H Q I ⟨p,xs,hp,q⟩ =>
 wpAny_mono (h pins s σ _ _ (I.hide hp) q) (fun u s1 ⟨H1,I2,hp1,q1⟩=>⟨_,I2.show' (I.loose hp) hp1,q1⟩) fun _ _ z=>z
def uh(p:Addr)(g:TG):TG:=fun v σ H Q=>∃ xs,H p=some (.lst xs)∧g v σ (upd H p (aG p xs)) fun σ1 H1=>H1 p=some (aG p xs)∧Q σ1 (upd H1 p (.lst xs))
theorem qh{tg:Expr}{g:TG}(h:PG X tg g):PG X tg fun v σ H Q=>∃ p,uh p g v σ H Q:=fun pins s σ H v u Q I r ⟨p,xs,hp,q⟩ =>
 wpAny_mono (h pins s σ _ v u _ (I.hide hp) r q) (fun u s1 ⟨σ1,H1,I2,hp1,q1⟩=>⟨σ1,_,I2.show' (I.loose hp) hp1,q1⟩) fun _ _ z=>z
end
section
variable {X:Cx} {pos:Pos}
end
section
variable {X:Cx} {e:Expr} {te:TE} {st:Expr} {ts:TO} {pos p2:Pos}
end
section
variable {prog:Program} {w:World} {A:Around} {E:Value→Shared→Prop} {s:Shared}
noncomputable abbrev Iz(prog:Program)(w:World)(A:Around)(R:Result→Shared→Prop):Fin→Shared→Prop:=fun z s'=>match z with|.done f=>R (.ok f) s'|.again c'=>c'.quiet=true∧codeAny (model prog w) A c' R s'
end
section
variable {X:Cx}
end
theorem h8.take':∀{xs:List V} {us:List Value} (k:Nat),h8 xs us→h8 (xs.take k) (us.take k)
 | _,_,0,_=>.nil
 | _,_,_+1,.nil=>.nil
 | _,_,k+1,.cons r t=>.cons r (h8.take' k t)
theorem h8.drop':∀{xs:List V} {us:List Value} (k:Nat),h8 xs us→h8 (xs.drop k) (us.drop k)
 | _,_,0,h=>h
 | _,_,_+1,.nil=>.nil
 | _,_,k+1,.cons _ t=>h8.drop' k t
section
variable {X:Cx}
noncomputable def qf:V→List V→Hp→VK→Prop:=fun x vs H Q=>∃ l xs y,∃ k:Nat,x = .ref l∧vs=[.int (k:Int),y]∧H l=some (.lst xs)∧k≤xs.length∧xs.length<sizeLine∧Q .non (upd H l (.lst (xs.take k++y :: xs.drop k)))
theorem rG:MtM X "list.insert" qf:=by
 intro pins s σ H x vs v us Q I rx rv h
 obtain⟨l,xs,y,k,rfl,rfl,hH,hk,hz,q⟩:=h
 cases rx
 ·obtain⟨u1,u,rfl,⟨t,rfl⟩,ru⟩:=pT rv
  obtain⟨z,its,n,r,hl,e⟩:=I.lstM hH
  have hlen:=r.length
  have hb:(-(2 ^ 63:Int)≤(k:Int))∧(k:Int)<2 ^ 63:=by
   have h1:k<sizeLine:=LR hk hz
   have h2:(sizeLine:Int)≤2 ^ 62:=by decide +kernel
   omega
  have hf:Builtin.List.listFitsIndex (k:Int)=true:=by
   unfold Builtin.List.listFitsIndex
   rw[decide_eq_true hb.1,decide_eq_true hb.2];rfl
  generalize hx:(k:Int)=x at *
  refine call_meets F.slot_list_insert ⟨_,e,rfl⟩ F.entry_list_insert (F.args_list_insert_3 _ _ _) (AutoSeq1.list_insert_list_int_val_1 l its.toArray n x t u (by rw[hf];exact LO) (by rw[LN];omega)) ⟨e,?_⟩
  refine⟨.non,_,I.lset (its':=its.take k++u :: its.drop k) hH e ?_ ((r.take' k).append (.cons ru (r.drop' k))) ?_,rfl,q⟩
  ·have ek:(if x<0 then(x+(its.toArray.size:Int)).toNat else min x.toNat its.toArray.size)=k:=by
    rw[if_neg (by omega),LN];omega
   show(its.toArray.extract 0 (if x<0 then(x+(its.toArray.size:Int)).toNat else min x.toNat its.toArray.size)).push u++its.toArray.extract (if x<0 then(x+(its.toArray.size:Int)).toNat else min x.toNat its.toArray.size)=_
   rw[ek]
   apply Array.toList_inj.mp
   simp
   exact MS (by rw[MI];exact LQ _)
  ·rw[Mi,Ml,Me,MI];omega
end
section
variable {prog:Program} {w:World} {A:Around} {E:Value→Shared→Prop} {s:Shared}
end
section
variable {prog:Program} {w:World} {A:Around} {E:Value→Shared→Prop} {s:Shared}
end
section
variable {X:Cx}
end
section
variable {prog:Program} {w:World} {A:Around} {E:Value→Shared→Prop} {s:Shared}
end
section
variable {X:Cx}
end
section
variable {prog:Program} {w:World} {A:Around} {E:Value→Shared→Prop} {s:Shared}
theorem ql{h h2:Heap}{a b:Addr}{its:Array Value}(x:h.IsList a its)(hs:Heap.ExtBut b h h2)(ne:a≠b):h2.IsList a its:=x.at fun o e=>hs a o ne e
theorem mj{it l:Addr}{its:Array Value}(hne:l≠it):∀(n i:Nat) (s:Shared) (Q:List Value→Shared→Prop),s.heap.IsListIter it l i→s.heap.IsList l its→i+n≤its.size →
  (∀ h2,h2.IsListIter it l (i+n)→Heap.SameBut it s.heap h2→Q ((its.toList.drop i).take n) { s with heap:=h2 })→wpAny (model prog w) A (draw (.ref it) n) Q E s
 | 0,i,s,Q,hi,_,_,k=>by
  show wpAny _ _ (pure []) Q E s
  refine LA ?_
  simpa using k s.heap hi (Heap.SameBut.refl ..)
 | n+1,i,s,Q,hi,hl,hle,k=>by
  have lt:i<its.size:=by omega
  show wpAny _ _ (pyNext (.ref it) >>= _) Q E s
  refine Lw (wpAny_pyNext_list_item hi hl (x:=its[i]) (by simp[lt]) fun h1 hi1 hs1=>Lw (wpAny_holding ?_))
  refine mj hne n (i+1) _ _ hi1 (ql hl hs1.extBut hne) (by omega) fun h2 hi2 hs2=>LA ?_
  have e:its.toList.drop i=its[i] :: its.toList.drop (i+1):=by simp[Of,lt]
  have z:=k h2 (by rw[show i+(n+1)=i+1+n by omega];exact hi2) (hs1.trans hs2)
  rw[e,NX]at z
  exact z
theorem mN{l:Addr}{its:Array Value}{ts:List (Bool × (Value→Sem Unit))}{Q:Unit→Shared→Prop}(hh:A.handled=none)(hl:s.heap.IsList l its)(hn:ts.length=its.size)(hst:ts.findIdx? (·.1)=none)
  (k:∀ h2,Heap.ExtBut s.heap.objs.size s.heap h2→wpAny (model prog w) A (assignInOrder (ts.map (·.2)) its.toList) Q E { s with heap:=h2 }):wpAny (model prog w) A (unpack (.ref l) ts) Q E s:=by
 have ne:l≠s.heap.objs.size:=by obtain⟨o,ho,_⟩:=hl;exact LV (LH ho)
 unfold unpack
 rw[hn,hst]
 refine Lw (wpAny_holding ?_)
 unfold unpackItems
 refine Lw ?_
 unfold notIterableAtAll
 refine Lw (wpAny_specialOf hl.typeIs F.slot_list_iter.lookup (LA ?_))
 simp only[Nc,if_false]
 refine Lw (wpAny_holding (wpAny_pyIter_list hl ?_))
 refine Lw (wpAny_holding (mj ne its.size 0 _ _ ⟨_,LC _ rfl,rfl,rfl⟩ (hl.at fun o e=>Lx _ e) (by omega) fun h1 hi1 hs1=>?_))
 have all:List.take its.size (List.drop 0 its.toList)=its.toList:=by
  rw[PY];exact MS (by simp)
 rw[all,if_neg (by simp)]
 have hl1:h1.IsList l its:=ql (hl.at fun o e=>Lx _ e) hs1.extBut ne
 refine Lw (wpAny_holding (wpAny_pyNext_list_end hh hi1 hl1 (by simp) fun h2 he=>?_))
 simp only[Option.isSome_none,Nc,if_false]
 exact LA (k h2 fun b o hb e=>he b o hb (hs1.extBut b o hb (Lx _ e)))
end
section
variable {X:Cx} {pos:Pos}
def En(K:Ly)(n:Nat)(t:TGs):TG:=fun v σ H Q=>∃ a xs,v = .ref a∧SqL K H a xs∧xs.length=n∧t xs σ H Q
theorem zM{es:List Expr}{k:Nat}{t:TGs}{n:Nat}(hc:X.calm=true)(h:PGs X es t)(hn:(assignEach es X.env).length=n:=by rfl)
  (hst:(assignEach es X.env).findIdx? (·.1)=none:=by rfl):PG X (.Tuple es k pos) (En X.K n t):=by
 intro pins s σ H v u Q I r hw
 obtain⟨a,xs,e1,hq,hl,hw⟩:=hw
 subst e1
 cases r
 obtain⟨its,rv,ht,hz⟩:=I.list hq
 rw[assign_Tuple]
 refine Lw (wpAny_standAt (mN (I.ok.hd hc) ht.isList (by simp[hn,← hl,rv.length]) hst fun h2 hx=>?_))
 have I1:Inv X pins σ H { s with heap:=h2 }:=I.kept (t':=s.toks) fun b o e=>hx b o (LV (LH e)) e
 exact h pins _ σ H xs _ Q I1 (by simpa using rv) hw
end
section
variable {X:Cx}
end
section
variable {prog:Program} {w:World} {A:Around} {E:Value→Shared→Prop} {s:Shared}
end
end L2
namespace L2
open PySem
section
variable {prog:Program} {w:World} {A:Around} {E:Value→Shared→Prop} {s:Shared}
theorem wG{k:Bool}{e p l:Addr}{n:Nat}{xs:Array Value}{v old:Value}{Q:Option Value→Shared→Prop}(ie:IsEnum s.heap e p n old)(g:SI k s.heap p l n)(m:SS k s.heap l xs)(hv:xs[n]? = some v)(hne:e≠p)
  (q:∀ h',IsEnumOut h' e p ((n:Int)+1) v s.heap.objs.size→SI k h' p l (n+1)→h'.get? s.heap.objs.size=some { cls:=.type "tuple",data:=.seq #[.int n s.toks,v] }→h'.objs.size=s.heap.objs.size+1 →
   (∀ b o,b≠e→b≠p→s.heap.get? b=some o→h'.get? b=some o)→Q (some (.ref s.heap.objs.size)) { s with heap:=h',toks:=s.toks+1 }):wpAny (model prog w) A (pyNext (.ref e)) Q E s:=by
 have ty:s.TypeIs (.ref e) "enumerate" := ⟨_,ie,rfl⟩
 unfold pyNext
 refine Lw (wpAny_attempt (wpAny_callSpecial?_slot (name:=Str.ofString "__next__") ty F.slot_enumerate_next (wpAny_call_entry F.slot_enumerate_next ty F.entry_enumerate_next ?_ (F.args_enumerate_next_1 _))))
 obtain⟨hp,gs,dr,tk,os⟩:=s
 show wpAny _ _ (field (.ref e) 2 >>= _) _ _ _
 refine Lw (wpAny_field ie rfl (x:=.ref p) rfl (Lw (N6 g m hv fun ha ga sa=>?_)))
 replace sa:Heap.SameBut p hp ha:=sa
 have ea:IsEnum ha e p n old:=(sa.2 e hne).trans ie
 show wpAny _ _ (field (.ref e) 3 >>= _) _ _ ⟨ha,gs,dr,tk,os⟩
 refine Lw (wpAny_field ea rfl (x:=rawInt n) rfl ?_)
 show wpAny _ _ (field (.ref e) 4 >>= _) _ _ ⟨ha,gs,dr,tk,os⟩
 refine Lw (wpAny_field ea rfl (x:=.none) rfl ?_)
 show wpAny _ _ (mkInt n >>= _) _ _ ⟨ha,gs,dr,tk,os⟩
 refine Lw (wpAny_mkInt ?_)
 show wpAny _ _ (setField (.ref e) 3 (rawInt ((n:Int)+1)) >>= _) _ _ ⟨ha,gs,dr,tk+1,os⟩
 refine Lw (wpAny_setField_rec ea (by simp) fun hb eb sb=>?_)
 replace sb:Heap.SameBut e ha hb:=sb
 replace eb:IsEnum hb e p ((n:Int)+1) old:=eb
 show wpAny _ _ (setField (.ref e) 4 .none >>= _) _ _ ⟨hb,gs,dr,tk+1,os⟩
 refine Lw (wpAny_setField_rec eb (by simp) fun hc ec sc=>?_)
 replace sc:Heap.SameBut e hb hc:=sc
 replace ec:IsEnum hc e p ((n:Int)+1) old:=ec
 show wpAny _ _ (newTuple [.int n tk,v] >>= _) _ _ ⟨hc,gs,dr,tk+1,os⟩
 refine Lw (wpAny_newTuple ?_)
 have zc:hc.objs.size=hp.objs.size:=by rw[sc.1,sb.1,sa.1]
 have ltE:e<hp.objs.size:=LH ie
 obtain⟨hd,hhd⟩:∃ hd,hd=hc.push { cls:=.type "tuple",data:=.seq #[.int n tk,v] }:=⟨_,rfl⟩
 have ed:IsEnum hd e p ((n:Int)+1) old:=by rw[hhd];exact Lx _ ec
 have td:hd.get? hp.objs.size=some { cls:=.type "tuple",data:=.seq #[.int n tk,v] }:=by rw[hhd,← zc];exact LC _ rfl
 have zd:hd.objs.size=hp.objs.size+1:=by rw[hhd,Mg,zc]
 have kd:∀ b o,b≠e→b≠p→hp.get? b=some o→hd.get? b=some o:=fun b o b1 b2 z=>by rw[hhd];exact Lx _ (sc.extBut b o b1 (sb.extBut b o b1 (sa.extBut b o b2 z)))
 have gd:SI k hd p l (n+1):=((ga.but sb.extBut (Ne.symm hne)).but sc.extBut (Ne.symm hne)).at fun o z=>by rw[hhd];exact Lx _ z
 show wpAny _ _ (Builtin.SmallTypes.ownedTupleIsFree (.ref e) >>= _) _ _ ⟨hc.push { cls:=.type "tuple",data:=.seq #[.int n tk,v] },gs,dr,tk+1,os⟩
 rw[← hhd,zc]
 refine Lw ?_;unfold Builtin.SmallTypes.ownedTupleIsFree
 refine Lw (wpAny_field ed rfl (x:=.none) rfl (LA ?_));simp only[if_true]
 refine Lw (wpAny_rule (Lw (wpAny_field ed rfl (x:=old) rfl (Lw (wpAny_setField_rec ed (by simp) fun hf ef sf=>?_)))))
 replace sf:Heap.SameBut e hd hf:=sf
 replace ef:IsEnum hf e p ((n:Int)+1) v:=ef
 show wpAny _ _ (Builtin.SmallTypes.ownedTupleHandOut (.ref e) (.ref hp.objs.size) >>= _) _ _ ⟨hf,gs,dr,tk+1,os⟩
 refine Lw ?_;unfold Builtin.SmallTypes.ownedTupleHandOut
 refine Lw (wpAny_setField_rec ef (by simp) fun hg eg sg=>?_)
 replace sg:Heap.SameBut e hf hg:=sg
 replace eg:IsEnumOut hg e p ((n:Int)+1) v hp.objs.size:=eg
 refine wpAny_setField_rec eg (by simp) fun hh eh sh=>?_
 replace sh:Heap.SameBut e hg hh:=sh
 replace eh:IsEnumOut hh e p ((n:Int)+1) v hp.objs.size:=eh
 refine Lw (wpAny_letGo (LA ⟨_,rfl,LA (q hh eh ?_ ?_ ?_ ?_)⟩))
 ·exact((gd.but sf.extBut (Ne.symm hne)).but sg.extBut (Ne.symm hne)).but sh.extBut (Ne.symm hne)
 ·exact sh.extBut _ _ (Mm ltE) (sg.extBut _ _ (Mm ltE) (sf.extBut _ _ (Mm ltE) td))
 ·show hh.objs.size=hp.objs.size+1
  rw[sh.1,sg.1,sf.1,zd]
 ·exact fun b o b1 b2 z=>sh.extBut b o b1 (sg.extBut b o b1 (sf.extBut b o b1 (kd b o b1 b2 z)))
theorem AG{k:Bool}{e p l:Addr}{n:Nat}{xs:Array Value}{old:Value}{Q:Option Value→Shared→Prop}(hA:A.handled=none)(ie:IsEnum s.heap e p n old)(g:SI k s.heap p l n)(m:SS k s.heap l xs)(hv:xs[n]? = none)
  (q:∀ h',Heap.ExtBut p s.heap h'→Q none { s with heap:=h' }):wpAny (model prog w) A (pyNext (.ref e)) Q E s:=by
 have ty:s.TypeIs (.ref e) "enumerate" := ⟨_,ie,rfl⟩
 unfold pyNext
 refine Lw (wpAny_attempt (wpAny_callSpecial?_slot (name:=Str.ofString "__next__") ty F.slot_enumerate_next (wpAny_call_entry F.slot_enumerate_next ty F.entry_enumerate_next ?_ (F.args_enumerate_next_1 _))))
 show wpAny _ _ (field (.ref e) 2 >>= _) _ _ _
 refine Lw (wpAny_field ie rfl (x:=.ref p) rfl (Lw (gW hA g m hv fun h' x he' zz=>?_)))
 obtain⟨o,ho,hc⟩:=zz
 exact Lw (wpAny_isInstance (T := "StopIteration") (b:=true) ⟨o,ho,hc⟩ isSubtype_stop (LA (q _ he')))
end
set_option maxHeartbeats 2000000 in
theorem wH(l:Addr)(xs:Array Value)(n:Nat)(dct:Option Addr)(sl:Array (Option Value)) :
  Meets (Builtin.«enumerate.__new__» ⟨[.type "enumerate",.ref l],[]⟩) (fun _ R s=>s.heap.get? l=some { cls:=.type "tuple",dict:=dct,data:=.seq xs n,slots:=sl } ∧
   R (.ok (.ret (.ref (zA false s.heap l).objs.size))) { s with heap:=(zA false s.heap l).push { cls:=.type "enumerate",data:=.fields #[.none,.bool false,.ref s.heap.objs.size,rawInt 0,.none,.none] } }) :=
 .of_wp fun prog w A R s h=>by
  obtain⟨hp,g,d,tk,os⟩:=s
  obtain⟨hl,h⟩:=h
  have hsub:=sub_enumerate
  have hT:Heap.IsTuple (Shared.heap ⟨hp,g,d,tk,os⟩) l xs:=⟨_,hl,rfl,n,rfl⟩
  wp_walk using AutoSeq1.wpAny_loadPart' hl
  refine wpAny_stack_any fun st=>LA ?_
  split
  ·rename_i c _ _ _ _ _
   cases(c == Value.type "enumerate")
   ·wp_walk using AutoSeq1.wpAny_loadPart' hl,wpAny_pyIter_tuple hT
    exact⟨_,rfl,h⟩
   ·wp_walk using AutoSeq1.wpAny_loadPart' hl,wpAny_pyIter_tuple hT
    exact⟨_,rfl,h⟩
  ·wp_walk using AutoSeq1.wpAny_loadPart' hl,wpAny_pyIter_tuple hT
   exact⟨_,rfl,h⟩
section
variable {prog:Program} {w:World} {A:Around} {E:Value→Shared→Prop} {s:Shared}
theorem xk{k:Bool}{l:Addr}{xs:Array Value}{Q:Value→Shared→Prop}(m:SS k s.heap l xs)
  (q:∀ h',IsEnum h' (s.heap.objs.size+1) s.heap.objs.size 0 .none→SI k h' s.heap.objs.size l 0→h'.objs.size=s.heap.objs.size+2→(∀ b o,s.heap.get? b=some o→h'.get? b=some o)→Q (.ref (s.heap.objs.size+1)) { s with heap:=h' }) :
  wpAny (model prog w) A (call (.type "enumerate") [.ref l]) Q E s:=by
 cases k with
 | true=>exact call_enumerate_list m q
 | false =>
  obtain⟨⟨c,dct,dt,sl⟩,hl,hc,n,hd⟩:=m
  simp only at hc hd
  subst hc;subst hd
  refine callType_new F.called_enumerate (by decide) (F.typeCall_enumerate_1 _) (F.newCall_enumerate_1 _) (fun obj=>F.args_object_init_2 obj _) F.entry_enumerate_new (wH l xs n dct sl) ⟨hl,?_⟩
  have s1:(zA false s.heap l).objs.size=s.heap.objs.size+1:=Mg ..
  have o1:((zA false s.heap l).push { cls:=.type "enumerate",data:=.fields #[.none,.bool false,.ref s.heap.objs.size,rawInt 0,.none,.none] }).get? (zA false s.heap l).objs.size=some _:=LC _ rfl
  show _∧_
  rw[s1]at o1 ⊢
  exact⟨⟨_,o1,rfl⟩,q _ o1 ⟨_,Lx _ (LC _ rfl),rfl,rfl⟩ (by rw[Mg,s1]) fun b o e=>Lx _ (Lx _ e)⟩
end
end L2
namespace L2
open PySem PySem.Spec PyProof.Rows
noncomputable def Ite(K:Ly)(k:Bool)(l:Addr):It :=
 ⟨fun i H=>∃ xs x,SqK K k H l xs∧xs[i]? = some x,
  fun i H v H'=>∃ T x,H T=none∧v = .ref T∧H'=upd H T (.tup [.int i,x])∧∀ xs,SqK K k H l xs→xs[i]? = some x,
  fun i H=>∃ xs,SqK K k H l xs∧xs.length≤i⟩
def ET(k:Bool)(e p l:Addr)(i:Nat)(h:Heap):Prop:=(∃ old,IsEnum h e p i old)∧SI k h p l i
theorem qW{P:Program}{w:World}{K:Ly}{elts:List Expr}{kx:Nat}{tp:Pos}{k:Bool}{e p l:Addr}(hne:e≠p):mI P w K (.Tuple elts kx tp) (Ite K k l) [e,p] e (ET k e p l) where
 mem:=by simp
 obj:=fun i h ⟨⟨old,ie⟩,g⟩ c hc=>by
  simp only[LB,LK,or_false]at hc
  rcases hc with rfl|rfl
  ·exact⟨_,ie,fun v z=>by cases z⟩
  ·exact g.obj
 keep:=fun i h h' ⟨⟨old,ie⟩,g⟩ kk=>⟨⟨old,kk e (by simp) _ ie⟩,g.at fun o z=>kk p (by simp) o z⟩
 item:=by
  intro X hP hw hK hc i pins s σ H E I hf st hg
  subst hP hw hK
  obtain⟨⟨old,ie⟩,g⟩:=st
  obtain⟨xs,x,q1,hx⟩:=hg
  obtain⟨is1,r1,m1⟩:=I.sqk q1
  obtain⟨u1,hu1,ru1⟩:=r1.get hx
  refine wG ie g m1 (v:=u1) (by simpa using hu1) hne fun h' a1 a2 a3 a4 kk=>?_
  refine⟨_,rfl,?_⟩
  refine wpAny_letOwnedTupleGo_enum (s:={ s with heap:=h',toks:=s.toks+1 }) a1 fun h2 b1 b2=>?_
  have lt:∀{c o},s.heap.get? c=some o→c≠s.heap.objs.size:=fun z=>LV (LH z)
  have I1:Inv X pins σ (upd H s.heap.objs.size (.tup [.int i,x])) { s with heap:=s.heap.push { cls:=.type "tuple",data:=.seq #[.int i s.toks,u1] },toks:=s.toks+1 } :=
   I.laid (o:=.tup [.int i,x]) (fun b ob q=>Lx _ q) (LQ _) ⟨(show 2≤sizeLine by decide),[.int i s.toks,u1],.cons ⟨_,rfl⟩ (.cons ru1 .nil),IsTup.new _ _⟩
  have nfp:∀ c∈[e,p],c≠s.heap.objs.size:=fun c hc=>by
   simp only[LB,LK,or_false]at hc
   rcases hc with rfl|rfl
   ·exact lt ie
   ·obtain⟨o,z,_⟩:=g.obj;exact lt z
  have hf':∀ c∈[e,p],W1 X pins (upd H s.heap.objs.size (.tup [.int i,x])) c:=fun c hc=>by
   obtain⟨f0,f1⟩:=hf c hc
   exact⟨by rw[g7 (nfp c hc)];exact f0,f1⟩
  have I2:Inv X pins σ (upd H s.heap.objs.size (.tup [.int i,x])) { s with heap:=h2,toks:=s.toks+1 }:=by
   refine Inv.turnedN (s:={ s with heap:=s.heap.push { cls:=.type "tuple",data:=.seq #[.int i s.toks,u1] },toks:=s.toks+1 }) (t':=s.toks+1) (h':=h2) (ch:=[e,p]) I1 (fun c o hcn z=>?_) hf'
   simp only[LB,LK,or_false,not_or]at hcn
   obtain⟨n1,n2⟩:=hcn
   refine b2.extBut c o n1 ?_
   have z':(s.heap.push { cls:=.type "tuple",data:=.seq #[.int i s.toks,u1] }).get? c=some o:=z
   by_cases hcs:c=s.heap.objs.size
   ·subst hcs
    rw[LC _ rfl]at z'
    cases z'
    exact a3
   ·rw[Oh _ _ _ hcs]at z'
    exact kk c o n1 n2 z'
  refine⟨.ref s.heap.objs.size,_,I2,rfl,⟨_,x,I.hok.fresh (LQ _),rfl,rfl,fun zs hz=>by rw[I.sqk_inj hz q1];exact hx⟩,?_,fun c hc=>(hf' c hc).1⟩
  have ec:((i+1:Nat):Int)=(i:Int)+1:=by omega
  exact⟨⟨u1,by rw[ec];exact b1⟩,a2.at fun o z=>b2.extBut p o (Ne.symm hne) z⟩
 done:=by
  intro X hP hw hK hc i pins s σ H E I hf st hg
  subst hP hw hK
  obtain⟨⟨old,ie⟩,g⟩:=st
  obtain⟨xs,q1,hx⟩:=hg
  obtain⟨is1,r1,m1⟩:=I.sqk q1
  have e1:=r1.length
  refine AG (I.ok.hd hc) ie g m1 (by simp;omega) fun h' kk=>⟨rfl,?_⟩
  refine I.turnedN (t':=s.toks) (ch:=[e,p]) (fun c o hcn z=>?_) hf
  simp only[LB,LK,or_false,not_or]at hcn
  exact kk c o hcn.2 z
 self:=fun _ _ _ _ _ st h=>let ⟨⟨_,ie⟩,_⟩:=st;wpAny_pyIter_enum ie h
def GL(K:Ly)(ta:TA):TI:=fun σ H R=>ta σ H fun vs H1=>∃ k l,vs=[.ref l]∧(∃ xs,SqK K k H1 l xs)∧R (Ite K k l) H1
theorem zK{X:Cx}{elts:List Expr}{kx:Nat}{tp:Pos}{a:Expr}{ta:TA}{p pos:Pos}(hg:Gl X "enumerate")(hm:X.mg "enumerate" = none)(ha:PA X [a] ta)(hs:starEach [a] X.env=[(false,eval a X.env)]:=by rfl) :
  PI X (.Tuple elts kx tp) (.Call (.Name "enumerate" p) [a] [] pos) (GL X.K ta):=by
 intro pins s σ H R I h
 refine Call_ (K2 I hg hm PyProof.Rows.boot_enumerate (PyProof.Rows.callWith_type1 (thn (ha pos pins s σ H _ I h) fun us s1 ⟨vs,H1,I1,r1,q1⟩=>?_) hs rfl))
 obtain⟨k,l,e,⟨xs,q2⟩,q⟩:=q1
 subst e
 cases r1 with
 | cons r rr =>
  cases rr
  cases r
  obtain⟨is1,_,m1⟩:=I1.sqk q2
  refine xk m1 fun h' a1 a2 a3 kk=>?_
  refine wpAny_pyIter_enum (s:={ s1 with heap:=h' }) a1 ?_
  refine⟨s1.heap.objs.size+1,_,_,_,H1,rfl,I1.kept (t':=s1.toks) kk,qW (Nat.succ_ne_self _),⟨⟨_,a1⟩,a2⟩,fun c hc=>?_,q⟩
  have hge:s1.heap.objs.size≤c:=by
   simp only[LB,LK,or_false]at hc
   rcases hc with rfl|rfl
   ·exact Mj _ _
   ·exact LQ _
  exact I1.fpOk hge (I1.hok.fresh hge)
end L2
namespace L2
open PySem
theorem PE.imp{X:Cx}{x:Expr}{t t':TE}(h:PE X x t)(i:∀ σ H Q,t' σ H Q→t σ H Q):PE X x t':=fun pins s σ H Q I q=>h pins s σ H Q I (i σ H Q q)
theorem PT.imp{X:Cx}{x:Expr}{t t':TT}(h:PT X x t)(i:∀ σ H Q,t' σ H Q→t σ H Q):PT X x t':=fun pins s σ H Q I q=>h pins s σ H Q I (i σ H Q q)
theorem PW.imp{X:Cx}{x:Expr}{t t':TT}(h:PW X x t)(i:∀ σ H Q,t' σ H Q→t σ H Q):PW X x t':=fun wh pins s σ H Q I q=>h wh pins s σ H Q I (i σ H Q q)
theorem PA.imp{X:Cx}{x:List Expr}{t t':TA}(h:PA X x t)(i:∀ σ H Q,t' σ H Q→t σ H Q):PA X x t':=fun pos pins s σ H Q I q=>h pos pins s σ H Q I (i σ H Q q)
theorem PS.imp{X:Cx}{x:Stmt}{t t':TS}(h:PS X x t)(i:∀ E σ H,t' E σ H→t E σ H):PS X x t':=fun pins s σ H D I q=>h pins s σ H D I (i D σ H q)
theorem PSs.imp{X:Cx}{x:List Stmt}{t t':TS}(h:PSs X x t)(i:∀ E σ H,t' E σ H→t E σ H):PSs X x t':=fun pins s σ H D I q=>h pins s σ H D I (i D σ H q)
theorem OpR.imp{X:Cx}{f:Value→Value→Sem Value}{r r':R2}(h:OpR X f r)(i:∀ x y H Q,r' x y H Q→r x y H Q):OpR X f r':=fun pins s σ H x y v u Q I rx ry q=>h pins s σ H x y v u Q I rx ry (i x y H Q q)
theorem IxR.imp{X:Cx}{r r':R2}(h:IxR X r)(i:∀ x y H Q,r' x y H Q→r x y H Q):IxR X r':=fun va sl pins s σ H x y v u Q I rx ry q=>h va sl pins s σ H x y v u Q I rx ry (i x y H Q q)
theorem PG.imp{X:Cx}{x:Expr}{t t':TG}(h:PG X x t)(i:∀ v σ H Q,t' v σ H Q→t v σ H Q):PG X x t':=fun pins s σ H v u Q I r q=>h pins s σ H v u Q I r (i v σ H Q q)
theorem PGs.imp{X:Cx}{x:List Expr}{t t':TGs}(h:PGs X x t)(i:∀ v σ H Q,t' v σ H Q→t v σ H Q):PGs X x t':=fun pins s σ H v u Q I r q=>h pins s σ H v u Q I r (i v σ H Q q)
end L2
namespace DL
open PySem PySem.Spec L2
open PyProof.Rows hiding St
inductive D where
 | non|bl (b:Bool)|int (i:Int)|str (x:Str)|ref (a:Addr)|tup (ds:List D)|vl (ds:List D)|ty (n:String)|dic|exc (c:Str)
def KL(K:Ly)(a:Addr)(xs:List V):Prop:=∀ H:Hp,SqL K H a xs
mutual
inductive Has (K:Ly) (H:Hp):V→D→Prop
 | non:Has K H .non .non
 | bl (b:Bool):Has K H (.bl b) (.bl b)
 | int (i:Int):Has K H (.int i) (.int i)
 | str (x:Str):Has K H (.str x) (.str x)
 | ref (a:Addr):Has K H (.ref a) (.ref a)
 | ty (n:String):Has K H (.ty n) (.ty n)
 | tup {a:Addr} {xs:List V} {ds:List D}:SqT K H a xs→HasL K H xs ds→Has K H (.ref a) (.tup ds)
 | vl {a:Addr} {xs:List V} {ds:List D}:((∃ o,H a=some (.frz o (.lst xs)))∨KL K a xs)→HasL K H xs ds→Has K H (.ref a) (.vl ds)
 | dic {a:Addr}:(∃ o:Obj,H a=some (.frz o (.own 0))∧o.cls = .type "dict")→Has K H (.ref a) .dic
 | exc {a:Addr} {c:Str}:(∃(o:Obj) (C:Addr),H a=some (.frz o (.own 0))∧o.cls = .ref C∧PySem.W.nsIn K mainGlobals c=some (some (.ref C)))→Has K H (.ref a) (.exc c)
inductive HasL (K:Ly) (H:Hp):List V→List D→Prop
 | nil:HasL K H [] []
 | cons {v:V} {d:D} {vs:List V} {ds:List D}:Has K H v d→HasL K H vs ds→HasL K H (v :: vs) (d :: ds)
end
structure KT0(H H':Hp):Prop where
 tp:∀ a xs,Rd H a (.tup xs)→Rd H' a (.tup xs)
 fz:∀ a o u,H a=some (.frz o u)→H' a=some (.frz o u)
structure KT(H H':Hp):Prop extends KT0 H H' where
 ex:∀ a φ,H a=some (.ext φ)→H' a=some (.ext φ)
theorem KT.refl(H:Hp):KT H H:=⟨⟨fun _ _ h=>h,fun _ _ _ h=>h⟩,fun _ _ h=>h⟩
theorem KT.trans{H H1 H2:Hp}(a:KT H H1)(b:KT H1 H2):KT H H2:=⟨⟨fun p xs h=>b.tp p xs (a.tp p xs h),fun p o xs h=>b.fz p o xs (a.fz p o xs h)⟩,fun p φ h=>b.ex p φ (a.ex p φ h)⟩
theorem KT0.sq{K:Ly}{H H':Hp}(k:KT0 H H'){a:Addr}{xs:List V}(h:SqT K H a xs):SqT K H' a xs:=h.elim (fun z=>.inl (k.tp a xs z)) .inr
theorem KT.sq{K:Ly}{H H':Hp}(k:KT H H'){a:Addr}{xs:List V}(h:SqT K H a xs):SqT K H' a xs:=k.toKT0.sq h
theorem KT0.at{H:Hp}{p:Addr}{o:HO}(h1:∀ xs,¬ Rd H p (.tup xs))(h2:∀ q u,H p≠some (.frz q u)):KT0 H (upd H p o) where
 tp:=fun a xs r=>by
  have hn:a≠p:=by intro e;subst e;exact h1 xs r
  rcases r with r|⟨q,r⟩
  ·exact .inl (by rw[g7 hn];exact r)
  ·exact .inr ⟨q,by rw[g7 hn];exact r⟩
 fz:=fun a q xs r=>by
  have hn:a≠p:=by intro e;subst e;exact h2 q xs r
  rw[g7 hn];exact r
theorem KT.at{H:Hp}{p:Addr}{o:HO}(h1:∀ xs,¬ Rd H p (.tup xs))(h2:∀ q u,H p≠some (.frz q u))(h3:∀ φ,H p≠some (.ext φ)):KT H (upd H p o):=⟨KT0.at h1 h2,fun a φ r=>by
  have hn:a≠p:=by intro e;subst e;exact h3 φ r
  rw[g7 hn];exact r⟩
theorem KT.alloc{H:Hp}{p:Addr}{o:HO}(h:H p=none):KT H (upd H p o):=KT.at (fun xs r=>by rcases r with r|⟨_,r⟩<;>(rw[h]at r;cases r)) (fun q xs r=>by rw[h]at r;cases r) fun φ r=>by rw[h]at r;cases r
theorem KT.any{H:Hp}{p:Addr}{xs:List V}{o:HO}(h:H p=some (.lst xs)):KT H (upd H p o):=KT.at (fun xs r=>by rcases r with r|⟨_,r⟩<;>(rw[h]at r;cases r)) (fun q xs r=>by rw[h]at r;cases r) fun φ r=>by rw[h]at r;cases r
theorem KT.write{H:Hp}{p:Addr}{xs ys:List V}(h:H p=some (.lst xs)):KT H (upd H p (.lst ys)):=KT.any h
theorem KT0.ext{H:Hp}{p:Addr}{φ:Heap→Prop}{o:HO}(h:H p=some (.ext φ)):KT0 H (upd H p o):=KT0.at (fun xs r=>by rcases r with r|⟨_,r⟩<;>(rw[h]at r;cases r)) fun q xs r=>by rw[h]at r;cases r
theorem KT.new{H H':Hp}{p:Addr}{o:HO}(k:KT H H')(h:H p=none):KT H (upd H' p o) where
 tp:=fun a xs r=>by
  have hn:a≠p:=by intro e;subst e;rcases r with r|⟨_,r⟩<;>(rw[h]at r;cases r)
  rcases k.tp a xs r with r|⟨q,r⟩
  ·exact .inl (by rw[g7 hn];exact r)
  ·exact .inr ⟨q,by rw[g7 hn];exact r⟩
 fz:=fun a q xs r=>by
  have hn:a≠p:=by intro e;subst e;rw[h]at r;cases r
  rw[g7 hn];exact k.fz a q xs r
 ex:=fun a φ r=>by
  have hn:a≠p:=by intro e;subst e;rw[h]at r;cases r
  rw[g7 hn];exact k.ex a φ r
mutual
theorem Has.mono0{K:Ly}{H H':Hp}(k:KT0 H H'):∀{v:V} {d:D},Has K H v d→Has K H' v d
 | _,_,.non=>.non
 | _,_,.bl b=>.bl b
 | _,_,.int i=>.int i
 | _,_,.str x=>.str x
 | _,_,.ref a=>.ref a
 | _,_,.ty n=>.ty n
 | _,_,.tup s l=>.tup (k.sq s) (HasL.mono0 k l)
 | _,_,.vl h l=>.vl (h.elim (fun⟨o,e⟩=>.inl ⟨o,k.fz _ _ _ e⟩) .inr) (HasL.mono0 k l)
 | _,_,.dic h=>.dic (let ⟨o,e,c⟩:=h;⟨o,k.fz _ _ _ e,c⟩)
 | _,_,.exc h=>.exc (let ⟨o,C,e,c⟩:=h;⟨o,C,k.fz _ _ _ e,c⟩)
theorem HasL.mono0{K:Ly}{H H':Hp}(k:KT0 H H'):∀{v:List V} {d:List D},HasL K H v d→HasL K H' v d
 | _,_,.nil=>.nil
 | _,_,.cons a b=>.cons (Has.mono0 k a) (HasL.mono0 k b)
end
theorem Has.mono{K:Ly}{H H':Hp}(k:KT H H'){v:V}{d:D}(h:Has K H v d):Has K H' v d:=h.mono0 k.toKT0
theorem HasL.mono{K:Ly}{H H':Hp}(k:KT H H'){v:List V}{d:List D}(h:HasL K H v d):HasL K H' v d:=h.mono0 k.toKT0
section
variable {K:Ly} {H H':Hp}
theorem HasL.length:∀{vs:List V} {ds:List D},HasL K H vs ds→vs.length=ds.length
 | _,_,.nil=>rfl
 | _,_,.cons _ b=>congrArg Nat.succ (HasL.length b)
theorem HasL.get:∀{vs:List V} {ds:List D} {i:Nat} {d:D},HasL K H vs ds→ds[i]? = some d→∃ v,vs[i]? = some v∧Has K H v d
 | _,_,_,_,.nil,e=>by simp at e
 | _,_,0,_,.cons a _,e=>by simp at e;subst e;exact⟨_,rfl,a⟩
 | _,_,i+1,d,.cons _ b,e=>by
  obtain⟨v,h1,h2⟩:=HasL.get (i:=i) (d:=d) b (by simpa using e)
  exact⟨v,by simpa using h1,h2⟩
theorem HasL.getV:∀{vs:List V} {ds:List D} {i:Nat} {v:V},HasL K H vs ds→vs[i]? = some v→∃ d,ds[i]? = some d∧Has K H v d
 | _,_,_,_,.nil,e=>by simp at e
 | _,_,0,_,.cons a _,e=>by simp at e;subst e;exact⟨_,rfl,a⟩
 | _,_,i+1,d,.cons _ b,e=>by
  obtain⟨v,h1,h2⟩:=HasL.getV (i:=i) (v:=d) b (by simpa using e)
  exact⟨v,by simpa using h1,h2⟩
theorem HasL.set{v:V}{d:D}(r:Has K H v d):∀{vs:List V} {ds:List D} (i:Nat),HasL K H vs ds→HasL K H (vs.set i v) (ds.set i d)
 | _,_,_,.nil=>.nil
 | _,_,0,.cons _ t=>.cons r t
 | _,_,i+1,.cons q t=>.cons q (HasL.set r i t)
theorem HasL.append:∀{xs ys:List V} {us ws:List D},HasL K H xs us→HasL K H ys ws→HasL K H (xs++ys) (us++ws)
 | _,_,_,_,.nil,s=>s
 | _,_,_,_,.cons r t,s=>.cons r (HasL.append t s)
theorem HasL.take:∀{xs:List V} {us:List D} (n:Nat),HasL K H xs us→HasL K H (xs.take n) (us.take n)
 | _,_,0,_=>.nil
 | _,_,_+1,.nil=>.nil
 | _,_,n+1,.cons r t=>.cons r (HasL.take n t)
theorem HasL.drop:∀{xs:List V} {us:List D} (n:Nat),HasL K H xs us→HasL K H (xs.drop n) (us.drop n)
 | _,_,0,r=>r
 | _,_,_+1,.nil=>.nil
 | _,_,n+1,.cons _ t=>HasL.drop n t
theorem HasL.ints:∀(ns:List Int),HasL K H (ns.map V.int) (ns.map D.int)
 | []=>.nil
 | n :: r=>.cons (.int n) (HasL.ints r)
end
inductive MO where
 | lst (ds:List D)
 | ins (c:Str) (fs:List (Str × D))
noncomputable abbrev Mem:=Addr→Option MO
noncomputable def v7(M:Mem)(a:Addr)(o:MO):Mem:=fun b=>if b=a then some o else M b
theorem f7{M:Mem}{a:Addr}{o:MO}:v7 M a o a=some o:=by unfold v7;rw[if_pos rfl]
theorem E2{M:Mem}{a b:Addr}{o:MO}(h:b≠a):v7 M a o b=M b:=by unfold v7;rw[if_neg h]
theorem Z1{M:Mem}{a:Addr}{o u:MO}:v7 (v7 M a o) a u=v7 M a u:=by
 funext b;unfold v7;by_cases h:b=a<;>simp[h]
structure oH(K:Ly)(H:Hp)(ys:List (Str × V))(fs:List (Str × D)):Prop where
 names:ys.map (·.1)=fs.map (·.1)
 has:HasL K H (ys.map (·.2)) (fs.map (·.2))
theorem oH.mono{K:Ly}{H H':Hp}(k:KT H H'){ys:List (Str × V)}{fs:List (Str × D)}(h:oH K H ys fs):oH K H' ys fs:=⟨h.names,h.has.mono k⟩
theorem oH.mono0{K:Ly}{H H':Hp}(k:KT0 H H'){ys:List (Str × V)}{fs:List (Str × D)}(h:oH K H ys fs):oH K H' ys fs:=⟨h.names,h.has.mono0 k⟩
noncomputable def MOk(K:Ly)(H:Hp)(a:Addr):MO→Prop
 | .lst ds=>∃ xs,H a=some (.lst xs)∧HasL K H xs ds
 | .ins c fs=>∃ C dx ys,H a=some (.ins C dx ys)∧oH K H ys fs∧PySem.W.nsIn K mainGlobals c=some (some (.ref C))
def j8(K:Ly)(H:Hp)(M:Mem):Prop:=∀ a o,M a=some o→MOk K H a o
section
variable {K:Ly} {H H':Hp} {M:Mem}
theorem j8.fresh(h:j8 K H M){p:Addr}(e:H p=none):M p=none:=by
 cases q:M p with
 | none=>rfl
 | some o =>
  cases o with
  | lst ds=>obtain⟨xs,z,_⟩:=h p _ q;rw[e]at z;cases z
  | ins C fs=>obtain⟨_,dx,ys,z,_⟩:=h p _ q;rw[e]at z;cases z
theorem j8.alloc(h:j8 K H M){p:Addr}{u:HO}(e:H p=none):j8 K (upd H p u) M:=fun a o m=>by
 have k:KT H (upd H p u):=KT.alloc e
 cases o with
 | lst ds =>
  obtain⟨xs,z,l⟩:=h a _ m
  have hn:a≠p:=C1 z e
  exact⟨xs,by rw[g7 hn];exact z,l.mono k⟩
 | ins C fs =>
  obtain⟨C0,dx,ys,z,l,hc⟩:=h a _ m
  have hn:a≠p:=C1 z e
  exact⟨C0,dx,ys,by rw[g7 hn];exact z,l.mono k,hc⟩
theorem j8.new(h:j8 K H M){p:Addr}{xs:List V}{ds:List D}(e:H p=none)(l:HasL K H xs ds):j8 K (upd H p (.lst xs)) (v7 M p (.lst ds)):=fun a o m=>by
 by_cases q:a=p
 ·subst q
  rw[f7]at m;cases m
  exact⟨xs,i3,l.mono (KT.alloc e)⟩
 ·rw[E2 q]at m
  exact h.alloc e a o m
theorem j8.write(h:j8 K H M){p:Addr}{xs ys:List V}{ds:List D}(e:H p=some (.lst xs))(l:HasL K H ys ds):j8 K (upd H p (.lst ys)) (v7 M p (.lst ds)):=fun a o m=>by
 have k:KT H (upd H p (.lst ys)):=KT.write e
 by_cases q:a=p
 ·subst q
  rw[f7]at m;cases m
  exact⟨ys,i3,l.mono k⟩
 ·rw[E2 q]at m
  cases o with
  | lst es =>
   obtain⟨zs,z,l⟩:=h a _ m
   exact⟨zs,by rw[g7 q];exact z,l.mono k⟩
  | ins C fs =>
   obtain⟨C0,dx,zs,z,l,hc⟩:=h a _ m
   exact⟨C0,dx,zs,by rw[g7 q];exact z,l.mono k,hc⟩
theorem j8.lst(h:j8 K H M){a:Addr}{ds:List D}(m:M a=some (.lst ds)):∃ xs,H a=some (.lst xs)∧HasL K H xs ds:=h a _ m
end
noncomputable abbrev Ev:=List (Option D)
structure v6(K:Ly)(H:Hp)(σ:St)(e:Ev):Prop where
 len:σ.length=e.length
 has:∀(i:Nat) (d:D),e[i]? = some (some d)→∃ v,σ[i]? = some (some v)∧Has K H v d
section
variable {K:Ly} {H H':Hp} {σ:St} {e:Ev}
theorem v6.mono(k:KT H H')(h:v6 K H σ e):v6 K H' σ e:=⟨h.len,fun i d z=>let ⟨v,a,b⟩:=h.has i d z;⟨v,a,b.mono k⟩⟩
theorem v6.set(h:v6 K H σ e){v:V}{d:D}(r:Has K H v d)(i:Nat):v6 K H (σ.set i (some v)) (e.set i (some d)):=by
 refine⟨by simp[h.len],fun j x z=>?_⟩
 rw[List.getElem?_set]at z ⊢
 by_cases q:i=j
 ·subst q
  rw[if_pos rfl]at z ⊢
  by_cases l:i<e.length
  ·rw[if_pos l]at z
   rw[if_pos (by rw[h.len];exact l)]
   cases z
   exact⟨v,rfl,r⟩
  ·rw[if_neg l]at z;cases z
 ·rw[if_neg q]at z ⊢
  exact h.has j x z
end
noncomputable def K4(N:List Str)(ds:List D):Ev:=ds.map some++Nb (N.length - ds.length) none
theorem v6.start0{K:Ly}{H:Hp}{N:List Str}{vs:List V}{ds:List D}(h:HasL K H vs ds):v6 K H (L2.start N vs) (K4 N ds):=by
 have hl:=h.length
 refine⟨by simp[L2.start,K4,hl],fun i d z=>?_⟩
 unfold K4 at z
 unfold L2.start
 rw[NN]at z ⊢
 simp only[LF]at z ⊢
 rw[hl]
 by_cases q:i<ds.length
 ·rw[if_pos q]at z ⊢
  rw[LY]at z ⊢
  cases e:ds[i]? with
  | none=>rw[e]at z;cases z
  | some x =>
   rw[e]at z
   have z':x=d:=by simpa using z
   subst z'
   obtain⟨v,a,b⟩:=h.get e
   exact⟨v,by rw[a];rfl,b⟩
 ·rw[if_neg q]at z
  rw[ML]at z
  split at z<;>cases z
noncomputable abbrev DK:=D→Mem→Prop
noncomputable abbrev DTE:=Ev→Mem→DK→Prop
noncomputable abbrev DTT:=Ev→Mem→(Bool→Mem→Prop)→Prop
noncomputable abbrev DTA:=Ev→Mem→(List D→Mem→Prop)→Prop
structure aS where
 nx:Ev→Mem→Prop
 rt:DK
 bk:Ev→Mem→Prop:=fun _ _=>False
 ct:Ev→Mem→Prop:=fun _ _=>False
noncomputable abbrev DTS:=aS→Ev→Mem→Prop
def dQ(K:Ly)(H:Hp)(R:DK)(Q:VK):Prop:=∀ d M',R d M'→∀ v H',KT H H'→j8 K H' M'→Has K H' v d→Q v H'
def xB(K:Ly)(H:Hp)(R:Bool→Mem→Prop)(Q:Bool→Hp→Prop):Prop:=∀ b M',R b M'→∀ H',KT H H'→j8 K H' M'→Q b H'
def Be(K:Ly)(H:Hp)(R:List D→Mem→Prop)(Q:List V→Hp→Prop):Prop:=∀ ds M',R ds M'→∀ vs H',KT H H'→j8 K H' M'→HasL K H' vs ds→Q vs H'
def mK(K:Ly)(H:Hp)(R:Ev→Mem→Prop)(Q:St→Hp→Prop):Prop:=∀ e M',R e M'→∀ σ H',KT H H'→j8 K H' M'→v6 K H' σ e→Q σ H'
structure Fit(K:Ly)(H:Hp)(F:aS)(E:mL):Prop where
 nx:mK K H F.nx E.nx
 rt:dQ K H F.rt E.rt
 bk:mK K H F.bk E.bk
 ct:mK K H F.ct E.ct
section
variable {K:Ly} {H H':Hp}
theorem dQ.mono{R:DK}{Q:VK}(h:dQ K H R Q)(k:KT H H'):dQ K H' R Q:=fun d M r v H2 k2 a b=>h d M r v H2 (k.trans k2) a b
theorem xB.mono{R:Bool→Mem→Prop}{Q:Bool→Hp→Prop}(h:xB K H R Q)(k:KT H H'):xB K H' R Q:=fun d M r H2 k2 a=>h d M r H2 (k.trans k2) a
theorem Be.mono{R:List D→Mem→Prop}{Q:List V→Hp→Prop}(h:Be K H R Q)(k:KT H H'):Be K H' R Q:=fun d M r v H2 k2 a b=>h d M r v H2 (k.trans k2) a b
theorem mK.mono{R:Ev→Mem→Prop}{Q:St→Hp→Prop}(h:mK K H R Q)(k:KT H H'):mK K H' R Q:=fun d M r v H2 k2 a b=>h d M r v H2 (k.trans k2) a b
theorem Fit.mono{F:aS}{E:mL}(h:Fit K H F E)(k:KT H H'):Fit K H' F E:=⟨h.nx.mono k,h.rt.mono k,h.bk.mono k,h.ct.mono k⟩
end
def up(K:Ly)(t:DTE):TE:=fun σ H Q=>∃ e M R,v6 K H σ e∧j8 K H M∧t e M R∧dQ K H R Q
def upT(K:Ly)(t:DTT):TT:=fun σ H Q=>∃ e M R,v6 K H σ e∧j8 K H M∧t e M R∧xB K H R Q
def upA(K:Ly)(t:DTA):TA:=fun σ H Q=>∃ e M R,v6 K H σ e∧j8 K H M∧t e M R∧Be K H R Q
def upS(K:Ly)(t:DTS):TS:=fun E σ H=>∃ e M F,v6 K H σ e∧j8 K H M∧t F e M∧Fit K H F E
abbrev DPE(X:Cx)(x:Expr)(t:DTE):Prop:=PE X x (up X.K t)
abbrev DPT(X:Cx)(x:Expr)(t:DTT):Prop:=PT X x (upT X.K t)
abbrev DPW(X:Cx)(x:Expr)(t:DTT):Prop:=PW X x (upT X.K t)
abbrev DPA(X:Cx)(x:List Expr)(t:DTA):Prop:=PA X x (upA X.K t)
abbrev DPS(X:Cx)(x:Stmt)(t:DTS):Prop:=PS X x (upS X.K t)
abbrev IB(X:Cx)(x:List Stmt)(t:DTS):Prop:=PSs X x (upS X.K t)
structure JE(X:Cx)(x:Expr)(t:DTE):Prop where
 out:DPE X x t
structure JT(X:Cx)(x:Expr)(t:DTT):Prop where
 out:DPT X x t
structure JW(X:Cx)(x:Expr)(t:DTT):Prop where
 out:DPW X x t
structure JA(X:Cx)(x:List Expr)(t:DTA):Prop where
 out:DPA X x t
structure JS(X:Cx)(x:Stmt)(t:DTS):Prop where
 out:DPS X x t
structure JSs(X:Cx)(x:List Stmt)(t:DTS):Prop where
 out:IB X x t
section
variable {X:Cx} {a b c:Expr} {ta tb tc:DTE} {pos:Pos}
def W0(i:Nat):DTE:=fun e M R=>∃ d,e[i]? = some (some d)∧R d M
def dC(d:D):DTE:=fun _ M R=>R d M
theorem d4(i:Nat){x:Str}{pos:Pos}(hN:X.N[i]? = some x:=by rfl)(hv:Vis X.env.scope x:=by first|exact Or.inl rfl|exact Or.inr (Or.inl rfl)|exact Or.inr (Or.inr rfl))(hd:(x == ("__debug__" : Str))=false:=by decide)
  (hcd:(x == ("__classdict__" : Str))=false:=by decide):JE X (.Name x pos) (W0 i):=⟨(vm hN hv hd hcd).imp (by
  rintro σ H Q ⟨e,M,R,ok,am,⟨d,z,r⟩,f⟩
  obtain⟨v,h1,h2⟩:=ok.has i d z
  exact⟨v,h1,f d M r v H (KT.refl H) am h2⟩)⟩
theorem V3{v:V}{d:D}(h:PE X a (tC v))(r:∀ H,Has X.K H v d):DPE X a (dC d) :=
 h.imp (by rintro σ H Q ⟨e,M,R,ok,am,z,f⟩;exact f d M z v H (KT.refl H) am (r H))
theorem d6{i j pos}:JE X (.Constant (.int i) j pos) (dC (.int i)):=⟨V3 DS fun _=>.int i⟩
theorem F7{b j pos}:JE X (.Constant (.bool b) j pos) (dC (.bl b)):=⟨V3 Gi fun _=>.bl b⟩
theorem S9{j pos}:JE X (.Constant .none j pos) (dC .non):=⟨V3 DR fun _=>.non⟩
theorem A1{x j pos}:JE X (.Constant (.str x) j pos) (dC (.str x)):=⟨V3 DO fun _=>.str x⟩
def HA(K:Ly)(v:V)(d:D):Prop:=∀ H,Has K H v d
theorem Ew{x:Str}{v:V}{d:D}{u:Value}{pos:Pos}(hg:Gl X x)(hm:X.mg x=some u)(r:o7 v u)(hk:HA X.K v d)(hd:(x == ("__debug__" : Str))=false:=by decide):DPE X (.Name x pos) (dC d) :=
 V3 (zO hg hm r hd) hk
noncomputable abbrev DR2:=D→D→Mem→DK→Prop
def upR(K:Ly)(g:DR2):R2:=fun x y H Q=>∃ dx dy M R,Has K H x dx∧Has K H y dy∧j8 K H M∧g dx dy M R∧dQ K H R Q
def DOp(X:Cx)(f:Value→Value→Sem Value)(g:DR2):Prop:=OpR X f (upR X.K g)
def dOp(g:DR2)(ta tb:DTE):DTE:=fun e M R=>ta e M fun x M1=>tb e M1 fun y M2=>g x y M2 R
theorem gN{ta tb:DTE}{g:DR2}{σ:St}{H:Hp}{Q:VK}(h:up X.K (dOp g ta tb) σ H Q):tOp (upR X.K g) (up X.K ta) (up X.K tb) σ H Q:=by
 obtain⟨e,M,R,ok,am,t,f⟩:=h
 refine⟨e,M,_,ok,am,t,fun x M1 h1 v H1 k1 a1 r1=>?_⟩
 refine⟨e,M1,_,ok.mono k1,a1,h1,fun y M2 h2 u H2 k2 a2 r2=>?_⟩
 exact⟨x,y,M2,R,r1.mono k2,r2,a2,h2,f.mono (k1.trans k2)⟩
theorem e8{op:Operator}{g:DR2}(ho:DOp X (binaryOp op) g)(ha:JE X a ta)(hb:JE X b tb):JE X (.BinOp a op b pos) (dOp g ta tb):=⟨have ha:=ha.out;have hb:=hb.out;(Ca ho ha hb).imp fun _ _ _ h=>gN h⟩
theorem Ek{op:CmpOp}{g:DR2}(ho:DOp X (compareOp op) g)(ha:JE X a ta)(hb:JE X b tb)(hm:behindInMarks op b=false):JE X (.Compare a [op] [b] pos) (dOp g ta tb):=⟨have ha:=ha.out;have hb:=hb.out;(zQ ho ha hb hm).imp fun _ _ _ h=>gN h⟩
def qB(t:DTE):DTT:=fun e M R=>t e M fun x M'=>∃ k,x = .bl k∧R k M'
theorem kO{K:Ly}{H:Hp}{R:Bool→Mem→Prop}{Q:Bool→Hp→Prop}(f:xB K H R Q):dQ K H (fun x M'=>∃ k,x = .bl k∧R k M') (fun x H'=>∃ k,x = .bl k∧Q k H'):=by
 rintro d M' ⟨k,rfl,r⟩ v H' kt am h
 cases h
 exact⟨k,rfl,f k M' r H' kt am⟩
theorem Ax{op:CmpOp}{g:DR2}(ho:DOp X (compareOp op) g)(ha:JE X a ta)(hb:JE X b tb)(hm:behindInMarks op b=false):JT X (.Compare a [op] [b] pos) (qB (dOp g ta tb)):=⟨have ha:=ha.out;have hb:=hb.out;(zu ho ha hb hm).imp (by rintro σ H Q ⟨e,M,R,ok,am,t,f⟩;exact gN (Q:=fun x H'=>∃ k,x = .bl k∧Q k H') ⟨e,M,_,ok,am,t,kO f⟩)⟩
theorem u6{x:Expr}{t:DTE}(h:JE X x t)(he:∀ whole,isTrue x X.env whole=(do let v ← whole;standAt x.pos;holding [v] (truthy v)):=by intro _;rfl):JT X x (qB t):=⟨have h:=h.out;(DA h he).imp (by rintro σ H Q ⟨e,M,R,ok,am,t,f⟩;exact⟨e,M,_,ok,am,t,kO f⟩)⟩
noncomputable def fI(f:Int→Int→D):D→D→Option D
 | .int i,.int j=>some (f i j)
 | _,_=>none
def gF(f:D→D→Option D):DR2:=fun x y M R=>∃ z,f x y=some z∧R z M
def gI(C:Int→Int→Prop)(f:Int→Int→D):DR2:=fun x y M R=>∃ i j,x = .int i∧y = .int j∧C i j∧R (f i j) M
theorem jy{f:Int→Int→D}{x y z:D}(h:fI f x y=some z):∃ i j,x = .int i∧y = .int j∧z=f i j:=by
 cases x with
 | int i =>
  cases y with
  | int j=>exact⟨i,j,rfl,rfl,(Option.some.inj h).symm⟩
  | _=>cases h
 | _=>cases h
theorem qx{f:Value→Value→Sem Value}{C:Int→Int→Prop}{g:Int→Int→V}{g':Int→Int→D}(h:OpR X f (rI C g))(hg:∀ i j H,Has X.K H (g i j) (g' i j)):DOp X f (gI C g') :=
 OpR.imp h (by
  rintro x y H Q ⟨dx,dy,M,R,hx,hy,am,⟨i,j,e1,e2,hc,r⟩,f⟩
  subst e1;subst e2
  cases hx;cases hy
  exact⟨i,j,rfl,rfl,hc,f _ M r _ H (KT.refl H) am (hg i j H)⟩)
theorem bh{f:Value→Value→Sem Value}{g:Int→Int→V}{g':Int→Int→D}(h:OpR X f (rI0 g))(hg:∀ i j H,Has X.K H (g i j) (g' i j)):DOp X f (gF (fI g')) :=
 OpR.imp h (by
  rintro x y H Q ⟨dx,dy,M,R,hx,hy,am,⟨z,e,r⟩,f⟩
  obtain⟨i,j,e1,e2,e3⟩:=jy e
  subst e1;subst e2;subst e3
  cases hx;cases hy
  exact⟨i,j,rfl,rfl,f _ M r _ H (KT.refl H) am (hg i j H)⟩)
theorem A5:DOp X (binaryOp .Add) (gF (fI fun i j=>.int (i+j))):=bh DY fun _ _ _=>.int _
theorem C6:DOp X (binaryOp .Sub) (gF (fI fun i j=>.int (i - j))):=bh DV fun _ _ _=>.int _
theorem dD:DOp X (compareOp .Lt) (gF (fI fun i j=>.bl (decide (i<j)))):=bh Gm fun _ _ _=>.bl _
theorem rF:DOp X (compareOp .LtE) (gF (fI fun i j=>.bl (decide (i≤j)))):=bh Gn fun _ _ _=>.bl _
theorem ba:DOp X (compareOp .Gt) (gF (fI fun i j=>.bl (decide (j<i)))):=bh Gp fun _ _ _=>.bl _
theorem Gu:DOp X (compareOp .GtE) (gF (fI fun i j=>.bl (decide (j≤i)))):=bh Gq fun _ _ _=>.bl _
theorem S5:DOp X (binaryOp .Mod) (gI (fun _ j=>0<j) fun i j=>.int (i % j)):=qx DX fun _ _ _=>.int _
theorem gn:DOp X (binaryOp .Pow) (gI xH fun i j=>.int (i ^ j.toNat)):=qx DW fun _ _ _=>.int _
noncomputable def gU(f:Int→D):D→Mem→DK→Prop:=fun x M R=>∃ i,x = .int i∧R (f i) M
def dUn(g:D→Mem→DK→Prop)(ta:DTE):DTE:=fun e M R=>ta e M fun x M1=>g x M1 R
theorem C9(ha:JE X a ta):JE X (.UnaryOp .USub a pos) (dUn (gU fun i=>.int (-i)) ta):=⟨have ha:=ha.out;(Gf CS ha).imp (by rintro σ H Q ⟨e,M,R,ok,am,t,f⟩;exact⟨e,M,_,ok,am,t,fun x M1 ⟨i,z,r⟩ v H1 k1 a1 r1=>by
  subst z;cases r1;exact⟨i,rfl,f _ M1 r _ H1 k1 a1 (.int _)⟩⟩)⟩
variable {tA tB':DTT} {F0:List Expr}
def Hj(t u:DTT):DTT:=fun e M R=>t e M fun c M1=>if c=true then u e M1 R else R false M1
def dOr(t u:DTT):DTT:=fun e M R=>t e M fun c M1=>if c=true then R true M1 else u e M1 R
def Hb(t:DTT):DTT:=fun e M R=>t e M fun c M1=>R (!c) M1
theorem E5(ha:JT X a tA):JW X (.BoolOp .And [a] pos) tA:=⟨have ha:=ha.out;zt ha⟩
theorem C7(ha:JT X a tA):JW X (.BoolOp .Or [a] pos) tA:=⟨have ha:=ha.out;Dx ha⟩
theorem K3(ha:JT X a tA)(hb:JW X (.BoolOp .And (b :: F0) pos) tB'):JW X (.BoolOp .And (a :: b :: F0) pos) (Hj tA tB'):=⟨have ha:=ha.out;have hb:=hb.out;(Dy ha hb).imp (by rintro σ H Q ⟨e,M,R,ok,am,t,f⟩;exact⟨e,M,_,ok,am,t,fun k M1 h1 H1 k1 a1=>by
  cases k with
  | true=>exact⟨e,M1,R,ok.mono k1,a1,h1,f.mono k1⟩
  | false=>exact f false M1 h1 H1 k1 a1⟩)⟩
theorem B7(ha:JT X a tA)(hb:JW X (.BoolOp .Or (b :: F0) pos) tB'):JW X (.BoolOp .Or (a :: b :: F0) pos) (dOr tA tB'):=⟨have ha:=ha.out;have hb:=hb.out;(Gd ha hb).imp (by rintro σ H Q ⟨e,M,R,ok,am,t,f⟩;exact⟨e,M,_,ok,am,t,fun k M1 h1 H1 k1 a1=>by
  cases k with
  | true=>exact f true M1 h1 H1 k1 a1
  | false=>exact⟨e,M1,R,ok.mono k1,a1,h1,f.mono k1⟩⟩)⟩
theorem C8(ha:JT X a tA):JT X (.UnaryOp .Not a pos) (Hb tA):=⟨have ha:=ha.out;(DB ha).imp (by rintro σ H Q ⟨e,M,R,ok,am,t,f⟩;exact⟨e,M,_,ok,am,t,fun k M1 h1 H1 k1 a1=>f (!k) M1 h1 H1 k1 a1⟩)⟩
theorem A6{x:Expr}{t:DTT}(h:JW X x t):JT X x t:=⟨have h:=h.out;PW.pt h⟩
def Cu(ta tb:DTE):DTE:=fun e M R=>ta e M fun x M1=>∃ c,x = .bl c∧if c=true then tb e M1 R else R (.bl false) M1
def Cp(ta:DTE):DTE:=fun e M R=>ta e M fun x M1=>∃ c,x = .bl c∧R (.bl (!c)) M1
theorem P5{op}{t:DTE}(h:JE X a t):JE X (.BoolOp op [a] pos) t:=⟨have h:=h.out;DP h⟩
theorem P6(ha:JE X a ta)(hb:JE X (.BoolOp .And (b :: F0) pos) tb):JE X (.BoolOp .And (a :: b :: F0) pos) (Cu ta tb):=⟨have ha:=ha.out;have hb:=hb.out;(DT ha hb).imp (by rintro σ H Q ⟨e,M,R,ok,am,t,f⟩;exact⟨e,M,_,ok,am,t,fun x M1 ⟨k,z,h1⟩ v H1 k1 a1 r1=>by
  subst z;cases r1
  refine⟨k,rfl,?_⟩
  cases k with
  | true=>exact⟨e,M1,R,ok.mono k1,a1,h1,f.mono k1⟩
  | false=>exact f _ M1 h1 _ H1 k1 a1 (.bl _)⟩)⟩
theorem Aw(ha:JE X a ta):JE X (.UnaryOp .Not a pos) (Cp ta):=⟨have ha:=ha.out;(DQ ha).imp (by rintro σ H Q ⟨e,M,R,ok,am,t,f⟩;exact⟨e,M,_,ok,am,t,fun x M1 ⟨k,z,h1⟩ v H1 k1 a1 r1=>by
  subst z;cases r1
  exact⟨k,rfl,f _ M1 h1 _ H1 k1 a1 (.bl _)⟩⟩)⟩
def dIf(t:DTT)(ta tb:DTE):DTE:=fun e M R=>t e M fun c M1=>if c=true then ta e M1 R else tb e M1 R
theorem lY(hc:JT X c tA)(ha:JE X a ta)(hb:JE X b tb):JE X (.IfExp c a b pos) (dIf tA ta tb):=⟨have hc:=hc.out;have ha:=ha.out;have hb:=hb.out;(vq hc ha hb).imp (by rintro σ H Q ⟨e,M,R,ok,am,t,f⟩;exact⟨e,M,_,ok,am,t,fun k M1 h1 H1 k1 a1=>by
  cases k with
  | true=>exact⟨e,M1,R,ok.mono k1,a1,h1,f.mono k1⟩
  | false=>exact⟨e,M1,R,ok.mono k1,a1,h1,f.mono k1⟩⟩)⟩
def Ez:DTA:=fun _ M R=>R [] M
def qD(ta:DTE)(tr:DTA):DTA:=fun e M R=>ta e M fun x M1=>tr e M1 fun xs M2=>R (x :: xs) M2
variable {es:List Expr} {tr:DTA}
theorem d5:JA X [] Ez:=⟨DU.imp (by rintro σ H Q ⟨e,M,R,ok,am,t,f⟩;exact f [] M t [] H (KT.refl H) am .nil)⟩
theorem a9(ha:JE X a ta)(hr:JA X es tr)(hs:starEach (a :: es) X.env=(false,eval a X.env) :: starEach es X.env:=by rfl):JA X (a :: es) (qD ta tr):=⟨have ha:=ha.out;have hr:=hr.out;(zT ha hr hs).imp (by rintro σ H Q ⟨e,M,R,ok,am,t,f⟩;exact⟨e,M,_,ok,am,t,fun x M1 h1 v H1 k1 a1 r1 =>
  ⟨e,M1,_,ok.mono k1,a1,h1,fun xs M2 h2 vs H2 k2 a2 r2=>f _ M2 h2 _ H2 (k1.trans k2) a2 (.cons (r1.mono k2) r2)⟩⟩)⟩
def GY(t:DTA):DTE:=fun e M R=>t e M fun ds M1=>ds.length≤sizeLine∧R (.tup ds) M1
def Hd(t:DTA):DTE:=fun e M R=>t e M fun ds M1=>ds.length≤sizeLine∧∀ p,M1 p=none→R (.ref p) (v7 M1 p (.lst ds))
theorem f6{x1}(h:JA X es tr):JE X (.Tuple es x1 pos) (GY tr):=⟨have h:=h.out;(DN h).imp (by rintro σ H Q ⟨e,M,R,ok,am,t,f⟩;exact⟨e,M,_,ok,am,t,fun ds M1 ⟨hz,h1⟩ vs H1 k1 a1 r1=>by
  refine⟨by rw[r1.length];exact hz,fun p hp=>?_⟩
  have k2:KT H1 (upd H1 p (.tup vs)):=KT.alloc hp
  exact f _ M1 h1 _ _ (k1.trans k2) (a1.alloc hp) (.tup (SqT.of i3) (r1.mono k2))⟩)⟩
theorem dH(h:JA X es tr):JE X (.List es pos) (Hd tr):=⟨have h:=h.out;(vn h).imp (by rintro σ H Q ⟨e,M,R,ok,am,t,f⟩;exact⟨e,M,_,ok,am,t,fun ds M1 ⟨hz,h1⟩ vs H1 k1 a1 r1=>by
  refine⟨by rw[r1.length];exact hz,fun p hp=>?_⟩
  have k2:KT H1 (upd H1 p (.lst vs)):=KT.alloc hp
  exact f _ _ (h1 p (a1.fresh hp)) _ _ (k1.trans k2) (a1.new hp r1) (.ref p)⟩)⟩
theorem HasL.at{K:Ly}{H:Hp}{vs:List V}{ds:List D}(h:HasL K H vs ds){i:Int}{z:D}(e:atI ds i=some z):∃ v,atI vs i=some v∧Has K H v z:=by
 unfold atI at e ⊢
 rw[h.length]
 cases q:ixN ds.length i with
 | none=>rw[q]at e;cases e
 | some j =>
  rw[q]at e
  exact h.get e
def DIx(X:Cx)(g:DR2):Prop:=IxR X (upR X.K g)
theorem GB{g:DR2}(hr:DIx X g)(ha:JE X a ta)(hb:JE X b tb)(hs:jN b):JE X (.Subscript a b pos) (dOp g ta tb):=⟨have ha:=ha.out;have hb:=hb.out;(Gg hr ha hb hs).imp fun _ _ _ h=>gN h⟩
noncomputable abbrev DXK:=Value→Mem→Prop
noncomputable abbrev DSp:=List D→Mem→DK→DXK→Prop
def ES(K:Ly)(H:Hp)(Y:DXK)(E:XK):Prop:=∀ c M',Y c M'→∀ o H',KT H H'→j8 K H' M'→E c o H'
noncomputable def kM(K:Ly)(sp:DSp):Sp:=fun vs H Q E=>∃ ds M R Y,HasL K H vs ds∧j8 K H M∧sp ds M R Y∧dQ K H R Q∧ES K H Y E
def mq(sp:DSp)(dds:List D)(Y:DXK)(t:DTA):DTE:=fun e M R=>t e M fun ds M1=>sp (ds++dds) M1 R Y
end
section
variable {X:Cx} {CX:CXT} {k:Nat} {f C:Addr} {fd:FuncData} {ps:List Str} {sp:DSp} {dvs:List V} {dds:List D} {ds:List Value} {E:XK} {Y:DXK} {x m:Str} {p pos apos:Pos} {e o:Expr} {es:List Expr} {t:DTA}
theorem Ex(F:Q8 X.prog X.w X.K X.mg X.base CX k f fd ps (kM X.K sp))(hr:F5 k X.A)(hg:Gl X x)(hm:X.mg x=some (.ref f))(hk:PySem.W.keepIn X.K (.ref f)=true)(hb:dR X.K fd ps ds)(hd:h8 dvs ds)(hdd:∀ H,HasL X.K H dvs dds)(hx:jO CX X E)(hY:∀ H,ES X.K H Y E)
  (ha:DPA X (e :: es) t) (hdb:(x == ("__debug__" : Str))=false:=by decide) (he:starEach (e :: es) X.env=(false,eval e X.env) :: starEach es X.env:=by rfl) (hpl:(backTo pos (starEach es X.env)).any (·.1)=false:=by rfl) :
  DPE X (.Call (.Name x p) (e :: es) [] pos) (mq sp dds Y t) :=
 (zR F hr hg hm hk hb hd hx ha hdb he hpl).imp (by rintro σ H Q ⟨e,M,R,ok,am,t,f⟩;exact⟨e,M,_,ok,am,t,fun xs M1 h1 vs H1 k1 a1 r1 =>
  ⟨xs++dds,M1,R,Y,r1.append (hdd H1),a1,h1,f.mono k1,hY H1⟩⟩)
end
section
variable {X:Cx} {st:Stmt} {F0:List Stmt} {t u:DTS} {e:Expr} {te:DTE} {pos:Pos}
def Cq:DTS:=fun F e M=>F.nx e M
def AJ(t u:DTS):DTS:=fun F e M=>t { F with nx:=u F } e M
theorem g5:JSs X [] Cq:=⟨zx.imp (by rintro E σ H ⟨e,M,F,ok,am,t,f⟩;exact f.nx e M t σ H (KT.refl H) am ok)⟩
theorem d7(h1:JS X st t)(h2:JSs X F0 u):JSs X (st :: F0) (AJ t u):=⟨have h1:=h1.out;have h2:=h2.out;(lE h1 h2).imp (by rintro E σ H ⟨e,M,F,ok,am,t,f⟩;exact⟨e,M,{ F with nx:=u F },ok,am,t,⟨fun e' M' h σ' H' k a o=>⟨e',M',F,o,a,h,f.mono k⟩,f.rt,f.bk,f.ct⟩⟩)⟩
theorem d8(h1:JS X st t):JSs X [st] t:=⟨have h1:=h1.out;zw h1⟩
def Cs(te:DTE):DTS:=fun F e M=>te e M fun _ M1=>F.nx e M1
theorem B6(he:JE X e te)(hs:swapsWith e none pos.line X.env=pure false:=by rfl):JS X (.Expr e pos) (Cs te):=⟨have he:=he.out;(zF he hs).imp (by rintro E σ H ⟨e,M,F,ok,am,t,f⟩;exact⟨e,M,_,ok,am,t,fun d M1 h1 v H1 k1 a1 r1=>f.nx e M1 h1 σ H1 k1 a1 (ok.mono k1)⟩)⟩
def Ey(te:DTE):DTS:=fun F e M=>te e M F.rt
theorem d9(he:JE X e te):JS X (.Return (some e) pos) (Ey te):=⟨have he:=he.out;(DD he).imp (by rintro E σ H ⟨e,M,F,ok,am,t,f⟩;exact⟨e,M,_,ok,am,t,f.rt⟩)⟩
def Hf(c:DTT)(t u:DTS):DTS:=fun F e M=>c e M fun b M1=>if b=true then t F e M1 else u F e M1
theorem g6{c:Expr}{a b:List Stmt}{tc:DTT}(hc:JT X c tc)(ha:JSs X a t)(hb:JSs X b u):JS X (.If c a b pos) (Hf tc t u):=⟨have hc:=hc.out;have ha:=ha.out;have hb:=hb.out;(Ge hc ha hb).imp (by rintro E σ H ⟨e,M,F,ok,am,t,f⟩;exact⟨e,M,_,ok,am,t,fun k M1 h1 H1 k1 a1=>by
  cases k with
  | true=>exact⟨e,M1,F,ok.mono k1,a1,h1,f.mono k1⟩
  | false=>exact⟨e,M1,F,ok.mono k1,a1,h1,f.mono k1⟩⟩)⟩
def wX:DTS:=fun _ _ _=>False
theorem rL:JS X st wX:=⟨uY.imp (by rintro E σ H ⟨_,_,_,_,_,t,_⟩;exact t)⟩
noncomputable abbrev DTG:=D→Ev→Mem→(Ev→Mem→Prop)→Prop
noncomputable abbrev T6:=List D→Ev→Mem→(Ev→Mem→Prop)→Prop
def upG(K:Ly)(g:DTG):TG:=fun v σ H Q=>∃ d e M R,Has K H v d∧v6 K H σ e∧j8 K H M∧g d e M R∧mK K H R Q
def HE(K:Ly)(g:T6):TGs:=fun vs σ H Q=>∃ ds e M R,HasL K H vs ds∧v6 K H σ e∧j8 K H M∧g ds e M R∧mK K H R Q
abbrev DPG(X:Cx)(x:Expr)(g:DTG):Prop:=PG X x (upG X.K g)
abbrev IC(X:Cx)(x:List Expr)(g:T6):Prop:=PGs X x (HE X.K g)
structure JG(X:Cx)(x:Expr)(g:DTG):Prop where
 out:DPG X x g
structure JGs(X:Cx)(x:List Expr)(g:T6):Prop where
 out:IC X x g
def bj(i:Nat):DTG:=fun d e M R=>R (e.set i (some d)) M
theorem vW{i:Nat}{x:Str}(hN:X.N.Nodup)(hi:X.N[i]? = some x)(hx:Loc X.env.scope x)(hf:X.fn x=true∨X.env.scope.names.lookup x=some .local:=by first|exact .inl rfl|exact .inr rfl|assumption):JG X (.Name x pos) (bj i):=⟨PG.imp (zN hN hi hx hf) (by rintro v σ H Q ⟨d,e,M,R,r,ok,am,g,f⟩;exact f _ M g _ H (KT.refl H) am (ok.set r i))⟩
def Cm:T6:=fun ds e M R=>ds=[]∧R e M
def wR(t:DTG)(u:T6):T6:=fun ds e M R=>∃ d r,ds=d :: r∧t d e M fun e' M'=>u r e' M' R
theorem i6:JGs X [] Cm:=⟨PGs.imp zL (by
 rintro v σ H Q ⟨ds,e,M,R,r,ok,am,⟨z,g⟩,f⟩
 subst z;cases r;exact⟨rfl,f e M g σ H (KT.refl H) am ok⟩)⟩
end
section
variable {X:Cx} {st:Stmt} {F0:List Stmt} {t u:DTS} {e:Expr} {te:DTE} {pos:Pos}
theorem e5{x:Expr}{xs:List Expr}{t:DTG}{u:T6}(h1:JG X x t)(h2:JGs X xs u)
  (hs:(assignEach (x :: xs) X.env).map (·.2)=assign x X.env :: (assignEach xs X.env).map (·.2):=by rfl):JGs X (x :: xs) (wR t u):=⟨have h1:=h1.out;have h2:=h2.out;PGs.imp (vk h1 h2 hs) (by
  rintro vs σ H Q ⟨ds,e,M,R,r,ok,am,⟨d,dr,z,g⟩,f⟩
  subst z
  cases r with
  | cons r rr=>exact⟨_,_,rfl,d,e,M,_,r,ok,am,g,fun e1 M1 h1 σ1 H1 k1 a1 ok1=>⟨dr,e1,M1,R,rr.mono k1,ok1,a1,h1,f.mono k1⟩⟩)⟩
def ml(n:Nat)(t:T6):DTG:=fun d e M R=>∃ ds,d = .tup ds∧ds.length=n∧t ds e M R
theorem j5{xs:List Expr}{k:Nat}{t:T6}{n:Nat}(hc:X.calm=true)(h:JGs X xs t)
  (hn:(assignEach xs X.env).length=n:=by rfl) (hst:(assignEach xs X.env).findIdx? (·.1)=none:=by rfl):JG X (.Tuple xs k pos) (ml n t):=⟨have h:=h.out;PG.imp (DJ hc h hn hst) (by
  rintro v σ H Q ⟨d,e,M,R,r,ok,am,⟨ds,z,hl,g⟩,f⟩
  subst z
  cases r with
  | tup s l=>exact⟨_,_,rfl,s,by rw[l.length];exact hl,ds,e,M,R,l,ok,am,g,f⟩)⟩
noncomputable abbrev xE:=D→D→D→Mem→(Mem→Prop)→Prop
noncomputable def wq:xE:=fun o i v M R=>∃ p ds k j,o = .ref p∧i = .int k∧M p=some (.lst ds)∧ixN ds.length k=some j∧R (v7 M p (.lst (ds.set j v)))
def Ck(to ti:DTE)(t:xE):DTG:=fun d e M R=>to e M fun o M1=>ti e M1 fun i M2=>t o i d M2 fun M3=>R e M3
theorem V0{o i:Expr}{to ti:DTE}(ho:JE X o to)(hi:JE X i ti)
  (ha:∀ v,assign (.Subscript o i pos) X.env v=(do
   let ov ← holding [v] (eval o X.env)
   let iv ← holding [v,ov] (eval i X.env)
   standAt pos
   holding [v,ov,iv] (setItem ov iv v)
   release [v,ov,iv] []):=by intro _;rfl):JG X (.Subscript o i pos) (Ck to ti wq):=⟨have ho:=ho.out;have hi:=hi.out;PG.imp (DM ho hi ux ha) fun v σ H Q ⟨d,e,M,R,r,ok,am,g,f⟩ =>
  ⟨e,M,_,ok,am,g,fun x M1 h1 vo H1 k1 a1 r1=>⟨e,M1,_,ok.mono k1,a1,h1,fun y M2 ⟨p,ds,k,j,e1,e2,e3,e4,h2⟩ vi H2 k2 a2 r2=>by
   subst e1;subst e2
   cases r1;cases r2
   obtain⟨xs,hx,l⟩:=a2.lst e3
   have kt:KT H H2:=k1.trans k2
   have kw:KT H2 (upd H2 p (.lst (xs.set j v))):=KT.write hx
   exact⟨p,xs,k,j,rfl,rfl,hx,by rw[l.length];exact e4,f e _ h2 σ _ (kt.trans kw) (a2.write hx (l.set (r.mono kt) j)) ((ok.mono kt).mono kw)⟩⟩⟩⟩
def wZ(te:DTE)(g:DTG):DTS:=fun F e M=>te e M fun x M1=>g x e M1 F.nx
theorem m7{tg x:Expr}{tx:DTE}{g:DTG}(he:JE X x tx)(hg:JG X tg g)(hs:swapsWithSole [tg] x pos.line X.env=pure false:=by rfl)(hw:swappedStores [tg] x X.env=pure none:=by rfl)
  (h1:(assignEach [tg] X.env).map (·.2)=[assign tg X.env]:=by rfl):JS X (.Assign [tg] x pos) (wZ tx g):=⟨have he:=he.out;have hg:=hg.out;(DG he hg hs hw h1).imp (by rintro E σ H ⟨e,M,F,ok,am,t,f⟩;exact⟨e,M,_,ok,am,t,fun d M1 h1 v H1 k1 a1 r1=>⟨d,e,M1,F.nx,r1,ok.mono k1,a1,h1,f.nx.mono k1⟩⟩)⟩
theorem Av{i:Nat}{x:Str}{tx:DTE}{pos':Pos}(hN:X.N.Nodup)(hi:X.N[i]? = some x)(hx:Loc X.env.scope x)(he:JE X e tx)(hs:swapsWith e (some (.Name x pos')) pos.line X.env=pure false:=by rfl)(hf:X.fn x=true∨X.env.scope.names.lookup x=some .local:=by first|exact .inl rfl|exact .inr rfl|assumption):JS X (.Assign [.Name x pos'] e pos) (wZ tx (bj i)):=⟨have he:=he.out;(DC hN hi hx he hs hf).imp (by rintro E σ H ⟨e,M,F,ok,am,t,f⟩;exact⟨e,M,_,ok,am,t,fun d M1 h1 v H1 k1 a1 r1=>f.nx _ M1 h1 _ H1 k1 a1 ((ok.mono k1).set r1 i)⟩)⟩
def Ha(i j:Nat)(ta:DTA):DTS:=fun F e M=>ta e M fun ds M1=>∃ x y,ds=[x,y]∧F.nx ((e.set i (some x)).set j (some y)) M1
theorem aD{i j:Nat}{x y:Str}{a b:Expr}{ta:DTA}{px py pt:Pos}{kt k2 pt2}(hc:X.calm=true)(hN:X.N.Nodup)(hi:X.N[i]? = some x)(hj:X.N[j]? = some y)(hij:i≠j)
  (hx:X.env.scope.names.lookup x=some .local) (hy:X.env.scope.names.lookup y=some .local) (ha:JA X [a,b] ta)
  (hw:swappedStores [.Tuple [.Name x px,.Name y py] kt pt] (.Tuple [a,b] k2 pt2) X.env=pure (some [x,y]):=by rfl)
  (hs:swapsWithSole [.Tuple [.Name x px,.Name y py] kt pt] (.Tuple [a,b] k2 pt2) pos.line X.env=pure false:=by rfl):JS X (.Assign [.Tuple [.Name x px,.Name y py] kt pt] (.Tuple [a,b] k2 pt2) pos) (Ha i j ta):=⟨have ha:=ha.out;(DE hc hN hi hj hij hx hy ha hw hs).imp (by rintro E σ H ⟨e,M,F,ok,am,t,f⟩;exact⟨e,M,_,ok,am,t,fun ds M1 ⟨x,y,z,h1⟩ vs H1 k1 a1 r1=>by
  subst z
  cases r1 with
  | cons r1 rr =>
   cases rr with
   | cons r2 rr =>
    cases rr
    exact⟨_,_,rfl,f.nx _ M1 h1 _ H1 k1 a1 (((ok.mono k1).set r1 i).set r2 j)⟩⟩)⟩
def wV(c:DTT)(tb:DTS):DTS:=fun F e M=>∃ W:Nat→Ev→Mem→Prop,(∃ m,W m e M)∧∀ m e M,W m e M →
 c e M fun b M1=>if b=true then tb { F with nx:=fun e' M'=>∃ m',m'<m∧W m' e' M',ct:=fun e' M'=>∃ m',m'<m∧W m' e' M',bk:=F.nx } e M1 else F.nx e M1
theorem bb{c:Expr}{body:List Stmt}{tc:DTT}{tb:DTS}(hp:PassesOwn (model X.prog X.w) X.A X.env X.xe)(hc:JT X c tc)(hb:JSs X body tb):JS X (.While c body [] pos) (wV tc tb):=⟨have hc:=hc.out;have hb:=hb.out;(uX hp hc hb).imp (by
  rintro E σ H ⟨e,M,F,ok,am,⟨W,⟨m0,w0⟩,turn⟩,f⟩
  refine⟨fun m σ' H'=>∃ e' M',KT H H'∧v6 X.K H' σ' e'∧j8 X.K H' M'∧W m e' M',⟨m0,e,M,KT.refl H,ok,am,w0⟩,?_⟩
  rintro m σ1 H1 ⟨e1,M1,k1,ok1,a1,w1⟩
  refine⟨e1,M1,_,ok1,a1,turn m e1 M1 w1,fun b M2 h2 H2 k2 a2=>?_⟩
  cases b with
  | false=>exact f.nx e1 M2 h2 σ1 H2 (k1.trans k2) a2 (ok1.mono k2)
  | true =>
   refine⟨fun σ' H'=>∃ m',m'<m∧∃ e' M',KT H H'∧v6 X.K H' σ' e'∧j8 X.K H' M'∧W m' e' M',fun σ' H' h=>h,e1,M2,_,ok1.mono k2,a2,h2,?_⟩
   have kk:=k1.trans k2
   exact⟨fun e' M' ⟨m',l,w⟩ σ' H' k' a' o'=>⟨m',l,e',M',kk.trans k',o',a',w⟩,f.rt.mono kk,f.nx.mono kk,fun e' M' ⟨m',l,w⟩ σ' H' k' a' o'=>⟨m',l,e',M',kk.trans k',o',a',w⟩⟩)⟩
noncomputable abbrev DTI:=Ev→Mem→(List D→(Mem→Prop)→Mem→Prop)→Prop
def Hh(ti:DTI)(g:DTG)(tb:DTS):DTS:=fun F e M=>ti e M fun ds stay M1=>∃ W:Nat→Ev→Mem→Prop,W 0 e M1∧(∀ i e M,i≤ds.length→W i e M→stay M) ∧
 (∀(i:Nat) (d:D) e M,ds[i]? = some d→W i e M→g d e M fun e2 M2=>tb { F with nx:=W (i+1),ct:=W (i+1),bk:=F.nx } e2 M2)∧∀ e M,W ds.length e M→F.nx e M
noncomputable def D6(lo:Int)(n:Nat):List D:=(Nl n).map fun(i:Nat)=>D.int (lo+(i:Int))
theorem B4(lo:Int)(n:Nat):(D6 lo n).length=n:=by simp[D6]
theorem dm{lo:Int}{n i:Nat}(h:i<n):(D6 lo n)[i]? = some (D.int (lo+(i:Int))):=by simp[D6,h]
theorem gc{lo:Int}{n i:Nat}{d:D}(h:(D6 lo n)[i]? = some d):i<n∧d=D.int (lo+(i:Int)):=by
 have hl:i<n:=by
  have:=(LP.mp h).1
  rw[B4]at this;exact this
 rw[dm hl]at h
 exact⟨hl,(Option.some.inj h).symm⟩
def Cj(ta:DTA):DTI:=fun e M R=>ta e M fun ds M1=>∃ j:Int,ds=[.int j]∧-(2 ^ 62)≤j∧j<2 ^ 62∧R (D6 0 j.toNat) (fun _=>True) M1
def wN(ta:DTA):DTI:=fun e M R=>ta e M fun ds M1=>∃ i j:Int,ds=[.int i,.int j]∧(-(2 ^ 62)≤i∧i<2 ^ 62∧-(2 ^ 62)≤j∧j<2 ^ 62)∧R (D6 i (j - i).toNat) (fun _=>True) M1
theorem wD{K:Ly}{H H1 H2:Hp}{F:aS}{E:mL}{W:Nat→Ev→Mem→Prop}{g:DTG}{tb:DTS}{i:Nat}{x:V}{d:D}{σ2:St}{e2:Ev}{M2:Mem}(f:Fit K H F E)(k1:KT H H1)(k2:KT H1 H2)(ok2:v6 K H2 σ2 e2)(a2:j8 K H2 M2)(r:Has K H2 x d)
  (h:g d e2 M2 fun e3 M3=>tb { F with nx:=W (i+1),ct:=W (i+1),bk:=F.nx } e3 M3) :
  upG K g x σ2 H2 fun σ3 H3=>upS K tb { E with nx:=fun σ' H'=>∃ e' M',KT H1 H'∧v6 K H' σ' e'∧j8 K H' M'∧W (i+1) e' M',ct:=fun σ' H'=>∃ e' M',KT H1 H'∧v6 K H' σ' e'∧j8 K H' M'∧W (i+1) e' M',bk:=E.nx } σ3 H3:=by
 refine⟨d,e2,M2,_,r,ok2,a2,h,fun e3 M3 h3 σ3 H3 k3 a3 ok3=>⟨e3,M3,_,ok3,a3,h3,?_⟩⟩
 have kk:KT H H3:=k1.trans (k2.trans k3)
 exact⟨fun e' M' w σ' H' k' a' o'=>⟨e',M',k2.trans (k3.trans k'),o',a',w⟩,f.rt.mono kk,f.nx.mono kk,fun e' M' w σ' H' k' a' o'=>⟨e',M',k2.trans (k3.trans k'),o',a',w⟩⟩
variable {tg iter:Expr} {body:List Stmt} {ti:DTE} {ta:DTA} {g:DTG} {tb:DTS}
theorem Has.il{K:Ly}{H:Hp}{v:V}{ds:List D}(h:Has K H v (.vl ds)):∃ a xs,v = .ref a∧SqL K H a xs∧HasL K H xs ds:=by
 cases h with
 | vl h l=>exact⟨_,_,rfl,h.elim (fun⟨o,e⟩=>.inl (.inr ⟨o,e⟩)) (fun k=>k H),l⟩
end
section
variable {P:Program} {w:World} {K:Ly} {mg:Str→Option Value} {base:Heap}
end
section
variable {X:Cx} {x:Str} {p pos:Pos} {e:Expr} {es:List Expr} {t:DTA} {id T:String}
noncomputable abbrev DRC:=List D→Mem→DK→Prop
noncomputable def upC(K:Ly)(g:DRC):List V→Hp→VK→Prop:=fun xs H Q=>∃ ds M R,HasL K H xs ds∧j8 K H M∧g ds M R∧dQ K H R Q
def Q4(X:Cx)(f:Value)(g:DRC):Prop:=t6 X f (upC X.K g)
def dCB(g:DRC)(t:DTA):DTE:=fun e M R=>t e M fun ds M1=>g ds M1 R
theorem Cw{g:DRC}{σ:St}{H:Hp}{Q:VK}(h:up X.K (dCB g t) σ H Q):tCB (upC X.K g) (upA X.K t) σ H Q:=by
 obtain⟨e,M,R,ok,am,t,f⟩:=h
 exact⟨e,M,_,ok,am,t,fun ds M1 h1 vs H1 k1 a1 r1=>⟨ds,M1,R,r1,a1,h1,f.mono k1⟩⟩
theorem t6.imp{f:Value}{r r':List V→Hp→VK→Prop}(h:t6 X f r)(i:∀ xs H Q,r' xs H Q→r xs H Q):t6 X f r':=fun pins s σ H xs us Q I rv q=>h pins s σ H xs us Q I rv (i xs H Q q)
theorem HasL.one{K:Ly}{H:Hp}{vs:List V}{d:D}(h:HasL K H vs [d]):∃ v,vs=[v]∧Has K H v d:=by
 cases h with
 | cons r rr=>cases rr;exact⟨_,rfl,r⟩
theorem HasL.two{K:Ly}{H:Hp}{vs:List V}{d d':D}(h:HasL K H vs [d,d']):∃ v v',vs=[v,v']∧Has K H v d∧Has K H v' d':=by
 cases h with
 | cons r rr=>cases rr with|cons r2 rr=>cases rr;exact⟨_,_,rfl,r,r2⟩
def GU:DRC:=fun ds M R=>∃ i:Int,ds=[.int i]∧R (.int (i.natAbs:Int)) M
theorem dM:Q4 X (.builtin "abs") GU:=t6.imp xj (by
 rintro xs H Q ⟨ds,M,R,hl,am,⟨i,z,r⟩,f⟩
 subst z
 obtain⟨v,rfl,h⟩:=hl.one
 cases h
 have e:(if i<0 then -i else i)=(i.natAbs:Int):=by split<;>omega
 exact⟨i,rfl,by rw[e];exact f _ M r _ H (KT.refl H) am (.int _)⟩)
def GP:DRC:=fun ds M R=>∃ i j:Int,ds=[.int i,.int j]∧R (.int (max i j)) M
theorem Cy(hc:X.calm=true):Q4 X (.builtin "max") GP:=t6.imp (rV hc) (by
 rintro xs H Q ⟨ds,M,R,hl,am,⟨i,j,z,r⟩,f⟩
 subst z
 obtain⟨v,v',rfl,h,h'⟩:=hl.two
 cases h;cases h'
 have e:(if j > i then j else i)=max i j:=by
  rw[Int.max_def];split<;>split<;>omega
 exact⟨i,j,rfl,by rw[e];exact f _ M r _ H (KT.refl H) am (.int _)⟩)
def GO:DRC:=fun ds M R=>∃ i j:Int,ds=[.int i,.int j]∧R (.int (min i j)) M
theorem Ht(hc:X.calm=true):Q4 X (.builtin "min") GO:=t6.imp (rT hc) (by
 rintro xs H Q ⟨ds,M,R,hl,am,⟨i,j,z,r⟩,f⟩
 subst z
 obtain⟨v,v',rfl,h,h'⟩:=hl.two
 cases h;cases h'
 have e:(if j<i then j else i)=min i j:=by
  rw[Int.min_def];split<;>split<;>omega
 exact⟨i,j,rfl,by rw[e];exact f _ M r _ H (KT.refl H) am (.int _)⟩)
noncomputable def vQ(M:Mem):D→Option Nat
 | .tup ds=>some ds.length
 | .ref p=>match M p with
  | some (.lst ds)=>some ds.length
  | _=>none
 | .vl ds=>some ds.length
 | _=>none
def mi:DRC:=fun ds M R=>∃ d n,ds=[d]∧vQ M d=some n∧R (.int (n:Int)) M
theorem F8:Q4 X (.builtin "len") mi:=t6.imp jJ (by
 rintro xs H Q ⟨ds,M,R,hl,am,⟨d,n,z,hn,r⟩,f⟩
 subst z
 obtain⟨v,rfl,h⟩:=hl.one
 cases d with
 | tup es =>
  cases h with
  | tup s l =>
   cases hn
   exact⟨_,_,rfl,.inr s,by rw[l.length];exact f _ M r _ H (KT.refl H) am (.int _)⟩
 | ref p =>
  cases h
  unfold vQ at hn
  cases q:M p with
  | none=>simp[q]at hn
  | some o =>
   cases o with
   | lst es =>
    simp only[q]at hn
    cases hn
    obtain⟨ys,hy,l⟩:=am.lst q
    exact⟨p,ys,rfl,.inl (SqL.of hy),by rw[l.length];exact f _ M r _ H (KT.refl H) am (.int _)⟩
   | ins C fs=>simp[q]at hn
 | vl es =>
  cases hn
  obtain⟨a,xs,rfl,sq,l⟩:=h.il
  exact⟨a,_,rfl,.inl sq,by rw[l.length];exact f _ M r _ H (KT.refl H) am (.int _)⟩
 | _=>cases hn)
end
theorem Y7:bootBuiltins "abs" = some (.builtin "abs"):=by decide +kernel
theorem xp:bootBuiltins "max" = some (.builtin "max"):=by decide +kernel
theorem ED:bootBuiltins "min" = some (.builtin "min"):=by decide +kernel
theorem B2:bootBuiltins "len" = some (.builtin "len"):=by decide +kernel
theorem K5:bootBuiltins "isinstance" = some (.builtin "isinstance"):=by decide +kernel
theorem EE:bootBuiltins "int" = some (.type "int"):=by decide +kernel
theorem qH:bootBuiltins "bool" = some (.type "bool"):=by decide +kernel
theorem xo:bootBuiltins "tuple" = some (.type "tuple"):=by decide +kernel
theorem aO:bootBuiltins "list" = some (.type "list"):=by decide +kernel
section
variable {X:Cx} {a b c:Expr} {ta tb tc:DTE} {pos:Pos}
theorem zV:OpR X (binaryOp .Mult) (rI IntMulOk fun i j=>.int (i*j)):=opI fun _ _ _ _ _ _ _ hc q=>mul_int q hc
def CFd(i j:Int):Prop:=j≠0∧j.natAbs.log2<9000
theorem vA:OpR X (binaryOp .FloorDiv) (rI CFd fun i j=>.int (i.fdiv j)):=opI fun _ _ _ _ _ _ _ hc q=>floordiv_int hc.1 q (.inl (PyProof.noPylong_of_log2 hc.2))
theorem g8:DOp X (binaryOp .Mult) (gI IntMulOk fun i j=>.int (i*j)):=qx zV fun _ _ _=>.int _
theorem G7:DOp X (binaryOp .FloorDiv) (gI CFd fun i j=>.int (i.fdiv j)):=qx vA fun _ _ _=>.int _
noncomputable def ixD(M:Mem):D→D→Option D
 | .tup ds,.int i=>atI ds i
 | .ref p,.int i=>match M p with
  | some (.lst ds)=>atI ds i
  | _=>none
 | .vl ds,.int i=>atI ds i
 | _,_=>none
def gIx:DR2:=fun x y M R=>∃ z,ixD M x y=some z∧R z M
theorem IxR.or'{r r':R2}(h:IxR X r)(h':IxR X r'){g:R2}(i:∀ x y H Q,g x y H Q→r x y H Q∨r' x y H Q):IxR X g:=IxR.imp (IxR.or h h') i
theorem GH:DIx X gIx:=IxR.or' El Az (by
 rintro x y H Q ⟨dx,dy,M,R,hx,hy,am,⟨z,e,r⟩,f⟩
 cases dy with
 | int i =>
  cases hy
  cases dx with
  | tup ds =>
   cases hx with
   | tup s l =>
    obtain⟨v,h1,h2⟩:=l.at (show atI ds i=some z from e)
    exact .inl ⟨_,_,i,v,rfl,rfl,s,h1,f z M r v H (KT.refl H) am h2⟩
  | ref p =>
   cases hx
   unfold ixD at e
   cases q:M p with
   | none=>simp[q]at e
   | some o =>
    cases o with
    | lst ds =>
     simp only[q]at e
     obtain⟨xs,h1,h2⟩:=am.lst q
     obtain⟨v,h3,h4⟩:=h2.at e
     exact .inr ⟨_,_,i,v,rfl,rfl,SqL.of h1,h3,f z M r v H (KT.refl H) am h4⟩
    | ins C fs=>simp[q]at e
  | vl ds =>
   obtain⟨a,xs,rfl,sq,l⟩:=hx.il
   obtain⟨v,h1,h2⟩:=l.at (show atI ds i=some z from e)
   exact .inr ⟨_,_,i,v,rfl,rfl,sq,h1,f z M r v H (KT.refl H) am h2⟩
  | _=>simp[ixD]at e
 | _=>cases dx<;>simp[ixD]at e)
theorem B0{M:Mem}{p:Addr}{ds:List D}{i:Int}{z:D}(m:M p=some (.lst ds))(h:atI ds i=some z):ixD M (.ref p) (.int i)=some z:=by
 unfold ixD;simp only[m];exact h
noncomputable def isD:D→D→Option Bool
 | .bl a,.bl b=>some (a == b)
 | .non,.non=>some true
 | .bl _,.non=>some false
 | .int _,.non=>some false
 | .str _,.non=>some false
 | .ref _,.non=>some false
 | .tup _,.non=>some false
 | .vl _,.non=>some false
 | .exc _,.non=>some false
 | _,_=>none
theorem gw{x y:D}{b:Bool}(h:isD x y=some b):(∃ p q,x = .bl p∧y = .bl q∧b=(p == q))∨(y = .non∧((x = .non∧b=true)∨(x ≠ .non∧b=false))):=by
 cases x<;>cases y<;>simp[isD]at h<;>simp[h]
theorem qq{K:Ly}{H:Hp}{v:V}{x:D}(h:Has K H v x)(n:x ≠ .non):v ≠ .non:=by
 intro e;subst e;cases h;exact n rfl
def gIs(neg:Bool):DR2:=fun x y M R=>∃ b,isD x y=some b∧R (.bl (neg.xor b)) M
theorem Ia:DOp X (compareOp .Is) (gIs false):=by
 intro pins s σ H x y v u Q I rx ry h
 obtain⟨dx,dy,M,R,hx,hy,am,⟨b,e,r⟩,f⟩:=h
 have fin:EP X pins σ Q (.bool b) s:=⟨.bl b,H,I,rfl,by have:=f _ M r (.bl b) H (KT.refl H) am (by simpa using Has.bl (K:=X.K) (H:=H) b);exact this⟩
 rcases gw e with⟨p,q,rfl,rfl,rfl⟩|⟨rfl,hx'⟩
 ·cases hx;cases hy;cases rx;cases ry
  exact is_bool fin
 ·cases hy;cases ry
  refine is_none_gen ?_
  rw[o7.none_iff rx]
  rcases hx' with⟨rfl,rfl⟩|⟨n,rfl⟩
  ·cases hx;exact fin
  ·rw[decide_eq_false (qq hx n)];exact fin
theorem jl:DOp X (compareOp .IsNot) (gIs true):=by
 intro pins s σ H x y v u Q I rx ry h
 obtain⟨dx,dy,M,R,hx,hy,am,⟨b,e,r⟩,f⟩:=h
 have fin:EP X pins σ Q (.bool (!b)) s:=⟨.bl (!b),H,I,rfl,by have:=f _ M r (.bl (!b)) H (KT.refl H) am (by simpa using Has.bl (K:=X.K) (H:=H) (!b));exact this⟩
 rcases gw e with⟨p,q,rfl,rfl,rfl⟩|⟨rfl,hx'⟩
 ·cases hx;cases hy;cases rx;cases ry
  exact isnot_bool fin
 ·cases hy;cases ry
  refine isnot_none_gen ?_
  rw[o7.none_iff rx]
  rcases hx' with⟨rfl,rfl⟩|⟨n,rfl⟩
  ·cases hx;exact fin
  ·rw[decide_eq_false (qq hx n)];exact fin
mutual
inductive PyR (M:Mem):D→PyData→Prop
 | non:PyR M .non .none
 | bl (b:Bool):PyR M (.bl b) (.bool b)
 | int (i:Int):PyR M (.int i) (.int i)
 | str (x:Str):PyR M (.str x) (.str x)
 | tup {ds:List D} {ps:List PyData}:PyRL M ds ps→PyR M (.tup ds) (.tuple ps)
 | lst {p:Addr} {ds:List D} {ps:List PyData}:M p=some (.lst ds)→PyRL M ds ps→PyR M (.ref p) (.list ps)
 | vl {ds:List D} {ps:List PyData}:PyRL M ds ps→PyR M (.vl ds) (.list ps)
inductive PyRL (M:Mem):List D→List PyData→Prop
 | nil:PyRL M [] []
 | cons {d:D} {p:PyData} {ds:List D} {ps:List PyData}:PyR M d p→PyRL M ds ps→PyRL M (d :: ds) (p :: ps)
end
mutual
theorem S4{pins:List (Addr × Obj)}{s:Shared}{σ:St}{H:Hp}{M:Mem}(I:Inv X pins σ H s)(am:j8 X.K H M):∀{d:D} {p:PyData},PyR M d p→∀{v:V} {u:Value},Has X.K H v d→o7 v u→∃ as,Reads s.heap u p as
 | _,_,.non,_,_,h,r=>by cases h;cases r;exact⟨_,.none⟩
 | _,_,.bl b,_,_,h,r=>by cases h;cases r;exact⟨_,.bool b⟩
 | _,_,.int i,_,_,h,r=>by cases h;obtain⟨t,rfl⟩:=r;exact⟨_,.int i t⟩
 | _,_,.str x,_,_,h,r=>by cases h;obtain⟨t,rfl⟩:=r;exact⟨_,.str x t⟩
 | _,_,.tup l,_,_,h,r=>by
  cases h with
  | tup s' hl =>
   cases r
   obtain⟨its,rv,⟨o,e,hc,n,hd⟩,_⟩:=I.tuple s'
   obtain⟨as,ra⟩:=readsL_of I am l hl rv
   exact⟨as,.tuple e hc hd (by simpa using ra)⟩
 | _,_,.lst m l,_,_,h,r=>by
  cases h
  cases r
  obtain⟨xs,hx,hl⟩:=am.lst m
  obtain⟨its,rv,⟨o,n,e,hc,_,hd⟩,_⟩:=I.list (SqL.of hx)
  obtain⟨as,ra⟩:=readsL_of I am l hl rv
  exact⟨_,.list e hc hd (by simpa using ra)⟩
 | _,_,.vl l,_,_,h,r=>by
  obtain⟨a,xs,rfl,sq,hl⟩:=h.il
  cases r
  obtain⟨its,rv,⟨o,n,e,hc,_,hd⟩,_⟩:=I.list sq
  obtain⟨as,ra⟩:=readsL_of I am l hl rv
  exact⟨_,.list e hc hd (by simpa using ra)⟩
theorem readsL_of{pins:List (Addr × Obj)}{s:Shared}{σ:St}{H:Hp}{M:Mem}(I:Inv X pins σ H s)(am:j8 X.K H M):∀{ds:List D} {ps:List PyData},PyRL M ds ps→∀{vs:List V} {us:List Value},HasL X.K H vs ds→h8 vs us→∃ as,ReadsAll s.heap us ps as
 | _,_,.nil,_,_,h,r=>by cases h;cases r;exact⟨_,.nil⟩
 | _,_,.cons a l,_,_,h,r=>by
  cases h with
  | cons h hl =>
   cases r with
   | cons r rl =>
    obtain⟨as,q⟩:=S4 I am a h r
    obtain⟨bs,q2⟩:=readsL_of I am l hl rl
    exact⟨_,.cons q q2⟩
end
def gEq(neg:Bool):DR2:=fun x y M R=>∃ px py,PyR M x px∧PyR M y py∧SeqAt.shaped px=true∧SeqAt.shaped py=true∧R (.bl (neg.xor (PyData.eqv px py))) M
theorem Ib(hu:X.A.units+64<cLine):DOp X (compareOp .Eq) (gEq false):=by
 intro pins s σ H x y v u Q I rx ry h
 obtain⟨dx,dy,M,R,hx,hy,am,⟨px,py,p1,p2,s1,s2,r⟩,f⟩:=h
 obtain⟨as,r1⟩:=S4 I am p1 hx rx
 obtain⟨bs,r2⟩:=S4 I am p2 hy ry
 exact eq_dataH r1 r2 s1 s2 hu ⟨.bl _,H,I,rfl,by have:=f _ M r _ H (KT.refl H) am (.bl _);simpa using this⟩
theorem HZ(hu:X.A.units+64<cLine):DOp X (compareOp .NotEq) (gEq true):=by
 intro pins s σ H x y v u Q I rx ry h
 obtain⟨dx,dy,M,R,hx,hy,am,⟨px,py,p1,p2,s1,s2,r⟩,f⟩:=h
 obtain⟨as,r1⟩:=S4 I am p1 hx rx
 obtain⟨bs,r2⟩:=S4 I am p2 hy ry
 exact ne_dataH r1 r2 s1 s2 hu ⟨.bl _,H,I,rfl,by have:=f _ M r _ H (KT.refl H) am (.bl _);simpa using this⟩
mutual
noncomputable def pyD:D→PyData
 | .int i=>.int i
 | .str x=>.str x
 | .bl b=>.bool b
 | .tup ds=>.tuple (pyDL ds)
 | .vl ds=>.list (pyDL ds)
 | _=>.none
noncomputable def pyDL:List D→List PyData
 | []=>[]
 | d :: r=>pyD d :: pyDL r
end
mutual
noncomputable def cl:Nat→D→Bool
 | _,.int _=>true
 | _,.non=>true
 | _,.str x=>PyData.canLay0 (.str x)
 | k+1,.tup ds=>clL k ds
 | k+1,.vl ds=>clL k ds
 | _,_=>false
noncomputable def clL:Nat→List D→Bool
 | _,[]=>true
 | k,d :: r=>cl k d && clL k r
end
mutual
theorem xf{M:Mem}:∀{k:Nat} {d:D},cl k d=true→PyR M d (pyD d)∧(pyD d).canLay0=true∧(pyD d).depth≤k
 | _,.int i,_=>⟨.int i,rfl,Ms _⟩
 | _,.non,_=>⟨.non,rfl,Ms _⟩
 | 0,.tup ds,h=>by simp[cl]at h
 | k+1,.tup ds,h=>by
  obtain⟨a,b,c⟩:=clL_py (M:=M) (k:=k) (ds:=ds) (by simpa[cl]using h)
  exact⟨.tup a,by simpa[pyD,PyData.canLay0]using b,by simp only[pyD,PyData.depth];omega⟩
 | _,.str x,h=>⟨.str x,by simpa[cl,pyD]using h,Ms _⟩
 | _,.bl _,h=>by simp[cl]at h
 | _,.ref _,h=>by simp[cl]at h
 | 0,.vl ds,h=>by simp[cl]at h
 | k+1,.vl ds,h=>by
  obtain⟨a,b,c⟩:=clL_py (M:=M) (k:=k) (ds:=ds) (by simpa[cl]using h)
  exact⟨.vl a,by simpa[pyD,PyData.canLay0]using b,by simp only[pyD,PyData.depth];omega⟩
 | _,.ty _,h=>by simp[cl]at h
theorem clL_py{M:Mem}:∀{k:Nat} {ds:List D},clL k ds=true→PyRL M ds (pyDL ds)∧PyData.canLayAll0 (pyDL ds)=true∧PyData.depthAll (pyDL ds)≤k
 | _,[],_=>⟨.nil,rfl,Ms _⟩
 | k,d :: r,h=>by
  have h':cl k d=true∧clL k r=true:=by simpa[clL]using h
  obtain⟨a,b,c⟩:=xf (M:=M) h'.1
  obtain⟨a2,b2,c2⟩:=clL_py (M:=M) h'.2
  exact⟨.cons a a2,by simp[pyDL,PyData.canLayAll0,b,b2],by simp only[pyDL,PyData.depthAll];omega⟩
end
mutual
theorem xg:∀{k j:Nat} {x y:D},cl k x=true→cl j y=true→(PyData.eqv (pyD x) (pyD y)=true↔x=y)
 | _,_,.int i,.int j,_,_=>by simp[pyD,PyData.eqv]
 | _,_,.int i,.non,_,_=>by simp[pyD,PyData.eqv]
 | _,_,.non,.int i,_,_=>by simp[pyD,PyData.eqv]
 | _,_,.non,.non,_,_=>by simp[pyD,PyData.eqv]
 | _,_,.int i,.tup ds,_,_=>by simp[pyD,PyData.eqv]
 | _,_,.non,.tup ds,_,_=>by simp[pyD,PyData.eqv]
 | _,_,.tup ds,.int i,_,_=>by simp[pyD,PyData.eqv]
 | _,_,.tup ds,.non,_,_=>by simp[pyD,PyData.eqv]
 | k+1,j+1,.tup ds,.tup es,h,h'=>by
  have:=clL_eqv (k:=k) (j:=j) (xs:=ds) (ys:=es) (by simpa[cl]using h) (by simpa[cl]using h')
  simp only[pyD,PyData.eqv,D.tup.injEq]
  exact this
 | 0,_,.tup ds,.tup es,h,_=>by simp[cl]at h
 | _,0,.tup ds,.tup es,_,h=>by simp[cl]at h
 | _,_,.str x,.str y,_,_=>by simp[pyD,PyData.eqv]
 | _,_,.str x,.int i,_,_=>by simp[pyD,PyData.eqv]
 | _,_,.str x,.non,_,_=>by simp[pyD,PyData.eqv]
 | _,_,.str x,.tup ds,_,_=>by simp[pyD,PyData.eqv]
 | _,_,.int i,.str x,_,_=>by simp[pyD,PyData.eqv]
 | _,_,.non,.str x,_,_=>by simp[pyD,PyData.eqv]
 | _,_,.tup ds,.str x,_,_=>by simp[pyD,PyData.eqv]
 | k+1,j+1,.vl ds,.vl es,h,h'=>by
  have:=clL_eqv (k:=k) (j:=j) (xs:=ds) (ys:=es) (by simpa[cl]using h) (by simpa[cl]using h')
  simp only[pyD,PyData.eqv,D.vl.injEq]
  exact this
 | 0,_,.vl ds,.vl es,h,_=>by simp[cl]at h
 | _,0,.vl ds,.vl es,_,h=>by simp[cl]at h
 | _,_,.vl ds,.int i,_,_=>by simp[pyD,PyData.eqv]
 | _,_,.vl ds,.non,_,_=>by simp[pyD,PyData.eqv]
 | _,_,.vl ds,.str x,_,_=>by simp[pyD,PyData.eqv]
 | _,_,.vl ds,.tup es,_,_=>by simp[pyD,PyData.eqv]
 | _,_,.int i,.vl ds,_,_=>by simp[pyD,PyData.eqv]
 | _,_,.non,.vl ds,_,_=>by simp[pyD,PyData.eqv]
 | _,_,.str x,.vl ds,_,_=>by simp[pyD,PyData.eqv]
 | _,_,.tup es,.vl ds,_,_=>by simp[pyD,PyData.eqv]
 | _,_,.bl _,_,h,_=>by simp[cl]at h
 | _,_,.ref _,_,h,_=>by simp[cl]at h
 | _,_,.ty _,_,h,_=>by simp[cl]at h
 | _,_,_,.bl _,_,h=>by simp[cl]at h
 | _,_,_,.ref _,_,h=>by simp[cl]at h
 | _,_,_,.ty _,_,h=>by simp[cl]at h
theorem clL_eqv:∀{k j:Nat} {xs ys:List D},clL k xs=true→clL j ys=true→(PyData.eqvAll (pyDL xs) (pyDL ys)=true↔xs=ys)
 | _,_,[],[],_,_=>by simp[pyDL,PyData.eqvAll]
 | _,_,[],_ :: _,_,_=>by simp[pyDL,PyData.eqvAll]
 | _,_,_ :: _,[],_,_=>by simp[pyDL,PyData.eqvAll]
 | k,j,x :: xs,y :: ys,h,h'=>by
  have h1:cl k x=true∧clL k xs=true:=by simpa[clL]using h
  have h2:cl j y=true∧clL j ys=true:=by simpa[clL]using h'
  have e1:=xg h1.1 h2.1
  have e2:=clL_eqv h1.2 h2.2
  simp only[pyDL,PyData.eqvAll,MB,e1,e2,List.cons.injEq]
end
open Classical in
theorem wx{neg:Bool}{x y:D}{M:Mem}{R:DK}(h:R (.bl (neg.xor (decide (x=y)))) M)(hx:cl 60 x=true:=by rfl)(hy:cl 60 y=true:=by rfl):gEq neg x y M R:=by
 obtain⟨a,b,c⟩:=xf (M:=M) hx
 obtain⟨a2,b2,c2⟩:=xf (M:=M) hy
 refine⟨_,_,a,a2,?_,?_,?_⟩
 ·simp only[SeqAt.shaped,b,Mw];exact decide_eq_true (by omega)
 ·simp only[SeqAt.shaped,b2,Mw];exact decide_eq_true (by omega)
 ·have e:PyData.eqv (pyD x) (pyD y)=decide (x=y):=by
   have:=xg hx hy
   by_cases q:x=y
   ·rw[decide_eq_true q];exact this.mpr q
   ·rw[decide_eq_false q]
    cases z:PyData.eqv (pyD x) (pyD y)with
    | false=>rfl
    | true=>exact absurd (this.mp z) q
  rw[e];exact h
noncomputable def tyD(M:Mem):D→Option String
 | .non=>some "NoneType"
 | .bl _=>some "bool"
 | .int _=>some "int"
 | .str _=>some "str"
 | .tup _=>some "tuple"
 | .ref p=>match M p with
  | some (.lst _)=>some "list"
  | _=>none
 | .vl _=>some "list"
 | .ty _=>none
 | .dic=>some "dict"
 | .exc _=>none
noncomputable def yT(t T:String):Option Bool:=if t=T then some true else
 match t,T with
 | "bool","int" => some true
 | _,_=>if (t∈["NoneType","bool","int","str","tuple","list","dict"])∧(T∈["bool","int","str","tuple","list"])then some false else none
def xv(K:Ly):Prop:=∀ t T b,yT t T=some b→PySem.W.kitOne K (.type t) (.type T)=some b
theorem vX{x:Str}{n:String}(hg:Gl X x)(hm:X.mg x=none)(hv:bootBuiltins x=some (.type n))(hn:x ≠ "__name__" := by decide)(hd:(x == ("__debug__" : Str))=false:=by decide):JE X (.Name x pos) (dC (.ty n)):=⟨V3 (v:=.ty n) (zS hg hm hv rfl hn hd) fun _=>.ty n⟩
def A3:DRC:=fun ds M R=>∃ d t T b,ds=[d,.ty T]∧tyD M d=some t∧yT t T=some b∧R (.bl b) M
theorem xn(hk:xv X.K):Q4 X (.builtin "isinstance") A3:=by
 intro pins s σ H xs us Q I rv h
 obtain⟨ds,M,R,hl,am,⟨d,t,T,b,rfl,ht,hb,r⟩,f⟩:=h
 obtain⟨v,v',rfl,h1,h2⟩:=hl.two
 cases h2
 obtain⟨u,w',rfl,r1,r2⟩:=pT rv
 cases(show w'=Value.type T from r2)
 have e:=hk t T b hb
 have fin:∀ tk,EP X pins σ Q (.bool b) { s with toks:=tk }:=fun tk=>⟨.bl b,H,I.tok tk,rfl,f _ M r _ H (KT.refl H) am (.bl b)⟩
 cases h1 with
 | non=>cases ht;exact L6 I r1 .non e fin
 | bl q=>cases ht;exact L6 I r1 (.bl q) e fin
 | int q=>cases ht;exact L6 I r1 (.int q) e fin
 | str q=>cases ht;exact L6 I r1 (.str q) e fin
 | ty q=>cases ht
 | ref p =>
  unfold tyD at ht
  cases q:M p with
  | none=>simp[q]at ht
  | some o =>
   cases o with
   | lst es =>
    simp only[q]at ht
    cases ht
    obtain⟨ys,hy,_⟩:=am.lst q
    exact L6 I r1 (.lst hy) e fin
   | ins C fs=>simp[q]at ht
 | tup s' l =>
  cases ht
  cases(show u=Value.ref _ from r1)
  obtain⟨its,_,⟨o,h1,h2,_⟩,_⟩:=I.tuple s'
  exact PySem.W.kia_one PySem.W.kitx_tuple I.kIn ⟨o,h1,h2⟩ e (fun z=>nomatch z) fin
 | vl hq hl' =>
  cases ht
  cases(show u=Value.ref _ from r1)
  obtain⟨_,_,ea,sq,_⟩:=Has.il (.vl hq hl')
  cases ea
  obtain⟨its,_,⟨o,n,h1,h2,_⟩,_⟩:=I.list sq
  exact PySem.W.kia_one PySem.W.kitx_list I.kIn ⟨o,h1,h2⟩ e (fun z=>nomatch z) fin
 | dic hq =>
  cases ht
  cases(show u=Value.ref _ from r1)
  obtain⟨o,g1,g2⟩:=hq
  exact PySem.W.kia_one PySem.W.kitx_dict I.kIn ⟨o,(I.hok _ _ g1).1,g2⟩ e (fun z=>nomatch z) fin
 | exc hq=>cases ht
theorem Al:MtR X "int.bit_length" (fun x xs H Q=>∃ i,x = .int i∧xs=[]∧Q (.int (Builtin.Int.intBits i:Nat)) H):=by
 intro pins s σ H x xs v us Q I rx rv h
 obtain⟨i,rfl,rfl,q⟩:=h
 cases rv
 obtain⟨t,rfl⟩:=rx
 exact call_int_bit_length ⟨.int _,H,I.tok _,⟨_,rfl⟩,q⟩
end
section
variable {X:Cx} {a b c:Expr} {ta tb tc:DTE} {pos:Pos}
def Y0:DXK:=fun _ _=>False
theorem Ip{K:Ly}{H:Hp}{E:XK}:ES K H Y0 E:=fun _ _ h=>h.elim
structure Bd(K:Ly)(x:Str)(st:Stmt)(f:Addr)(fd:FuncData):Prop where
 ex:∃(oc:Value) (od:Option Addr) (dV kV doc pm:Value) (an:Option Addr) (cdv ct:Value) (osl:Array (Option Value)),
  fd=PySem.W.fnOf x x (P9 st) (G2 st) (e6 st) dV kV doc pm an cdv ct∧K.lookup f=some ⟨oc,od,.func fd,osl⟩∧PySem.W.codeIn K cdv x=true
 kp:PySem.W.keepIn K (.ref f)=true
structure Df(K:Ly)(mg:Str→Option Value)(x:Str)(st:Stmt)(ps:List Str):Prop where
 ex:∃(f:Addr) (fd:FuncData),Bd K x st f fd∧mg x=some (.ref f)∧dR K fd ps []
structure DfL(K:Ly)(mg:Str→Option Value)(x:Str)(st:Stmt)(ps:List Str):Prop where
 ex:∃(f:Addr) (fd:FuncData),Bd K x st f fd∧mg x=some (.ref f)∧∀ us:List Value,us.length=ps.length→bindArgs fd ⟨us,[]⟩=pure (ps.zip us)
structure Fn(P:Program)(w:World)(K:Ly)(mg:Str→Option Value)(base:Heap)(x:Str)(k:Nat)(ps:List Str)(sp:DSp):Prop where
 ex:∃(f:Addr) (fd:FuncData),Q8 P w K mg base CX0 k f fd ps (kM K sp)∧mg x=some (.ref f)∧PySem.W.keepIn K (.ref f)=true∧dR K fd ps []
theorem wa{x:Str}{j:Nat}{ps:List Str}{sp:DSp}{p:Pos}{e:Expr}{es:List Expr}{t:DTA}(G:Fn X.prog X.w X.K X.mg X.base x j ps sp)(hr:F5 j X.A)(hg:Gl X x)(ha:JA X (e :: es) t)
  (hdb:(x == ("__debug__" : Str))=false:=by decide) (he:starEach (e :: es) X.env=(false,eval e X.env) :: starEach es X.env:=by rfl) (hpl:(backTo pos (starEach es X.env)).any (·.1)=false:=by rfl):JE X (.Call (.Name x p) (e :: es) [] pos) (mq sp [] Y0 t):=⟨have ha:=ha.out;by
 obtain⟨f,fd,F,hm,hk,hb⟩:=G.ex
 exact Ex F hr hg hm hk hb .nil (fun _=>.nil) Gj (fun _=>Ip) ha hdb he hpl⟩
end
section
variable {P:Program} {w:World} {K:Ly} {mg:Str→Option Value} {base:Heap}
theorem Cf{x:Str}{st:Stmt}{f:Addr}{fd:FuncData}{N ps:List Str}{k:Nat}{sp:DSp}(F:Bd K x st f fd)(S:e9 N ps (e6 st))(len:∀ ds M R Y,sp ds M R Y→ds.length=ps.length)
  (hbody:∀(cdv:Value) (A:Around) (outer:List Env) (s:Shared) (H:Hp) (E:XK) (ds:List D) (M:Mem) (R:DK) (Y:DXK),F5 k (A.deeper (envOfC x (e6 st) s.heap.objs.size f cdv))→sp ds M R Y →
   ∃ t,JSs (oj CX0 P w K mg base N x (e6 st) f cdv A outer s H E).nox (G2 st) t∧t { nx:=fun _ M'=>R .non M',rt:=R } (K4 N ds) M):Q8 P w K mg base CX0 (k+1) f fd ps (kM K sp):=by
 obtain⟨oc,od,dV,kV,doc,pm,an,cdv,ct,osl,rfl,lk,hcd⟩:=F.ex
 refine GV lk hcd S (fun vs H Q E ⟨ds,M,R,Y,hl,_,hs,_,_⟩=>by rw[hl.length];exact len ds M R Y hs) fun A outer s H vs Q E hr zz=>?_
 obtain⟨ds,M,R,Y,hl,am,hs,fv,fx⟩:=zz
 obtain⟨t,h1,h2⟩:=hbody cdv A outer s H E ds M R Y hr hs
 refine⟨_,h1.out.nox,K4 N ds,M,_,v6.start0 hl,am,h2,⟨?_,fv,fun _ _ h=>h.elim,fun _ _ h=>h.elim⟩⟩
 exact fun e M' h σ' H' kt a o=>fv .non M' h .non H' kt a .non
theorem g9{x:Str}{st:Stmt}{N ps:List Str}{k:Nat}{sp:DSp}(d:Df K mg x st ps)(S:e9 N ps (e6 st))(len:∀ ds M R Y,sp ds M R Y→ds.length=ps.length)
  (hbody:∀(f:Addr) (cdv:Value) (A:Around) (outer:List Env) (s:Shared) (H:Hp) (E:XK) (ds:List D) (M:Mem) (R:DK) (Y:DXK),F5 k (A.deeper (envOfC x (e6 st) s.heap.objs.size f cdv))→sp ds M R Y →
   ∃ t,JSs (oj CX0 P w K mg base N x (e6 st) f cdv A outer s H E).nox (G2 st) t∧t { nx:=fun _ M'=>R .non M',rt:=R } (K4 N ds) M):Fn P w K mg base x (k+1) ps sp:=by
 obtain⟨f,fd,F,hm,hb⟩:=d.ex
 exact⟨f,fd,Cf F S len (hbody f),hm,F.kp,hb⟩
theorem h9{x:Str}{st:Stmt}{ps:List Str}{h:Heap}{f:Addr}{oc:Value}{od an:Option Addr}{osl:Array (Option Value)}{dV kV doc pm cdv ct:Value}(X:K.In h)(G:h.Ns mainGlobals mg)
  (n:PySem.W.nsIn K mainGlobals x=some (some (.ref f)))
  (l:K.lookup f=some ⟨oc,od,.func (PySem.W.fnOf x x (P9 st) (G2 st) (e6 st) dV kV doc pm an cdv ct),osl⟩)
  (c:PySem.W.codeIn K cdv x=true) (k:PySem.W.keepIn K (.ref f)=true)
  (hb:∀ us:List Value,us.length=ps.length→bindArgs (PySem.W.fnOf x x (P9 st) (G2 st) (e6 st) dV kV doc pm an cdv ct) ⟨us,[]⟩=pure (ps.zip us)):Df K mg x st ps :=
 ⟨f,_,⟨⟨oc,od,dV,kV,doc,pm,an,cdv,ct,osl,rfl,l,c⟩,k⟩,PySem.W.mg_of X G n,.all hb⟩
theorem Es{x:Str}{st:Stmt}{ps:List Str}{h:Heap}{f:Addr}{oc:Value}{od an:Option Addr}{osl:Array (Option Value)}{dV kV doc pm cdv ct:Value}(X:K.In h)(G:h.Ns mainGlobals mg)
  (n:PySem.W.nsIn K mainGlobals x=some (some (.ref f)))
  (l:K.lookup f=some ⟨oc,od,.func (PySem.W.fnOf x x (P9 st) (G2 st) (e6 st) dV kV doc pm an cdv ct),osl⟩)
  (c:PySem.W.codeIn K cdv x=true) (k:PySem.W.keepIn K (.ref f)=true)
  (hb:∀ us:List Value,us.length=ps.length→bindArgs (PySem.W.fnOf x x (P9 st) (G2 st) (e6 st) dV kV doc pm an cdv ct) ⟨us,[]⟩=pure (ps.zip us)):DfL K mg x st ps :=
 ⟨f,_,⟨⟨oc,od,dV,kV,doc,pm,an,cdv,ct,osl,rfl,l,c⟩,k⟩,PySem.W.mg_of X G n,hb⟩
theorem Et{x:Str}{st:Stmt}{ps:List Str}{h:Heap}{f:Addr}{oc:Value}{od an:Option Addr}{osl:Array (Option Value)}{dV kV doc pm cdv ct:Value}(X:K.In h)(G:h.Ns mainGlobals mg)
  (n:PySem.W.nsIn K mainGlobals x=some (some (.ref f)))
  (l:K.lookup f=some ⟨oc,od,.func (PySem.W.fnOf x x (P9 st) (G2 st) (e6 st) dV kV doc pm an cdv ct),osl⟩)
  (c:PySem.W.codeIn K cdv x=true) (k:PySem.W.keepIn K (.ref f)=true)
  (hb:∀ us:List Value,us.length=ps.length→∀ S,PySem.W.peek K S (bindArgs (PySem.W.fnOf x x (P9 st) (G2 st) (e6 st) dV kV doc pm an cdv ct) ⟨us,[]⟩)=some (ps.zip us)):Df K mg x st ps :=
 ⟨f,_,⟨⟨oc,od,dV,kV,doc,pm,an,cdv,ct,osl,rfl,l,c⟩,k⟩,PySem.W.mg_of X G n,fun s us X' hl=>by rw[Nx]at hl ⊢;exact PySem.W.kp_binds X' (hb us hl)⟩
end
section
variable {X:Cx} {x:Str} {p pos:Pos} {e:Expr} {es:List Expr} {t:DTA} {id T:String} {o:Expr} {to:DTE} {a b c:Expr} {ta tb tc:DTE}
theorem j2{g:DRC}(hc:Q4 X (.builtin id) g)(hg:Gl X x)(hm:X.mg x=none)(hv:bootBuiltins x=some (.builtin id))(ha:JA X (e :: es) t)
  (hn:x ≠ "__name__" := by decide) (hdb:(x == ("__debug__" : Str))=false:=by decide) (he:starEach (e :: es) X.env=(false,eval e X.env) :: starEach es X.env:=by rfl) (hpl:(backTo pos (starEach es X.env)).any (·.1)=false:=by rfl):JE X (.Call (.Name x p) (e :: es) [] pos) (dCB g t):=⟨have ha:=ha.out;(vx hc hg hm hv ha hn hdb he hpl).imp fun _ _ _ h=>Cw h⟩
theorem qo{g:DRC}(hc:Q4 X (.type T) g)(hg:Gl X x)(hm:X.mg x=none)(hv:bootBuiltins x=some (.type T))(ha:JA X (e :: es) t)
  (hn:x ≠ "__name__" := by decide) (hdb:(x == ("__debug__" : Str))=false:=by decide) (he:starEach (e :: es) X.env=(false,eval e X.env) :: starEach es X.env:=by rfl) (hpl:(backTo pos (starEach es X.env)).any (·.1)=false:=by rfl):JE X (.Call (.Name x p) (e :: es) [] pos) (dCB g t):=⟨have ha:=ha.out;(gj hc hg hm hv ha hn hdb he hpl).imp fun _ _ _ h=>Cw h⟩
noncomputable def GS:D→Mem→DK→Prop:=fun x M R=>∃ i,x = .int i∧R (.int (Builtin.Int.intBits i:Nat)) M
theorem Ay{apos cpos:Pos}(ho:JE X o to)(hbase:attributeBase o "bit_length" X.env (eval o X.env)=eval o X.env:=by rfl)(hline:(apos.endLine == cpos.line)=true:=by rfl):JE X (.Call (.Attribute o "bit_length" apos) [] [] cpos) (dUn GS to):=⟨have ho:=ho.out;(vy PySem.F.plainAttrs_int PySem.F.slot_int_bit_length PySem.F.type_int_bit_length Al ho hbase hline).imp (by rintro σ H Q ⟨e,M,R,ok,am,t,f⟩;exact⟨e,M,_,ok,am,t,fun x M1 ⟨i,z,r⟩ v H1 k1 a1 r1=>by
  subst z;cases r1;exact⟨rfl,i,rfl,rfl,f _ M1 r _ H1 k1 a1 (.int _)⟩⟩)⟩
theorem zX:OpR X (binaryOp .Add) (fun x y H Q=>∃ l b xs zs,x = .ref l∧y = .ref b∧SqL X.K H l xs∧SqL X.K H b zs∧xs.length+zs.length≤sizeLine∧∀ p,H p=none→Q (.ref p) (upd H p (.lst (xs++zs)))):=by
 intro pins s σ H x y v u Q I rx ry h
 obtain⟨l,b,xs,zs,rfl,rfl,hH,hB,hz,q⟩:=h
 cases rx
 cases ry
 obtain⟨its,r,pl,z1⟩:=I.list hH
 obtain⟨its2,r2,pl2,z2⟩:=I.list hB
 have hl:=r.length
 have hl2:=r2.length
 obtain⟨⟨cls,dd,data,sl⟩,ho,hc,n,hd⟩:=pl.isList
 obtain⟨⟨cls2,dd2,data2,sl2⟩,ho2,hc2,n2,hd2⟩:=pl2.isList
 simp only at hc hd hc2 hd2
 subst hc hd hc2 hd2
 have ea:its.toArray++its2.toArray=(its++its2).toArray:=by simp
 refine concat_meets ⟨_,ho,rfl⟩ ⟨_,ho2,rfl⟩ noFill_list_add seq_list_add PySem.F.slot_list_add PySem.F.entry_list_add (PySem.F.args_list_add_2 _ _) (list_addW l b its.toArray its2.toArray n n2 dd dd2 sl sl2 (by simp only[LN];omega)) ⟨ho,ho2,?_⟩
 rw[ea]
 exact⟨.ref _,_,I.lnew (t':=s.toks) (r.append r2) (by rw[Mi];omega),rfl,q _ I.fresh⟩
noncomputable def F4(M:Mem):D→Option (List D)
 | .ref p=>match M p with
  | some (.lst ds)=>some ds
  | _=>none
 | .vl ds=>some ds
 | _=>none
theorem u8{K:Ly}{H:Hp}{M:Mem}{v:V}{d:D}{ds:List D}(am:j8 K H M)(h:Has K H v d)(e:F4 M d=some ds):∃ a xs,v = .ref a∧SqL K H a xs∧HasL K H xs ds:=by
 cases h with
 | ref p =>
  unfold F4 at e
  cases q:M p with
  | none=>simp[q]at e
  | some o =>
   cases o with
   | lst es =>
    simp only[q]at e
    cases e
    obtain⟨xs,hx,l⟩:=am.lst q
    exact⟨p,xs,rfl,SqL.of hx,l⟩
   | ins C fs=>simp[q]at e
 | vl hq hl =>
  cases e
  exact Has.il (.vl hq hl)
 | _=>cases e
end
theorem sl(n:Nat)(h:n≤1000:=by decide):n≤sizeLine:=LL h (by decide)
section
variable {X:Cx}
open Classical in
def Eo(neg:Bool):DR2:=fun x y M R=>cl 60 x=true∧cl 60 y=true∧R (.bl (neg.xor (decide (x=y)))) M
theorem bI(hu:X.A.units+64<cLine):DOp X (compareOp .Eq) (Eo false):=OpR.imp (Ib hu) (by rintro _ _ _ _ ⟨dx,dy,M,R,hx,hy,am,⟨h1,h2,h3⟩,f⟩;exact⟨dx,dy,M,R,hx,hy,am,wx h3 h1 h2,f⟩)
theorem gp(hu:X.A.units+64<cLine):DOp X (compareOp .NotEq) (Eo true):=OpR.imp (HZ hu) (by rintro _ _ _ _ ⟨dx,dy,M,R,hx,hy,am,⟨h1,h2,h3⟩,f⟩;exact⟨dx,dy,M,R,hx,hy,am,wx h3 h1 h2,f⟩)
theorem q9:DOp X (compareOp .Eq) (gF (fI fun i j=>.bl (decide (i=j)))):=OpR.imp vB (by
 rintro x y H Q ⟨dx,dy,M,R,hx,hy,am,⟨z,e,r⟩,f⟩
 obtain⟨i,j,e1,e2,e3⟩:=jy e
 subst e1;subst e2;subst e3
 cases hx;cases hy
 refine⟨rfl,?_⟩
 have e:decide (V.int i=V.int j)=decide (i=j):=by simp
 rw[e]
 exact f _ M r _ H (KT.refl H) am (.bl _))
theorem vJ:DOp X (compareOp .NotEq) (gF (fI fun i j=>.bl (!decide (i=j)))):=OpR.imp vz (by
 rintro x y H Q ⟨dx,dy,M,R,hx,hy,am,⟨z,e,r⟩,f⟩
 obtain⟨i,j,e1,e2,e3⟩:=jy e
 subst e1;subst e2;subst e3
 cases hx;cases hy
 refine⟨rfl,?_⟩
 have e:decide (V.int i=V.int j)=decide (i=j):=by simp
 rw[e]
 exact f _ M r _ H (KT.refl H) am (.bl _))
end
theorem wc{c:Prop}[Decidable c]{A B:Prop}(h1:c→A)(h2:¬ c→B):if decide c=true then A else B:=by
 by_cases h:c
 ·rw[if_pos (decide_eq_true h)];exact h1 h
 ·rw[if_neg (by rw[decide_eq_false h];exact LO)];exact h2 h
theorem GD{c:Prop}[Decidable c]{A B:Prop}(h1:¬ c→A)(h2:c→B):if (!decide c)=true then A else B:=by
 by_cases h:c
 ·rw[decide_eq_true h];rw[if_neg (by decide)];exact h2 h
 ·rw[decide_eq_false h];rw[if_pos (by decide)];exact h1 h
theorem F3{n k:Nat}(h:n<2 ^ k)(hk:0<k):n.log2<k:=by
 rcases Pf n with h0|h0
 ·subst h0;rw[Nat.log2_zero];exact hk
 ·exact(OX (OY.mp h0)).mpr h
theorem i5{a b:Int}(m n:Nat)(ha:a.natAbs<2 ^ m)(hb:b.natAbs<2 ^ n)(h:m+n≤100000):IntMulOk a b:=by
 have hx:∀(x:Int) (k:Nat),x.natAbs<2 ^ k→Builtin.Int.intBits x≤k:=fun x k hx=>by
  unfold Builtin.Int.intBits
  split
  ·exact Ms _
  ·rename_i h0
   have:x.natAbs≠0:=by
    intro z;apply h0
    first|exact(by simpa using Int.natAbs_eq_zero.mp z)|(simp;omega)
   have:=(OX this).mpr hx
   omega
 exact PySem.IntMulOk.of_le (hx a m ha) (hx b n hb) (by omega)
noncomputable def Ig(t T:String):Option Bool:=if PySem.W.kitMeta T=true then(fastBuiltinMro t).map (·.contains (.type T))else none
theorem FU(K:Ly):xv K:=by
 intro t T b h
 unfold yT at h
 by_cases e:t=T
 ·subst e
  rw[if_pos rfl]at h
  cases h
  unfold PySem.W.kitOne
  rw[if_pos (beq_self_eq_true _)]
 ·rw[if_neg e]at h
  have hne:¬ (Value.type t == Value.type T)=true:=fun z=>e (by have:=eq_of_beq z;injection this)
  unfold PySem.W.kitOne
  rw[if_neg hne]
  show Ig t T=some b
  split at h
  ·cases h;decide +kernel
  ·split at h
   ·rename_i hh
    obtain⟨ht,hT⟩:=hh
    simp only[LB,LK,or_false]at ht hT
    cases h
    rcases ht with rfl|rfl|rfl|rfl|rfl|rfl|rfl<;>rcases hT with rfl|rfl|rfl|rfl|rfl<;>first|exact absurd rfl e|decide +kernel|(exfalso;simp_all)
   ·cases h
theorem nZ{K:Ly}{H:Hp}{a:Addr}{ns:List Int}(hO:rY H)(hS:SqL K H a (ns.map V.int)):Has K H (.ref a) (.vl (ns.map D.int)):=by
 rcases hS with(h|⟨o,h⟩)|h
 ·rcases hO a with z|⟨o,xs,z⟩
  ·rw[z]at h;cases h
  ·rw[z]at h;cases h
 ·exact .vl (.inl ⟨o,h⟩) (HasL.ints ns)
 ·exact .vl (.inr fun _=>.inr h) (HasL.ints ns)
theorem Ee{K:Ly}{H:Hp}{a:Addr}{ns:List Int}{sp:DSp}(hO:rY H)(hS:SqL K H a (ns.map V.int))(h:sp [.vl (ns.map D.int)] (fun _=>none) (fun d _=>d = .bl true) Y0) :
  kM K sp [.ref a] H (fun v _=>v = .bl true) (fun _ _ _=>False) :=
 ⟨[.vl (ns.map D.int)],fun _=>none,fun d _=>d = .bl true,Y0,.cons (nZ hO hS) .nil,fun _ _ z=>(by cases z),h,fun d M' e v H' _ _ hv=>by subst e;cases hv;rfl,fun _ _ z=>z.elim⟩
section
variable {X:Cx} {o e:Expr} {es:List Expr} {to:DTE} {t:DTA} {name:Str} {apos cpos:Pos} {id:String}
noncomputable abbrev DRM:=D→List D→Mem→DK→Prop
noncomputable def upM(K:Ly)(g:DRM):V→List V→Hp→VK→Prop:=fun x xs H Q=>∃ dx ds M R,Has K H x dx∧HasL K H xs ds∧j8 K H M∧g dx ds M R∧dQ K H R Q
def DMt(X:Cx)(id:String)(g:DRM):Prop:=MtR X id (upM X.K g)
theorem MtR.imp{r r':V→List V→Hp→VK→Prop}(h:MtR X id r)(i:∀ x xs H Q,r' x xs H Q→r x xs H Q):MtR X id r':=fun pins s σ H x xs v us Q I rx rv q=>h pins s σ H x xs v us Q I rx rv (i x xs H Q q)
def dLM(g:DRM)(to:DTE)(t:DTA):DTE:=fun e M R=>to e M fun x M1=>(∃ l ds,x = .ref l∧M1 l=some (.lst ds))∧t e M1 fun xs M2=>g x xs M2 R
theorem aE{g:DRM}(slot:Slot "list" name id)(hty:typeOf (.builtin id)=pure (.type "method_descriptor"))(hm:DMt X id g)(ho:JE X o to)(ha:JA X (e :: es) t)
  (hbase:attributeBase o name X.env (eval o X.env)=eval o X.env:=by rfl)
  (hfew:((backTo cpos (starEach (e :: es) X.env)).all (fun x=>!x.1) && (backToKw cpos (keywordEach [] X.env)).all (fun x=>x.1.isSome)
   && decide ((e :: es).length+([]:List Keyword).length+(if ([]:List Keyword).isEmpty then 0 else 1)<30))=true:=by rfl)
  (hline:(apos.endLine == cpos.line)=true:=by rfl) (hs:starEach (e :: es) X.env=(false,eval e X.env) :: starEach es X.env:=by rfl) (hplain:(backTo cpos (starEach es X.env)).any (·.1)=false:=by rfl):JE X (.Call (.Attribute o name apos) (e :: es) [] cpos) (dLM g to t):=⟨have ho:=ho.out;have ha:=ha.out;(Gh PySem.F.plainAttrs_list slot hty hm ho ha hbase hfew hline hs hplain).imp (by rintro σ H Q ⟨e,M,R,ok,am,t,f⟩;exact⟨e,M,_,ok,am,t,fun x M1 ⟨⟨l,ds,z,hM⟩,h1⟩ v H1 k1 a1 r1=>by
  subst z
  have r1':=r1
  cases r1
  obtain⟨xs,hx,_⟩:=a1.lst hM
  refine⟨.inl ⟨rfl,xs,SqL.of hx⟩,e,M1,_,ok.mono k1,a1,h1,fun zs M2 h2 vs H2 k2 a2 r2=>?_⟩
  exact⟨_,zs,M2,R,r1'.mono k2,r2,a2,h2,f.mono (k1.trans k2)⟩⟩)⟩
theorem W5:∀{bs:List Bool} {us:List Value},h8 (bs.map V.bl) us→us=bs.map Value.bool
 | [],_,r=>by cases r;rfl
 | b :: bs,_,r=>by
  cases r with
  | cons r rr =>
   cases(show _=Value.bool b from r)
   rw[W5 rr];rfl
theorem HasL.bools{K:Ly}{H:Hp}:∀{bs:List Bool} {vs:List V},HasL K H vs (bs.map D.bl)→vs=bs.map V.bl
 | [],_,r=>by cases r;rfl
 | b :: bs,_,r=>by
  cases r with
  | cons r rr=>cases r;rw[HasL.bools rr];rfl
noncomputable def fB(f:Bool→Bool→D):D→D→Option D
 | .bl i,.bl j=>some (f i j)
 | _,_=>none
theorem qw{f:Bool→Bool→D}{x y z:D}(h:fB f x y=some z):∃ i j,x = .bl i∧y = .bl j∧z=f i j:=by
 cases x with
 | bl i =>
  cases y with
  | bl j=>exact⟨i,j,rfl,rfl,(Option.some.inj h).symm⟩
  | _=>cases h
 | _=>cases h
theorem Gv:DOp X (compareOp .Eq) (gF (fB fun i j=>.bl (i == j))):=OpR.imp vB (by
 rintro x y H Q ⟨dx,dy,M,R,hx,hy,am,⟨z,e,r⟩,f⟩
 obtain⟨i,j,e1,e2,e3⟩:=qw e
 subst e1;subst e2;subst e3
 cases hx;cases hy
 exact⟨rfl,by rw[jB];exact f _ M r _ H (KT.refl H) am (.bl _)⟩)
theorem Gs:DOp X (compareOp .NotEq) (gF (fB fun i j=>.bl (!(i == j)))):=OpR.imp vz (by
 rintro x y H Q ⟨dx,dy,M,R,hx,hy,am,⟨z,e,r⟩,f⟩
 obtain⟨i,j,e1,e2,e3⟩:=qw e
 subst e1;subst e2;subst e3
 cases hx;cases hy
 exact⟨rfl,by rw[jB];exact f _ M r _ H (KT.refl H) am (.bl _)⟩)
end
section
variable {X:Cx}
def Cd:DRC:=fun ds M R=>∃ x ys,ds=[x]∧F4 M x=some ys∧R (.tup ys) M
theorem EB:Q4 X (.type "tuple") Cd:=t6.imp eY (by
 rintro xs H Q ⟨ds,M,R,hl,am,⟨x,ys,z,e,r⟩,f⟩
 subst z
 obtain⟨v,rfl,hv⟩:=hl.one
 obtain⟨a,vs,rfl,s,l⟩:=u8 am hv e
 exact⟨a,vs,rfl,.inl ⟨s,fun p hp=>f _ M r _ _ (KT.alloc hp) (am.alloc hp) (.tup (SqT.of i3) (l.mono (KT.alloc hp)))⟩⟩)
def GR:DR2:=fun x y M R=>∃ xs ys,x = .tup xs∧y = .tup ys∧xs≠[]∧ys≠[]∧xs.length+ys.length≤sizeLine∧R (.tup (xs++ys)) M
end
section
variable {X:Cx} {st:Stmt} {F0:List Stmt} {t u:DTS}
def Cn(t u:DTS):DTS:=fun F e M=>∃ P:Ev→Mem→Prop,t { F with nx:=P } e M∧∀ e' M',P e' M'→u F e' M'
theorem U9(h1:JS X st t)(h2:JSs X F0 u):JSs X (st :: F0) (Cn t u):=⟨have h1:=h1.out;have h2:=h2.out;(lE h1 h2).imp (by rintro E σ H ⟨e,M,F,ok,am,⟨P,t,hP⟩,f⟩;exact⟨e,M,{ F with nx:=P },ok,am,t,⟨fun e' M' h σ' H' k a o=>⟨e',M',F,o,a,hP e' M' h,f.mono k⟩,f.rt,f.bk,f.ct⟩⟩)⟩
end
section
variable {X:Cx}
theorem Ea:DOp X (binaryOp .Add) GR:=OpR.imp zW (by
 rintro x y H Q ⟨dx,dy,M,R,hx,hy,am,⟨xs,ys,e1,e2,n1,n2,hz,r⟩,f⟩
 subst e1;subst e2
 cases hx with
 | tup s1 l1 =>
  cases hy with
  | tup s2 l2 =>
   have k1:=l1.length
   have k2:=l2.length
   refine⟨_,_,_,_,rfl,rfl,s1,s2,?_,by rw[k1,k2];exact hz,fun z=>?_,fun _ p hp=>?_⟩
   ·intro z;subst z
    cases l1;exact n1 rfl
   ·subst z
    cases l2;exact absurd rfl n2
   ·exact f _ M r _ _ (KT.alloc hp) (am.alloc hp) (.tup (SqT.of i3) ((l1.append l2).mono (KT.alloc hp))))
theorem rn(bs:List Bool):(Nl bs.length).all (fun i=>bs.getD i true)=bs.all id:=by
 have:(Nl bs.length).map (fun i=>bs.getD i true)=bs:=by
  apply Pz (by simp)
  intro i h1 h2
  simp[Mr,h2]
 conv=>rhs;rw[← this]
 rw[Ob];rfl
theorem rk(bs:List Bool):(Nl bs.length).any (fun i=>bs.getD i true)=bs.any id:=by
 have:(Nl bs.length).map (fun i=>bs.getD i true)=bs:=by
  apply Pz (by simp)
  intro i h1 h2
  simp[Mr,h2]
 conv=>rhs;rw[← this]
 rw[Pr];rfl
theorem bF{prog:Program}{w:World}{A:Around}(bs:List Bool):TruthOf prog w A (fun i v=>(bs.map Value.bool).toArray[i]? = some v) (fun i=>bs.getD i true):=by
 intro i v s Q E h q
 have h':(bs.map Value.bool)[i]? = some v:=by simpa using h
 rw[LY]at h'
 cases e:bs[i]? with
 | none=>rw[e]at h';cases h'
 | some b =>
  rw[e]at h'
  cases h'
  have q':Q b s:=by simpa[Mr,e]using q
  exact wpAny_truthy_bool q'
theorem rX(hc:X.calm=true):t6 X (.builtin "all") (fun xs H Q=>∃(l:Addr) (bs:List Bool),xs=[.ref l]∧SqL X.K H l (bs.map V.bl)∧Q (.bl (bs.all id)) H):=by
 intro pins s σ H xs us Q I r h
 obtain⟨l,bs,rfl,hS,q⟩:=h
 obtain⟨u,rfl,ru⟩:=fV r
 cases ru
 obtain⟨its,rv,p,_⟩:=I.list hS
 have hb:=W5 rv
 subst hb
 have hl:s.heap.IsList l (bs.map Value.bool).toArray:=p.isList
 have hne:l≠s.heap.objs.size:=by
  obtain⟨o,e,_⟩:=id hl
  exact LV (LH e)
 refine call_all_walk (wpAny_pyIter_list hl ?_)
 refine⟨s.heap.objs.size,_,_,_,_,_,fun i=>bs.getD i true,rfl,Walks.list (A:=X.A.in1) (I.ok.hd hc) s.heap.objs.size l hne (bs.map Value.bool).toArray,⟨⟨_,LC _ rfl,rfl,rfl⟩,hl.at fun o e=>Lx _ e⟩,bF bs,fun h' tk kk=>?_⟩
 have e:(Nl (bs.map Value.bool).toArray.size).all (fun i=>bs.getD i true)=bs.all id:=by
  rw[show(bs.map Value.bool).toArray.size=bs.length by simp];exact rn bs
 rw[e]
 exact⟨.bl (bs.all id),H,I.kept fun b o z=>kk b o (by simp;exact LV (LH z)) (Lx _ z),rfl,q⟩
theorem rW(hc:X.calm=true):t6 X (.builtin "any") (fun xs H Q=>∃(l:Addr) (bs:List Bool),xs=[.ref l]∧SqL X.K H l (bs.map V.bl)∧Q (.bl (bs.any id)) H):=by
 intro pins s σ H xs us Q I r h
 obtain⟨l,bs,rfl,hS,q⟩:=h
 obtain⟨u,rfl,ru⟩:=fV r
 cases ru
 obtain⟨its,rv,p,_⟩:=I.list hS
 have hb:=W5 rv
 subst hb
 have hl:s.heap.IsList l (bs.map Value.bool).toArray:=p.isList
 have hne:l≠s.heap.objs.size:=by
  obtain⟨o,e,_⟩:=id hl
  exact LV (LH e)
 refine call_any_walk (wpAny_pyIter_list hl ?_)
 refine⟨s.heap.objs.size,_,_,_,_,_,fun i=>bs.getD i true,rfl,Walks.list (A:=X.A.in1) (I.ok.hd hc) s.heap.objs.size l hne (bs.map Value.bool).toArray,⟨⟨_,LC _ rfl,rfl,rfl⟩,hl.at fun o e=>Lx _ e⟩,bF bs,fun h' tk kk=>?_⟩
 have e:(Nl (bs.map Value.bool).toArray.size).any (fun i=>bs.getD i true)=bs.any id:=by
  rw[show(bs.map Value.bool).toArray.size=bs.length by simp];exact rk bs
 rw[e]
 exact⟨.bl (bs.any id),H,I.kept fun b o z=>kk b o (by simp;exact LV (LH z)) (Lx _ z),rfl,q⟩
def Er:DRC:=fun ds M R=>∃(d:D) (bs:List Bool),ds=[d]∧F4 M d=some (bs.map D.bl)∧R (.bl (bs.all id)) M
def Ep:DRC:=fun ds M R=>∃(d:D) (bs:List Bool),ds=[d]∧F4 M d=some (bs.map D.bl)∧R (.bl (bs.any id)) M
theorem mD(hc:X.calm=true):Q4 X (.builtin "all") Er:=t6.imp (rX hc) (by
 rintro xs H Q ⟨ds,M,R,hl,am,⟨d,bs,z,hM,r⟩,f⟩
 subst z
 obtain⟨v,rfl,hv⟩:=hl.one
 obtain⟨a,vs,rfl,s,l⟩:=u8 am hv hM
 rw[l.bools]at s
 exact⟨a,bs,rfl,s,f _ M r _ H (KT.refl H) am (.bl _)⟩)
theorem Hu(hc:X.calm=true):Q4 X (.builtin "any") Ep:=t6.imp (rW hc) (by
 rintro xs H Q ⟨ds,M,R,hl,am,⟨d,bs,z,hM,r⟩,f⟩
 subst z
 obtain⟨v,rfl,hv⟩:=hl.one
 obtain⟨a,vs,rfl,s,l⟩:=u8 am hv hM
 rw[l.bools]at s
 exact⟨a,bs,rfl,s,f _ M r _ H (KT.refl H) am (.bl _)⟩)
end
theorem dN:bootBuiltins "all" = some (.builtin "all"):=by decide +kernel
theorem EF:bootBuiltins "any" = some (.builtin "any"):=by decide +kernel
structure GlD(K:Ly)(mg:Str→Option Value)(x:Str)(d:D):Prop where
 ex:∃(v:V) (u:Value),mg x=some u∧o7 v u∧HA K v d
theorem w6{X:Cx}{x:Str}{d:D}{pos:Pos}(hg:Gl X x)(g:GlD X.K X.mg x d)(hd:(x == ("__debug__" : Str))=false:=by decide):JE X (.Name x pos) (dC d):=⟨by
 obtain⟨v,u,h1,h2,h3⟩:=g.ex
 exact Ew hg h1 h2 h3 hd⟩
theorem qr{K:Ly}{mg:Str→Option Value}{h:Heap}{x:Str}{a:Addr}{od:Option Addr}{osl:Array (Option Value)}{i j:Int}{t u:Tok}{cap:Nat}(X:K.In h)(G:h.Ns mainGlobals mg)
  (n:PySem.W.nsIn K mainGlobals x=some (some (.ref a))) (l:K.lookup a=some ⟨.type "tuple",od,.seq #[.int i t,.int j u] cap,osl⟩):GlD K mg x (.tup [.int i,.int j]) :=
 ⟨.ref a,.ref a,PySem.W.mg_of X G n,rfl,fun H=>.tup (xs:=[.int i,.int j]) (.inr ⟨_,_,_,l,rfl,rfl,(show 2≤sizeLine by decide),.cons (show o7 (.int i) (.int i t)from⟨t,rfl⟩) (.cons (show o7 (.int j) (.int j u)from⟨u,rfl⟩) .nil)⟩) (.cons (.int i) (.cons (.int j) .nil))⟩
noncomputable def fS(f:Str→Str→D):D→D→Option D
 | .str i,.str j=>some (f i j)
 | _,_=>none
theorem qv{f:Str→Str→D}{x y z:D}(h:fS f x y=some z):∃ i j,x = .str i∧y = .str j∧z=f i j:=by
 cases x with
 | str i =>
  cases y with
  | str j=>exact⟨i,j,rfl,rfl,(Option.some.inj h).symm⟩
  | _=>cases h
 | _=>cases h
section
variable {X:Cx}
theorem lR:DOp X (compareOp .Eq) (gF (fS fun i j=>.bl (decide (i=j)))):=OpR.imp vB (by
 rintro x y H Q ⟨dx,dy,M,R,hx,hy,am,⟨z,e,r⟩,f⟩
 obtain⟨i,j,e1,e2,e3⟩:=qv e
 subst e1;subst e2;subst e3
 cases hx;cases hy
 refine⟨rfl,?_⟩
 have e:decide (V.str i=V.str j)=decide (i=j):=by simp
 rw[e]
 exact f _ M r _ H (KT.refl H) am (.bl _))
theorem vI:DOp X (compareOp .NotEq) (gF (fS fun i j=>.bl (!decide (i=j)))):=OpR.imp vz (by
 rintro x y H Q ⟨dx,dy,M,R,hx,hy,am,⟨z,e,r⟩,f⟩
 obtain⟨i,j,e1,e2,e3⟩:=qv e
 subst e1;subst e2;subst e3
 cases hx;cases hy
 refine⟨rfl,?_⟩
 have e:decide (V.str i=V.str j)=decide (i=j):=by simp
 rw[e]
 exact f _ M r _ H (KT.refl H) am (.bl _))
end
structure jM(K:Ly)(H1:Hp)(J:It)(ds:List D)(stay:Mem→Prop):Prop where
 go:∀ i H' M',i<ds.length→KT H1 H'→j8 K H' M'→stay M'→J.go i H'
 yld:∀ i H' M' x H'',i<ds.length→KT H1 H'→j8 K H' M'→stay M'→J.yld i H' x H''→∃ d,ds[i]? = some d∧KT H' H''∧j8 K H'' M'∧Has K H'' x d
 stop:∀ i H' M',ds.length≤i→KT H1 H'→j8 K H' M'→stay M'→J.stop i H'
 up:∀ M' p o,stay M'→M' p=none→stay (v7 M' p o)
def upI(K:Ly)(ti:DTI):TI:=fun σ H R=>∃ e M R',v6 K H σ e∧j8 K H M∧ti e M R'∧∀ ds stay M1,R' ds stay M1→∀ H1,KT H H1→j8 K H1 M1→∀ J,jM K H1 J ds stay→R J H1
def DPI(X:Cx)(tg iter:Expr)(ti:DTI):Prop:=PI X tg iter (upI X.K ti)
structure JI(X:Cx)(tg iter:Expr)(ti:DTI):Prop where
 out:DPI X tg iter ti
theorem PI.imp{X:Cx}{tg iter:Expr}{wi wi':TI}(h:PI X tg iter wi)(i:∀ σ H R,wi' σ H R→wi σ H R):PI X tg iter wi':=fun pins s σ H R I q=>h pins s σ H R I (i σ H R q)
section
variable {X:Cx} {tg iter:Expr} {ti:DTE} {ta:DTA}
theorem tW{K:Ly}{H1:Hp}{a:Addr}{xs:List V}{ds:List D}(s:SqT K H1 a xs)(l:HasL K H1 xs ds):jM K H1 (Itt K a) ds (fun _=>True) where
 go:=fun i H' M' hi k _ _=>⟨xs,_,k.sq s,LU (by rw[l.length];exact hi)⟩
 yld:=fun i H' M' x H'' hi k am _ zz=>by
  obtain⟨e,y⟩:=zz
  subst e
  obtain⟨d,hd,r⟩:=l.getV (y xs (k.sq s))
  exact⟨d,hd,KT.refl _,am,r.mono k⟩
 stop:=fun i H' M' hi k _ _=>⟨xs,k.sq s,by rw[l.length];exact hi⟩
 up:=fun _ _ _ _ _=>trivial
theorem tY{K:Ly}{H1:Hp}{p:Addr}{ds:List D}:jM K H1 (Itl K p) ds (fun M'=>M' p=some (.lst ds)) where
 go:=fun i H' M' hi k am st=>by
  obtain⟨ys,hy,ly⟩:=am.lst st
  exact⟨ys,_,SqL.of hy,LU (by rw[ly.length];exact hi)⟩
 yld:=fun i H' M' x H'' hi k am st zz=>by
  obtain⟨e,y⟩:=zz
  subst e
  obtain⟨ys,hy,ly⟩:=am.lst st
  obtain⟨d,hd,r⟩:=ly.getV (y ys (SqL.of hy))
  exact⟨d,hd,KT.refl _,am,r⟩
 stop:=fun i H' M' hi k am st=>by
  obtain⟨ys,hy,ly⟩:=am.lst st
  exact⟨ys,SqL.of hy,by rw[ly.length];exact hi⟩
 up:=fun M' q o st hq=>by rw[E2 (by intro e;subst e;rw[hq]at st;cases st)];exact st
theorem kL{K:Ly}{H1:Hp}{lo:Int}{n:Nat}:jM K H1 (Itr lo n) (D6 lo n) (fun _=>True) where
 go:=fun i H' M' hi k am st=>by rw[B4]at hi;exact hi
 yld:=fun i H' M' x H'' hi k am st zz=>by
  obtain⟨e,y⟩:=zz
  subst e;subst y
  rw[B4]at hi
  exact⟨_,dm hi,KT.refl _,am,.int _⟩
 stop:=fun i H' M' hi k am st=>by rw[B4]at hi;exact hi
 up:=fun _ _ _ _ _=>trivial
theorem js{a:Expr}{p p2:Pos}(hr:Gl X "range")(hm:X.mg "range" = none)(ha:JA X [a] ta)(hs0:starEach [a] X.env=[(false,eval a X.env)]:=by rfl):JI X tg (.Call (.Name "range" p) [a] [] p2) (Cj ta):=⟨have ha:=ha.out;PI.imp (rz hr hm ha hs0) (by rintro σ H R ⟨e,M,R',ok,am,t,f⟩;exact⟨e,M,_,ok,am,t,fun ds M1 ⟨j,z,b1,b2,r⟩ vs H1 k1 a1 r1=>by
  subst z
  obtain⟨v,rfl,hv⟩:=r1.one
  cases hv
  exact⟨j,rfl,b1,b2,f _ _ M1 r H1 k1 a1 _ kL⟩⟩)⟩
theorem vT{a b:Expr}{p p2:Pos}(hr:Gl X "range")(hm:X.mg "range" = none)(ha:JA X [a,b] ta)(hs0:starEach [a,b] X.env=[(false,eval a X.env),(false,eval b X.env)]:=by rfl)(hs1:starEach [b] X.env=[(false,eval b X.env)]:=by rfl):JI X tg (.Call (.Name "range" p) [a,b] [] p2) (wN ta):=⟨have ha:=ha.out;PI.imp (rq hr hm ha hs0 hs1) (by rintro σ H R ⟨e,M,R',ok,am,t,f⟩;exact⟨e,M,_,ok,am,t,fun ds M1 ⟨i,j,z,b1,r⟩ vs H1 k1 a1 r1=>by
  subst z
  cases r1 with
  | cons h1 r1 =>
   obtain⟨v,rfl,hv⟩:=r1.one
   cases h1
   cases hv
   exact⟨i,j,rfl,b1,f _ _ M1 r H1 k1 a1 _ kL⟩⟩)⟩
def j6(M:Mem)(x:D)(ds:List D):Prop:=x = .tup ds∨(∃ p,x = .ref p∧M p=some (.lst ds))∨x = .vl ds
noncomputable def bL:D→Bool
 | .tup _=>false
 | _=>true
theorem j3{K:Ly}{H:Hp}{M:Mem}{v:V}{x:D}{ds:List D}(h:j6 M x ds)(am:j8 K H M)(r:Has K H v x):∃ a xs,v = .ref a∧SqK K (bL x) H a xs∧HasL K H xs ds:=by
 rcases h with rfl|⟨p,rfl,m⟩|rfl
 rotate_left 2
 ·obtain⟨a,xs,e,sq,l⟩:=r.il
  exact⟨a,xs,e,sq,l⟩
 ·cases r with
  | tup s l=>exact⟨_,_,rfl,s,l⟩
 ·cases r
  obtain⟨xs,hx,l⟩:=am.lst m
  exact⟨p,xs,rfl,SqL.of hx,l⟩
theorem G0{M:Mem}{x:D}{ds:List D}{q:Addr}{o:MO}(h:j6 M x ds)(hq:M q=none):j6 (v7 M q o) x ds:=by
 rcases h with h|⟨p,e,h⟩|h
 ·exact .inl h
 ·exact .inr (.inl ⟨p,e,by rw[E2 (by intro e;subst e;rw[hq]at h;cases h)];exact h⟩)
 ·exact .inr (.inr h)
noncomputable def aT(ds es:List D):List D:=List.zipWith (fun a b=>.tup [a,b]) ds es
theorem bu(ds es:List D):(aT ds es).length=min ds.length es.length:=by simp[aT]
theorem so{ds es:List D}{i:Nat}{a b:D}(h1:ds[i]? = some a)(h2:es[i]? = some b):(aT ds es)[i]? = some (.tup [a,b]):=by
 unfold aT
 rw[OK,h1,h2]
theorem tV{K:Ly}{H1:Hp}{x y:D}{l1 l2:Addr}{ds es:List D}(h1:Has K H1 (.ref l1) x)(h2:Has K H1 (.ref l2) y) :
  jM K H1 (Itz K (bL x) (bL y) l1 l2) (aT ds es) (fun M'=>j6 M' x ds∧j6 M' y es) where
 go:=fun i H' M' hi k am zz=>by
  obtain⟨s1,s2⟩:=zz
  rw[bu]at hi
  obtain⟨a,xs,e1,q1,m1⟩:=j3 s1 am (h1.mono k)
  obtain⟨b,ys,e2,q2,m2⟩:=j3 s2 am (h2.mono k)
  cases e1;cases e2
  exact⟨xs,ys,_,_,q1,q2,LU (by rw[m1.length];omega),LU (by rw[m2.length];omega)⟩
 yld:=fun i H' M' v H'' hi k am ⟨s1,s2⟩ ⟨T,a,b,hT,ev,eH,u1,u2⟩=>by
  subst ev;subst eH
  obtain⟨a',xs,e1,q1,m1⟩:=j3 s1 am (h1.mono k)
  obtain⟨b',ys,e2,q2,m2⟩:=j3 s2 am (h2.mono k)
  cases e1;cases e2
  obtain⟨d1,g1,r1⟩:=m1.getV (u1 xs q1)
  obtain⟨d2,g2,r2⟩:=m2.getV (u2 ys q2)
  have kt:KT H' (upd H' T (.tup [a,b])):=KT.alloc hT
  exact⟨_,so g1 g2,kt,am.alloc hT,.tup (SqT.of i3) (.cons (r1.mono kt) (.cons (r2.mono kt) .nil))⟩
 stop:=fun i H' M' hi k am zz=>by
  obtain⟨s1,s2⟩:=zz
  rw[bu]at hi
  obtain⟨a,xs,e1,q1,m1⟩:=j3 s1 am (h1.mono k)
  obtain⟨b,ys,e2,q2,m2⟩:=j3 s2 am (h2.mono k)
  cases e1;cases e2
  refine⟨xs,ys,q1,q2,?_⟩
  rw[m1.length,m2.length]
  omega
 up:=fun _ _ _ st hq=>⟨G0 st.1 hq,G0 st.2 hq⟩
def Cg(ta:DTA):DTI:=fun e M R=>ta e M fun xs M1=>∃ x y ds es,xs=[x,y]∧j6 M1 x ds∧j6 M1 y es∧R (aT ds es) (fun M'=>j6 M' x ds∧j6 M' y es) M1
theorem Au{elts:List Expr}{kx:Nat}{tp:Pos}{a b:Expr}{p pos:Pos}(hg:Gl X "zip")(hm:X.mg "zip" = none)(ha:JA X [a,b] ta)
  (hs:starEach [a,b] X.env=[(false,eval a X.env),(false,eval b X.env)]:=by rfl) (hs2:starEach [b] X.env=[(false,eval b X.env)]:=by rfl):JI X (.Tuple elts kx tp) (.Call (.Name "zip" p) [a,b] [] pos) (Cg ta):=⟨have ha:=ha.out;PI.imp (DH hg hm ha hs hs2) (by rintro σ H R ⟨e,M,R',ok,am,t,f⟩;exact⟨e,M,_,ok,am,t,fun xs M1 ⟨x,y,ds,es,z,s1,s2,r⟩ vs H1 k1 a1 r1=>by
  subst z
  obtain⟨v,v',rfl,hv,hv'⟩:=r1.two
  obtain⟨a,zs,rfl,q1,m1⟩:=j3 s1 a1 hv
  obtain⟨b,ws,rfl,q2,m2⟩:=j3 s2 a1 hv'
  exact⟨_,_,a,b,rfl,⟨zs,q1⟩,⟨ws,q2⟩,f _ _ M1 r H1 k1 a1 _ (tV hv hv')⟩⟩)⟩
end
section
variable {X:Cx} {tg iter:Expr} {body:List Stmt} {ti:DTI} {g:DTG} {tb:DTS} {pos:Pos}
theorem t4(hp:PassesOwn (model X.prog X.w) X.A X.env X.xe)(hc:X.calm=true)(hi:JI X tg iter ti)(hg:JG X tg g)(hb:JSs X body tb)
  (hs:∀ x,foldedSetIterable iter X.env x=pure x:=by intro _;rfl):JS X (.For tg iter body [] pos) (Hh ti g tb):=⟨have hi:=hi.out;have hg:=hg.out;have hb:=hb.out;(DF hp hc hi hg hb hs).imp (by rintro E σ H ⟨e,M,F,ok,am,t,f⟩;exact⟨e,M,_,ok,am,t,fun ds stay M1 ⟨W,w0,hst,step,done⟩ H1 k1 a1 J wk=>by
  refine⟨fun i m σ' H'=>m=ds.length - i∧i≤ds.length∧∃ e' M',KT H1 H'∧v6 X.K H' σ' e'∧j8 X.K H' M'∧W i e' M',⟨ds.length,by simp,Ms _,e,M1,KT.refl H1,ok.mono k1,a1,w0⟩,?_⟩
  rintro i m σ2 H2 ⟨rfl,hi,e2,M2,k2,ok2,a2,w2⟩
  have st:=hst i e2 M2 hi w2
  by_cases hlt:i<ds.length
  ·refine .inr ⟨wk.go i H2 M2 hlt k2 a2 st,fun σ' H'=>∃ e' M',KT H1 H'∧v6 X.K H' σ' e'∧j8 X.K H' M'∧W (i+1) e' M',fun σ' H' h=>⟨ds.length - (i+1),by omega,rfl,hlt,h⟩,fun y H' yl=>?_⟩
   obtain⟨d,hd,k3,a3,r⟩:=wk.yld i H2 M2 y H' hlt k2 a2 st yl
   exact wD f k1 (k2.trans k3) (ok2.mono k3) a3 r (step i d e2 M2 hd w2)
  ·have e':i=ds.length:=by omega
   subst e'
   exact .inl ⟨wk.stop _ H2 M2 (LQ _) k2 a2 st,f.nx e2 M2 (done e2 M2 w2) σ2 H2 (k1.trans k2) a2 ok2⟩⟩)⟩
end
noncomputable def mC(n:Nat)(caps:List Nat)(e:Ev):Ev:=Nb n none++caps.map fun i=>(e[i]?).getD none
theorem AF{K:Ly}{H:Hp}{σ:St}{e:Ev}(n:Nat)(caps:List Nat)(ok:v6 K H σ e):v6 K H (jH n caps σ) (mC n caps e):=by
 refine⟨by simp[jH,mC],fun i d h=>?_⟩
 unfold mC at h
 unfold jH
 rw[NN]at h ⊢
 rw[NG]at h ⊢
 by_cases hi:i<n
 ·rw[if_pos hi]at h
  rw[ML]at h
  split at h<;>cases h
 ·rw[if_neg hi]at h ⊢
  rw[LY]at h ⊢
  cases hj:caps[i - n]? with
  | none=>rw[hj]at h;cases h
  | some j =>
   rw[hj]at h
   have h':(e[j]?).getD none=some d:=by simpa using h
   have he:e[j]? = some (some d):=by
    cases q:e[j]? with
    | none=>rw[q]at h';cases h'
    | some z=>rw[q]at h';rw[show z=some d by simpa using h']
   obtain⟨v,h1,h2⟩:=ok.has j d he
   exact⟨v,by simp[h1],h2⟩
theorem aQ{p:Str→Prop}{a:Str}(h:p a):∀ x∈[a],p x:=fun x hx=>by
 simp only[LB,LK,or_false]at hx
 subst hx;exact h
theorem Hv{p:Str→Prop}{a b c d:Str}(h:p a)(h2:p b)(h3:p c)(h4:p d):∀ x∈[a,b,c,d],p x:=fun x hx=>by
 simp only[LB,LK,or_false]at hx
 rcases hx with rfl|rfl|rfl|rfl
 ·exact h
 ·exact h2
 ·exact h3
 ·exact h4
section
variable {X:Cx}
def Ij(K:Ly)(tl:TE):TI:=fun σ H R=>tl σ H fun x H1=>∃(a:Addr) (k:Bool),x = .ref a∧(∃ xs,SqK K k H1 a xs)∧R (if k=true then Itl K a else Itt K a) H1
theorem DI{tg l:Expr}{tl:TE}(hl:PE X l tl):PI X tg l (Ij X.K tl):=by
 intro pins s σ H R I h
 refine thn (hl pins s σ H _ I h) fun v s1 zz=>?_
 obtain⟨x,H1,I1,r1,q1⟩:=zz
 obtain⟨a,k,e,⟨xs,hq⟩,q⟩:=q1
 subst e
 cases r1
 obtain⟨its,rv,p⟩:=I1.sqk hq
 have nf:∀ b∈[s1.heap.objs.size],W1 X pins H1 b:=fun b hb=>by
  have e:b=s1.heap.objs.size:=by simpa using hb
  subst e
  exact I1.fpOk (LQ _) (I1.hok.fresh (LQ _))
 cases k with
 | true=>exact wpAny_pyIter_list p ⟨s1.heap.objs.size,[s1.heap.objs.size],_,_,H1,rfl,I1.kept (t':=s1.toks) fun b o e=>Lx _ e,qV a _,⟨_,LC _ rfl,rfl,rfl⟩,nf,q⟩
 | false=>exact wpAny_pyIter_tuple p ⟨s1.heap.objs.size,[s1.heap.objs.size],_,_,H1,rfl,I1.kept (t':=s1.toks) fun b o e=>Lx _ e,mO a _,⟨_,LC _ rfl,rfl,rfl⟩,nf,q⟩
def Ci(ti:DTE):DTI:=fun e M R=>ti e M fun x M1=>∃ ds,j6 M1 x ds∧R ds (fun M'=>j6 M' x ds) M1
theorem o8{tg iter:Expr}{ti:DTE}(hi:JE X iter ti):JI X tg iter (Ci ti):=⟨have hi:=hi.out;PI.imp (DI hi) (by rintro σ H R ⟨e,M,R',ok,am,t,f⟩;exact⟨e,M,_,ok,am,t,fun x M1 ⟨ds,sq,r⟩ v H1 k1 a1 r1=>by
 have sq':=sq
 rcases sq with rfl|⟨p,rfl,hm⟩|rfl
 rotate_left 2
 ·obtain⟨a,xs,rfl,sq,l⟩:=r1.il
  have wk:jM X.K H1 (Itl X.K a) ds (fun M'=>j6 M' (.vl ds) ds):=⟨fun i H' M' hi k am _=>by
    obtain⟨a',ys,e,sq',l'⟩:=(r1.mono k).il
    cases e
    exact⟨ys,_,sq',LU (by rw[l'.length];exact hi)⟩,
   fun i H' M' x H'' hi k am _ zz=>by
    obtain⟨e,y⟩:=zz
    subst e
    obtain⟨a',ys,e,sq',l'⟩:=(r1.mono k).il
    cases e
    obtain⟨d,hd,r⟩:=l'.getV (y ys sq')
    exact⟨d,hd,KT.refl _,am,r⟩,
   fun i H' M' hi k am _=>by
    obtain⟨a',ys,e,sq',l'⟩:=(r1.mono k).il
    cases e
    exact⟨ys,sq',by rw[l'.length];exact hi⟩,fun _ _ _ st hq=>G0 st hq⟩
  exact⟨a,true,rfl,⟨xs,sq⟩,f ds _ M1 r H1 k1 a1 _ wk⟩
 ·cases r1 with
  | tup s l =>
   refine⟨_,false,rfl,⟨_,s⟩,f ds _ M1 r H1 k1 a1 _ ?_⟩
   have w:=tW (K:=X.K) s l
   exact⟨fun i H' M' a b c _=>w.go i H' M' a b c trivial,fun i H' M' y H2 a b c _ g=>w.yld i H' M' y H2 a b c trivial g,fun i H' M' a b c _=>w.stop i H' M' a b c trivial,fun _ _ _ st hq=>G0 st hq⟩
 ·cases r1
  obtain⟨xs,hx,l⟩:=a1.lst hm
  refine⟨p,true,rfl,⟨xs,SqL.of hx⟩,f ds _ M1 r H1 k1 a1 _ ?_⟩
  have w:=tY (K:=X.K) (H1:=H1) (p:=p) (ds:=ds)
  have cv:∀{M':Mem},j6 M' (.ref p) ds→M' p=some (.lst ds):=fun z=>by
   rcases z with z|⟨p',z,h⟩|z
   ·cases z
   ·cases z;exact h
   ·cases z
  exact⟨fun i H' M' a b c z=>w.go i H' M' a b c (cv z),fun i H' M' y H2 a b c z g=>w.yld i H' M' y H2 a b c (cv z) g,fun i H' M' a b c z=>w.stop i H' M' a b c (cv z),fun _ _ _ st hq=>G0 st hq⟩⟩)⟩
end
theorem Em{K:Ly}{mg:Str→Option Value}{h:Heap}{x:Str}{i:Int}{t:Tok}(X:K.In h)(G:h.Ns mainGlobals mg)(n:PySem.W.nsIn K mainGlobals x=some (some (.int i t))):GlD K mg x (.int i) :=
 ⟨.int i,.int i t,PySem.W.mg_of X G n,⟨t,rfl⟩,fun _=>.int i⟩
theorem qJ{ds:List D}{r:Int}(h0:0≤r)(h1:r<ds.length):∃ d,atI ds r=some d∧d∈ds:=by
 unfold atI ixN
 rw[if_pos h0,if_pos h1]
 have hl:r.toNat<ds.length:=by omega
 exact⟨ds[r.toNat],by simp[hl],PB hl⟩
section
variable {X:Cx}
def AE:DRC:=fun ds M R=>∃ x ys,ds=[x]∧j6 M x ys∧∀ p,M p=none→R (.ref p) (v7 M p (.lst ys))
theorem xm:Q4 X (.type "list") AE:=t6.imp aN (by
 rintro xs H Q ⟨ds,M,R,hl,am,⟨x,ys,z,e,r⟩,f⟩
 subst z
 obtain⟨v,rfl,hv⟩:=hl.one
 rcases e with rfl|⟨p,rfl,hm⟩|rfl
 rotate_left 2
 ·obtain⟨a,xs,rfl,sq,l⟩:=hv.il
  exact⟨a,xs,rfl,.inl sq,fun p hp=>f _ _ (r p (am.fresh hp)) _ _ (KT.alloc hp) (am.new hp l) (.ref p)⟩
 ·cases hv with
  | tup s l=>exact⟨_,_,rfl,.inr s,fun p hp=>f _ _ (r p (am.fresh hp)) _ _ (KT.alloc hp) (am.new hp l) (.ref p)⟩
 ·cases hv
  obtain⟨zs,hx,l⟩:=am.lst hm
  exact⟨p,zs,rfl,.inl (SqL.of hx),fun q hq=>f _ _ (r q (am.fresh hq)) _ _ (KT.alloc hq) (am.new hq l) (.ref q)⟩)
end
section
variable {X:Cx}
def qt:DRM:=fun x xs M R=>∃ l ds v,x = .ref l∧xs=[v]∧M l=some (.lst ds)∧ds.length<sizeLine∧R .non (v7 M l (.lst (ds++[v])))
theorem D8:DMt X "list.append" qt:=MtR.imp (r:=qg) gq (by
 rintro x xs H Q ⟨dx,ds,M,R,hx,hl,am,⟨l,es,v,e1,e2,hM,hz,r⟩,f⟩
 subst e1;subst e2
 cases hx
 obtain⟨w,rfl,hw⟩:=hl.one
 obtain⟨ys,hy,ly⟩:=am.lst hM
 exact⟨l,ys,w,rfl,rfl,hy,by rw[ly.length];exact hz,f _ _ r _ _ (KT.write hy) (am.write hy (ly.append (.cons hw .nil))) .non⟩)
end
section
variable {X:Cx}
end
noncomputable abbrev DTO:=Ev→Mem→(Option Int→Mem→Prop)→Prop
def upO(K:Ly)(t:DTO):TO:=fun σ H Q=>∃ e M R,v6 K H σ e∧j8 K H M∧t e M R∧∀ o M',R o M'→∀ H',KT H H'→j8 K H' M'→Q o H'
def DPO(X:Cx)(e:Option Expr)(t:DTO):Prop:=PO X e (upO X.K t)
structure JO(X:Cx)(e:Option Expr)(t:DTO):Prop where
 out:DPO X e t
def qC:DTO:=fun _ M R=>R none M
def Co(t:DTE):DTO:=fun e M R=>t e M fun x M1=>∃ i,x = .int i∧R (some i) M1
theorem PO.imp{X:Cx}{e:Option Expr}{t t':TO}(h:PO X e t)(i:∀ σ H Q,t' σ H Q→t σ H Q):PO X e t':=fun pins s σ H Q I q=>h pins s σ H Q I (i σ H Q q)
section
variable {X:Cx} {e:Expr} {te:DTE} {lo hi:Option Expr} {tl th:DTO} {pos p2:Pos}
theorem L5:JO X none qC:=⟨PO.imp zI (by rintro σ H Q ⟨e,M,R,ok,am,t,f⟩;exact f none M t H (KT.refl H) am)⟩
theorem L4(h:JE X e te):JO X (some e) (Co te):=⟨have h:=h.out;PO.imp (zH h) (by rintro σ H Q ⟨e,M,R,ok,am,t,f⟩;exact⟨e,M,_,ok,am,t,fun x M1 ⟨i,z,r⟩ v H1 k1 a1 r1=>by
 subst z;cases r1
 exact⟨i,rfl,f (some i) M1 r H1 k1 a1⟩⟩)⟩
noncomputable def Y5(ds:List D)(lo hi:Option Int):List D:=(ds.drop (HT.sIx ds.length 0 lo)).take (HT.sIx ds.length ds.length hi - HT.sIx ds.length 0 lo)
theorem HasL.cut{K:Ly}{H:Hp}{xs:List V}{ds:List D}(h:HasL K H xs ds)(lo hi:Option Int):HasL K H (mr xs lo hi) (Y5 ds lo hi):=by
 unfold mr Y5
 rw[h.length]
 exact(h.drop _).take _
def Im(x:D)(lo hi:Option Int)(M:Mem)(R:DK):Prop:=∃ ds,F4 M x=some ds∧∀ p,M p=none→R (.ref p) (v7 M p (.lst (Y5 ds lo hi)))
def dSl(te:DTE)(tl th:DTO):DTE:=fun e M R=>te e M fun x M1=>tl e M1 fun l M2=>th e M2 fun u M3=>Im x l u M3 R
theorem vY(he:JE X e te)(hl:JO X lo tl)(hu:JO X hi th):JE X (.Subscript e (.Slice lo hi none p2) pos) (dSl te tl th):=⟨have he:=he.out;have hl:=hl.out;have hu:=hu.out;(lF pY he hl hu).imp (by rintro σ H Q ⟨e,M,R,ok,am,t,f⟩;exact⟨e,M,_,ok,am,t,fun x M1 h1 v H1 k1 a1 r1=>⟨e,M1,_,ok.mono k1,a1,h1,fun l M2 h2 H2 k2 a2=>⟨e,M2,_,(ok.mono k1).mono k2,a2,h2,fun u M3 ⟨ds,hi,r⟩ H3 k3 a3=>by
  obtain⟨a,xs,rfl,sq,lx⟩:=u8 a3 ((r1.mono k2).mono k3) hi
  exact⟨a,xs,rfl,sq,fun p hp=>f _ _ (r p (a3.fresh hp)) _ _ ((k1.trans (k2.trans k3)).trans (KT.alloc hp)) (a3.new hp (lx.cut l u)) (.ref p)⟩⟩⟩⟩)⟩
end
noncomputable def T0(ds:List D):List D:=ds.mapIdx fun i d=>.tup [.int i,d]
theorem P8(ds:List D):(T0 ds).length=ds.length:=by simp[T0]
theorem rP{ds:List D}{i:Nat}{d:D}(h:ds[i]? = some d):(T0 ds)[i]? = some (.tup [.int i,d]):=by
 unfold T0
 rw[OS,h];rfl
theorem wI{ds:List D}{i:Nat}{x:D}(h:(T0 ds)[i]? = some x):∃ d,ds[i]? = some d∧x = .tup [.int i,d]:=by
 unfold T0 at h
 rw[OS]at h
 cases e:ds[i]? with
 | none=>rw[e]at h;cases h
 | some d=>rw[e]at h;exact⟨d,rfl,(Option.some.inj h).symm⟩
theorem qT{K:Ly}{H1:Hp}{x:D}{l:Addr}{ds:List D}(h1:Has K H1 (.ref l) x):jM K H1 (Ite K (bL x) l) (T0 ds) (fun M'=>j6 M' x ds) where
 go:=fun i H' M' hi k am s1=>by
  rw[P8]at hi
  obtain⟨a,xs,e1,q1,m1⟩:=j3 s1 am (h1.mono k)
  cases e1
  exact⟨xs,_,q1,LU (by rw[m1.length];omega)⟩
 yld:=fun i H' M' v H'' hi k am s1 zz=>by
  obtain⟨T,a,hT,ev,eH,u1⟩:=zz
  subst ev;subst eH
  obtain⟨a',xs,e1,q1,m1⟩:=j3 s1 am (h1.mono k)
  cases e1
  obtain⟨d1,g1,r1⟩:=m1.getV (u1 xs q1)
  have kt:KT H' (upd H' T (.tup [.int i,a])):=KT.alloc hT
  exact⟨_,rP g1,kt,am.alloc hT,.tup (SqT.of i3) (.cons (.int _) (.cons (r1.mono kt) .nil))⟩
 stop:=fun i H' M' hi k am s1=>by
  rw[P8]at hi
  obtain⟨a,xs,e1,q1,m1⟩:=j3 s1 am (h1.mono k)
  cases e1
  exact⟨xs,q1,by rw[m1.length];exact hi⟩
 up:=fun _ _ _ st hq=>G0 st hq
section
variable {X:Cx} {ta:DTA}
def wO(ta:DTA):DTI:=fun e M R=>ta e M fun xs M1=>∃ x ds,xs=[x]∧j6 M1 x ds∧R (T0 ds) (fun M'=>j6 M' x ds) M1
theorem vU{elts:List Expr}{kx:Nat}{tp:Pos}{a:Expr}{p pos:Pos}(hg:Gl X "enumerate")(hm:X.mg "enumerate" = none)(ha:JA X [a] ta)(hs:starEach [a] X.env=[(false,eval a X.env)]:=by rfl):JI X (.Tuple elts kx tp) (.Call (.Name "enumerate" p) [a] [] pos) (wO ta):=⟨have ha:=ha.out;PI.imp (zK hg hm ha hs) (by rintro σ H R ⟨e,M,R',ok,am,t,f⟩;exact⟨e,M,_,ok,am,t,fun xs M1 ⟨x,ds,z,s1,r⟩ vs H1 k1 a1 r1=>by
  subst z
  obtain⟨v,rfl,hv⟩:=r1.one
  obtain⟨a,zs,rfl,q1,m1⟩:=j3 s1 a1 hv
  exact⟨_,a,rfl,⟨zs,q1⟩,f _ _ M1 r H1 k1 a1 _ (qT hv)⟩⟩)⟩
end
noncomputable def bU(M:Mem)(a:Addr):Mem:=fun b=>if b=a then none else M b
theorem jA{M:Mem}{a b:Addr}(h:b≠a):bU M a b=M b:=by unfold bU;rw[if_neg h]
theorem aK{M:Mem}{a:Addr}{o:MO}(h:M a=none):bU (v7 M a o) a=M:=by
 funext b;unfold bU v7;by_cases e:b=a
 ·rw[if_pos e,e,h]
 ·rw[if_neg e,if_neg e]
section
variable {K:Ly} {H:Hp} {M:Mem} {p:Addr}
theorem j8.at{o:HO}(h:j8 K H M)(k:KT0 H (upd H p o))(hp:M p=none):j8 K (upd H p o) M:=fun a u m=>by
 cases u with
 | lst ds =>
  obtain⟨xs,z,l⟩:=h a _ m
  have hn:a≠p:=by intro e;subst e;rw[hp]at m;cases m
  exact⟨xs,by rw[g7 hn];exact z,l.mono0 k⟩
 | ins C fs =>
  obtain⟨C0,dx,ys,z,l,hc⟩:=h a _ m
  have hn:a≠p:=by intro e;subst e;rw[hp]at m;cases m
  exact⟨C0,dx,ys,by rw[g7 hn];exact z,l.mono0 k,hc⟩
theorem j8.del(h:j8 K H M):j8 K H (bU M p):=fun a u m=>by
 by_cases e:a=p
 ·subst e;unfold bU at m;rw[if_pos rfl]at m;cases m
 ·rw[jA e]at m;exact h a u m
theorem rR:bU M p p=none:=by unfold bU;rw[if_pos rfl]
theorem j8.none_ext{φ:Heap→Prop}(h:j8 K H M)(e:H p=some (.ext φ)):M p=none:=by
 cases q:M p with
 | none=>rfl
 | some o =>
  cases o with
  | lst ds=>obtain⟨xs,z,_⟩:=h p _ q;rw[e]at z;cases z
  | ins C fs=>obtain⟨_,dx,ys,z,_⟩:=h p _ q;rw[e]at z;cases z
end
section
variable {X:Cx} {x:Expr} {t:DTE} {es:List Expr} {tr:DTA} {pos:Pos}
def Hg(t:DTE):DTE:=fun e M R=>t e M fun x M1=>∃ p ds,x = .ref p∧M1 p=some (.lst ds)∧R (.vl ds) (bU M1 p)
theorem bf(h:JE X x t):JE X x (Hg t):=⟨have h:=h.out;(aY h).imp (by rintro σ H Q ⟨e,M,R,ok,am,t,f⟩;exact⟨e,M,_,ok,am,t,fun d M1 ⟨p,ds,z,hm,r⟩ v H1 k1 a1 r1=>by
 subst z
 cases r1
 obtain⟨xs,hx,lx⟩:=a1.lst hm
 exact⟨p,xs,rfl,hx,fun o=>f _ _ r _ _ (k1.trans (KT.any hx)) (a1.del.at (KT.any hx).toKT0 rR) (.vl (.inl ⟨o,i3⟩) (lx.mono (KT.any hx)))⟩⟩)⟩
def Hi(t:DTE):DTE:=fun e M R=>t e M fun x M1=>∃ M2:Mem,(∀ b o,M2 b=some o→M1 b=some o)∧R x M2
theorem bg(h:JE X x t):JE X x (Hi t):=⟨have h:=h.out;PE.imp h (by rintro σ H Q ⟨e,M,R,ok,am,t,f⟩;exact⟨e,M,_,ok,am,t,fun d M1 ⟨M2,hs,r⟩ v H1 k1 a1 r1=>f d M2 r v H1 k1 (fun a o q=>a1 a o (hs a o q)) r1⟩)⟩
def Cr(t:DTA):DTE:=fun e M R=>t e M fun ds M1=>ds.length≤sizeLine∧R (.vl ds) M1
theorem aI{K:Ly}{H0 H:Hp}{M:Mem}{R:DK}{Q:VK}{vs:List V}{ds:List D}(f:dQ K H0 R Q)(k:KT H0 H)(am:j8 K H M)(l:HasL K H vs ds)(r:R (.vl ds) M)(p:Addr)(hp:H p=none) :
  ∃ q xs,V.ref p = .ref q∧upd H p (.lst vs) q=some (.lst xs)∧∀ o,Q (.ref p) (upd (upd H p (.lst vs)) q (.frz o (.lst xs))) :=
 ⟨p,vs,rfl,i3,fun o=>by
  rw[Z0]
  exact f _ M r _ _ (k.trans (KT.alloc hp)) (am.alloc hp) (.vl (.inl ⟨o,i3⟩) (l.mono (KT.alloc hp)))⟩
theorem p8(h:JA X es tr):JE X (.List es pos) (Cr tr):=⟨have h:=h.out;(aY (vn h)).imp (by rintro σ H Q ⟨e,M,R,ok,am,t,f⟩;exact⟨e,M,_,ok,am,t,fun ds M1 ⟨hz,h1⟩ vs H1 k1 a1 r1=>⟨by rw[r1.length];exact hz,fun p hp=>aI f k1 a1 r1 h1 p hp⟩⟩)⟩
def wy(x y:D)(M:Mem)(R:DK):Prop:=∃ xs ys,F4 M x=some xs∧F4 M y=some ys∧xs.length+ys.length≤sizeLine∧R (.vl (xs++ys)) M
def Ct(ta tb:DTE):DTE:=fun e M R=>ta e M fun x M1=>tb e M1 fun y M2=>wy x y M2 R
theorem jt{a b:Expr}{ta tb:DTE}(ha:JE X a ta)(hb:JE X b tb):JE X (.BinOp a .Add b pos) (Ct ta tb):=⟨have ha:=ha.out;have hb:=hb.out;(aY (Ca zX ha hb)).imp (by rintro σ H Q ⟨e,M,R,ok,am,t,f⟩;exact⟨e,M,_,ok,am,t,fun x M1 h1 v H1 k1 a1 r1=>⟨e,M1,_,ok.mono k1,a1,h1,fun y M2 ⟨xs,ys,e1,e2,hz,r⟩ u H2 k2 a2 r2=>by
  obtain⟨a,vs,rfl,s1,l1⟩:=u8 a2 (r1.mono k2) e1
  obtain⟨b,ws,rfl,s2,l2⟩:=u8 a2 r2 e2
  exact⟨a,b,vs,ws,rfl,rfl,s1,s2,by rw[l1.length,l2.length];exact hz,fun p hp=>aI f (k1.trans k2) a2 (l1.append l2) r p hp⟩⟩⟩)⟩
def AD(x:D)(lo hi:Option Int)(M:Mem)(R:DK):Prop:=(∃ ds,F4 M x=some ds∧R (.vl (Y5 ds lo hi)) M) ∨ ∃ ds,x = .tup ds∧¬ (HT.sIx ds.length 0 lo=0∧HT.sIx ds.length ds.length hi=ds.length)∧R (.tup (Y5 ds lo hi)) M
def GZ(te:DTE)(tl th:DTO):DTE:=fun e M R=>te e M fun x M1=>tl e M1 fun l M2=>th e M2 fun u M3=>AD x l u M3 R
theorem V1{e:Expr}{te:DTE}{lo hi:Option Expr}{tl th:DTO}{p2:Pos}(he:JE X e te)(hl:JO X lo tl)(hu:JO X hi th):JE X (.Subscript e (.Slice lo hi none p2) pos) (GZ te tl th):=⟨have he:=he.out;have hl:=hl.out;have hu:=hu.out;(zP (lF (SlR.or pY Dg) he hl hu)).imp (by rintro σ H Q ⟨e,M,R,ok,am,t,f⟩;exact⟨e,M,_,ok,am,t,fun x M1 h1 v H1 k1 a1 r1=>⟨e,M1,_,ok.mono k1,a1,h1,fun l M2 h2 H2 k2 a2=>⟨e,M2,_,(ok.mono k1).mono k2,a2,h2,fun u M3 h3 H3 k3 a3=>by
  rcases h3 with⟨ds,hi,r⟩|⟨ds,rfl,hw,r⟩
  ·obtain⟨a,xs,rfl,sq,lx⟩:=u8 a3 ((r1.mono k2).mono k3) hi
   exact .inl ⟨a,xs,rfl,sq,fun p hp=>.inl (aI f (k1.trans (k2.trans k3)) a3 (lx.cut l u) r p hp)⟩
  ·cases(r1.mono k2).mono k3 with
   | tup sq lx =>
    exact .inr ⟨_,_,rfl,sq,by rw[lx.length];exact hw,fun p hp=>.inr (f _ M3 r _ _ ((k1.trans (k2.trans k3)).trans (KT.alloc hp)) (a3.alloc hp) (.tup (SqT.of i3) ((lx.cut l u).mono (KT.alloc hp))))⟩⟩⟩⟩)⟩
def jv(ds:List D)(M:Mem)(R:DK):Prop:=∃ x ys,ds=[x]∧j6 M x ys∧R (.vl ys) M
def wY(t:DTA):DTE:=fun e M R=>t e M fun ds M1=>jv ds M1 R
end
section
variable {X:Cx} {e:Expr} {es:List Expr} {t:DTA} {x:Str} {p pos:Pos}
theorem aF(hg:Gl X x)(hm:X.mg x=none)(hv:bootBuiltins x=some (.type "list"))(ha:JA X (e :: es) t)
  (hn:x ≠ "__name__" := by decide) (hdb:(x == ("__debug__" : Str))=false:=by decide) (he:starEach (e :: es) X.env=(false,eval e X.env) :: starEach es X.env:=by rfl) (hpl:(backTo pos (starEach es X.env)).any (·.1)=false:=by rfl):JE X (.Call (.Name x p) (e :: es) [] pos) (wY t):=⟨have ha:=ha.out;(aY (gj aN hg hm hv ha hn hdb he hpl)).imp (by rintro σ H Q ⟨e,M,R,ok,am,t,f⟩;exact⟨e,M,_,ok,am,t,fun ds M1 ⟨d,ys,z,sq,r⟩ vs H1 k1 a1 r1=>by
  subst z
  obtain⟨v,rfl,hv⟩:=r1.one
  obtain⟨a,xs,rfl,q1,m1⟩:=j3 sq a1 hv
  refine⟨a,xs,rfl,?_,fun p hp=>aI f k1 a1 m1 r p hp⟩
  cases hk:bL d with
  | true=>rw[hk]at q1;exact .inl q1
  | false=>rw[hk]at q1;exact .inr q1⟩)⟩
variable {te:DTE} {pos':Pos}
end
section
variable {X:Cx}
def jw:DRM:=fun x xs M R=>∃ l ds v,∃ k:Nat,x = .ref l∧xs=[.int (k:Int),v]∧M l=some (.lst ds)∧k≤ds.length∧ds.length<sizeLine∧R .non (v7 M l (.lst (ds.take k++v :: ds.drop k)))
theorem HasL.take'{K:Ly}{H:Hp}:∀{vs:List V} {ds:List D} (k:Nat),HasL K H vs ds→HasL K H (vs.take k) (ds.take k)
 | _,_,0,_=>.nil
 | _,_,_+1,.nil=>.nil
 | _,_,k+1,.cons h t=>.cons h (HasL.take' k t)
theorem HasL.drop'{K:Ly}{H:Hp}:∀{vs:List V} {ds:List D} (k:Nat),HasL K H vs ds→HasL K H (vs.drop k) (ds.drop k)
 | _,_,0,h=>h
 | _,_,_+1,.nil=>.nil
 | _,_,k+1,.cons _ t=>HasL.drop' k t
theorem rQ:DMt X "list.insert" jw:=MtR.imp (r:=qf) rG (by
 rintro x xs H Q ⟨dx,ds,M,R,hx,hl,am,⟨l,es,v,k,e1,e2,hM,hk,hz,r⟩,f⟩
 subst e1;subst e2
 cases hx
 cases hl with
 | cons h1 hl =>
  obtain⟨w,rfl,hw⟩:=hl.one
  cases h1
  obtain⟨ys,hy,ly⟩:=am.lst hM
  exact⟨l,ys,w,k,rfl,rfl,hy,by rw[ly.length];exact hk,by rw[ly.length];exact hz,f _ _ r _ _ (KT.write hy) (am.write hy ((ly.take' k).append (.cons hw (ly.drop' k)))) .non⟩)
end
noncomputable abbrev aR:=Ev→Mem→(Bool→Mem→Prop)→Prop
abbrev HB(X:Cx)(ifs:List Expr)(t:aR):Prop:=br X ifs (upT X.K t)
structure Bc(X:Cx)(ifs:List Expr)(t:aR):Prop where
 out:HB X ifs t
def AI:aR:=fun _ M R=>R true M
theorem br.imp{X:Cx}{ifs:List Expr}{t t':TT}(h:br X ifs t)(i:∀ σ H Q,t' σ H Q→t σ H Q):br X ifs t':=fun pins s σ H Q I q=>h pins s σ H Q I (i σ H Q q)
theorem t7{X:Cx}:Bc X [] AI:=⟨br.imp vc (by rintro σ H Q ⟨e,M,R,ok,am,t,f⟩;exact f true M t H (KT.refl H) am)⟩
theorem rM{X:Cx}{c:Expr}{t:DTT}(h:JT X c t):Bc X [c] t:=⟨have h:=h.out;uZ h⟩
structure qN(e0:Ev)(g:DTG)(tc:aR)(te:DTE)(ds:List D)(stay:Mem→Prop)(M1:Mem)(E:List D→Mem→Prop)(W:Nat→List D→Mem→Prop):Prop where
 start:W 0 [] M1
 stays:∀ i ys M,i≤ds.length→W i ys M→stay M
 turn:∀(i:Nat) (d:D) ys M,ds[i]? = some d→W i ys M→g d e0 M fun e2 M2=>tc e2 M2 fun b M3=>if b=true then te e2 M3 fun v M4=>ys.length<sizeLine∧W (i+1) (ys++[v]) M4 else W (i+1) ys M3
 done:∀ ys M,W ds.length ys M→E ys M
def xF(e0:Ev)(g:DTG)(tc:aR)(te:DTE)(ds:List D)(stay:Mem→Prop)(M1:Mem)(R:DK):Prop:=∃ W,qN e0 g tc te ds stay M1 (fun ys M=>R (.vl ys) M) W
def oh(n:Nat)(caps:List Nat)(ti:DTI)(g:DTG)(tc:aR)(te:DTE):DTE:=fun e M R=>ti e M fun ds stay M1=>xF (mC n caps e) g tc te ds stay M1 R
section
variable {X:Cx} {elt tg iter:Expr} {scope:Scope} {tgs cps:List Str} {caps:List Nat} {ti:DTI} {g:DTG} {tc:aR} {te:DTE} {pos:Pos} {ifs:List Expr}
def CWH(K:Ly)(H1:Hp)(D0:Addr)(len:Nat)(W:Nat→List D→Mem→Prop)(i m:Nat)(H':Hp):Prop:=m=len - i∧i≤len∧∃ M' ys xs,KT H1 H'∧j8 K H' M'∧H' D0=some (.lst xs)∧M' D0=none∧HasL K H' xs ys∧W i ys M'
theorem gC{K:Ly}{H1:Hp}{J:It}{ds:List D}{stay:Mem→Prop}{M1:Mem}{n:Nat}{caps:List Nat}{σ:St}{e:Ev}{E:List D→Mem→Prop}{W:Nat→List D→Mem→Prop}{D0:Addr}{Qd:Hp→Prop}(ok:v6 K H1 σ e)(a1:j8 K H1 M1)(wk:jM K H1 J ds stay)(hD:H1 D0=none)
  (C:qN (mC n caps e) g tc te ds stay M1 E W) (fin:∀ ys M xs H',KT H1 H'→j8 K H' M→H' D0=some (.lst xs)→M D0=none→HasL K H' xs ys→E ys M→Qd H') (i m:Nat) (H2:Hp) (w:CWH K H1 D0 ds.length W i m H2) :
  (J.stop i H2∧Qd H2)∨(J.go i H2∧∀ x H',J.yld i H2 x H'→(∃ p,uh p (upG K g) x (jH n caps σ) H' fun σ2 H3=>∃ p,ug p (upT K tc) σ2 H3 fun b H3'=>if b=true then ∃ p,ui p (up K te) σ2 H3' fun v H4 =>
   ∃ ys,H4 D0=some (.lst ys)∧ys.length<sizeLine∧∃ m',m'<m∧CWH K H1 D0 ds.length W (i+1) m' (upd H4 D0 (.lst (ys++[v])))else ∃ m',m'<m∧CWH K H1 D0 ds.length W (i+1) m' H3')):=by
 obtain⟨rfl,hi,M2,ys,xs,k2,a2,hx,hM,lx,w2⟩:=w
 have a2':j8 K H2 (v7 M2 D0 (.lst ys)):=fun a o q=>by
  by_cases e:a=D0
  ·subst e;rw[f7]at q;cases q;exact⟨xs,hx,lx⟩
  ·rw[E2 e]at q;exact a2 a o q
 have st:=wk.up _ D0 (.lst ys) (C.stays i ys M2 hi w2) hM
 by_cases hlt:i<ds.length
 ·refine .inr ⟨wk.go i H2 _ hlt k2 a2' st,fun y H' yl=>?_⟩
  obtain⟨d,hd,k3,a3',r⟩:=wk.yld i H2 _ y H' hlt k2 a2' st yl
  obtain⟨xs',hx',lx'⟩:=a3'.lst f7
  have a3:j8 K H' M2:=fun a o q=>by
   have e:a≠D0:=by intro e;subst e;rw[hM]at q;cases q
   exact a3' a o (by rw[E2 e];exact q)
  have kh:KT H' (upd H' D0 (aG D0 xs')):=KT.any hx'
  have k1h:=(k2.trans k3).trans kh
  have same:∀{H3:Hp},H3 D0=some (aG D0 xs')→upd (upd H3 D0 (.lst xs')) D0 (aG D0 xs')=H3:=fun{H3} q=>by
   rw[Z0];funext b;by_cases e:b=D0
   ·subst e;rw[i3,q]
   ·rw[g7 e]
  refine⟨D0,xs',hx',d,mC n caps e,M2,_,r.mono kh,AF n caps (ok.mono k1h),a3.at kh.toKT0 hM,C.turn i d ys M2 hd w2,fun e3 M3 h3 σ3 H3 k4 a4 ok3=>?_⟩
  have q3:H3 D0=some (aG D0 xs'):=k4.ex D0 _ i3
  refine⟨q3,D0,xs',i3,?_⟩
  rw[same q3]
  refine⟨e3,M3,_,ok3,a4,h3,fun b M4 h4 H4 k5 a5=>?_⟩
  have q4:H4 D0=some (aG D0 xs'):=k5.ex D0 _ q3
  refine⟨q4,?_⟩
  have kk:=k1h.trans (k4.trans k5)
  cases b with
  | false =>
   have h4':W (i+1) ys M4:=h4
   show ∃ m',m'<ds.length - i∧CWH K H1 D0 ds.length W (i+1) m' (upd H4 D0 (.lst xs'))
   exact⟨ds.length - (i+1),by omega,rfl,hlt,M4,ys,xs',kk.new hD,a5.at (KT0.ext q4) (a5.none_ext q4),i3,a5.none_ext q4,(lx'.mono (kh.trans (k4.trans k5))).mono0 (KT0.ext q4),h4'⟩
  | true =>
   show ∃ p,ui p (up K te) σ3 (upd H4 D0 (.lst xs')) _
   refine⟨D0,xs',i3,?_⟩
   rw[same q4]
   refine⟨e3,M4,_,ok3.mono k5,a5,h4,fun dv M5 ⟨hz,w5⟩ vv H5 k6 a6 r6=>?_⟩
   have q5:H5 D0=some (aG D0 xs'):=k6.ex D0 _ q4
   refine⟨q5,xs',i3,by rw[lx'.length];exact hz,ds.length - (i+1),by omega,rfl,hlt,M5,ys++[dv],xs'++[vv],?_,?_,i3,a6.none_ext q5,?_,w5⟩
   ·rw[Z0];exact(kk.trans k6).new hD
   ·rw[Z0];exact a6.at (KT0.ext q5) (a6.none_ext q5)
   ·rw[Z0];exact((lx'.mono (kh.trans (k4.trans (k5.trans k6)))).mono0 (KT0.ext q5)).append (.cons (r6.mono0 (KT0.ext q5)) .nil)
 ·have e':i=ds.length:=by omega
  subst e'
  exact .inl ⟨wk.stop _ H2 _ (LQ _) k2 a2' st,fin ys M2 xs H2 k2 a2 hx hM lx (C.done ys M2 w2)⟩
theorem A8(caps:List Nat)(tgs cps:List Str)(hc:X.calm=true)(hcell:∀ x∈scope.names,x.2 ≠ .cell)(hkind:scope.kind = .function)(hnames:∀ x∈scope.names,x.2 = .local→scope.names.lookup x.1=some .local)
  (hfr:∀ x∈scope.names,x.2 = .free→x.1∈cps) (hN:caps.map (fun i=>X.N[i]?)=cps.map some) (hX:∀ x∈cps,X.env.scope.names.lookup x=some .cell∧scope.names.lookup x=some .free)
  (hsc:∀ x∈cps,(relabel scope X.env).names.lookup x=some .cell∨(relabel scope X.env).names.lookup x=some .free)
  (hi:JI X tg iter ti) (hg:∀ cl s3 H3 C fp pins,JG (cxF X scope cl (tgs++cps) s3 H3 C fp pins) tg g) (hq:∀ cl s3 H3 C fp pins,Bc (cxF X scope cl (tgs++cps) s3 H3 C fp pins) ifs tc) (he:∀ cl s3 H3 C fp pins,JE (cxF X scope cl (tgs++cps) s3 H3 C fp pins) elt te)
  (hs:∀ x,foldedSetIterable iter X.env x=pure x:=by intro _;rfl):JE X (.ListComp elt [⟨tg,iter,ifs,0⟩] scope pos) (oh tgs.length caps ti g tc te):=⟨have hi:=hi.out;have hg:=fun v0 v1 v2 v3 v4 v5=>(hg v0 v1 v2 v3 v4 v5).out;have hq:=fun v0 v1 v2 v3 v4 v5=>(hq v0 v1 v2 v3 v4 v5).out;have he:=fun v0 v1 v2 v3 v4 v5=>(he v0 v1 v2 v3 v4 v5).out;(aY (vt (tgs:=tgs) (cps:=cps) (caps:=caps) hc hcell hkind hnames hfr hN hX hsc hi (fun cl s3 H3 C fp pins=>qh (hg cl s3 H3 C fp pins)) (fun cl s3 H3 C fp pins=>gh (hq cl s3 H3 C fp pins)) (fun cl s3 H3 C fp pins=>qi (he cl s3 H3 C fp pins)) hs)).imp (by rintro σ H Q ⟨e,M,R,ok,am,t,f⟩;exact⟨e,M,_,ok,am,t,fun ds stay M1 hW H1 k1 a1 J wk=>by
  intro D0 hD
  obtain⟨W,C⟩:=hW
  refine⟨fun i m H'=>CWH X.K H1 D0 ds.length W i m H',⟨ds.length,by simp,Ms _,M1,[],[],KT.alloc hD,a1.alloc hD,i3,a1.fresh hD,.nil,C.start⟩,fun i m H2 w=>gC (Qd:=fun H'=>∃ p xs,V.ref D0 = .ref p∧H' p=some (.lst xs)∧∀ o,Q (.ref D0) (upd H' p (.frz o (.lst xs)))) (ok.mono k1) a1 wk hD C (fun ys M2 xs H' k2 a2 hx hM lx r=>?_) i m H2 w⟩
  exact⟨D0,xs,rfl,hx,fun o=>f _ M2 r _ _ (k1.trans (k2.trans (KT.any hx))) (a2.at (KT.any hx).toKT0 hM) (.vl (.inl ⟨o,i3⟩) (lx.mono (KT.any hx)))⟩⟩)⟩
theorem aC{i:Nat}{x:Str}{pos' pos2:Pos}(caps:List Nat)(tgs cps:List Str)(hNd:X.N.Nodup)(hxi:X.N[i]? = some x)(hx:Loc X.env.scope x)(hc:X.calm=true)(hcell:∀ x∈scope.names,x.2 ≠ .cell)(hkind:scope.kind = .function)(hnames:∀ x∈scope.names,x.2 = .local→scope.names.lookup x.1=some .local)
  (hfr:∀ x∈scope.names,x.2 = .free→x.1∈cps) (hN:caps.map (fun i=>X.N[i]?)=cps.map some) (hX:∀ x∈cps,X.env.scope.names.lookup x=some .cell∧scope.names.lookup x=some .free)
  (hsc:∀ x∈cps,(relabel scope X.env).names.lookup x=some .cell∨(relabel scope X.env).names.lookup x=some .free)
  (hi:JI X tg iter ti) (hg:∀ cl s3 H3 C fp pins,JG (cxF X scope cl (tgs++cps) s3 H3 C fp pins) tg g) (hq:∀ cl s3 H3 C fp pins,Bc (cxF X scope cl (tgs++cps) s3 H3 C fp pins) ifs tc) (he:∀ cl s3 H3 C fp pins,JE (cxF X scope cl (tgs++cps) s3 H3 C fp pins) elt te)
  (hsw:swapsWith (.ListComp elt [⟨tg,iter,ifs,0⟩] scope pos) (some (.Name x pos')) pos2.line X.env=pure true:=by rfl) (hs:∀ x,foldedSetIterable iter X.env x=pure x:=by intro _;rfl) (hf:X.fn x=true∨X.env.scope.names.lookup x=some .local:=by first|exact .inl rfl|exact .inr rfl|assumption):JS X (.Assign [.Name x pos'] (.ListComp elt [⟨tg,iter,ifs,0⟩] scope pos) pos2) (wZ (oh tgs.length caps ti g tc te) (bj i)):=⟨have hi:=hi.out;have hg:=fun v0 v1 v2 v3 v4 v5=>(hg v0 v1 v2 v3 v4 v5).out;have hq:=fun v0 v1 v2 v3 v4 v5=>(hq v0 v1 v2 v3 v4 v5).out;have he:=fun v0 v1 v2 v3 v4 v5=>(he v0 v1 v2 v3 v4 v5).out;(zy (Dz (uW (tgs:=tgs) (cps:=cps) (caps:=caps) hc hcell hkind hnames hfr hN hX hsc hi (fun cl s3 H3 C fp pins=>qh (hg cl s3 H3 C fp pins)) (fun cl s3 H3 C fp pins=>gh (hq cl s3 H3 C fp pins)) (fun cl s3 H3 C fp pins=>qi (he cl s3 H3 C fp pins)) hNd hxi hx hf hs)) hsw).imp (by rintro E σ H ⟨e,M,F,ok,am,t,f⟩;exact⟨e,M,_,ok,am,t,fun ds stay M1 hW H1 k1 a1 J wk=>by
  intro D0 hD
  obtain⟨W,C⟩:=hW
  refine⟨fun i m H'=>CWH X.K H1 D0 ds.length W i m H',⟨ds.length,by simp,Ms _,M1,[],[],KT.alloc hD,a1.alloc hD,i3,a1.fresh hD,.nil,C.start⟩,fun j m H2 w=>gC (Qd:=fun H'=>∃ p xs,V.ref D0 = .ref p∧H' p=some (.lst xs)∧∀ o,E.nx (σ.set i (some (.ref D0))) (upd H' p (.frz o (.lst xs)))) (ok.mono k1) a1 wk hD C (fun ys M2 xs H' k2 a2 hx hM lx r=>?_) j m H2 w⟩
  exact⟨D0,xs,rfl,hx,fun o=>f.nx _ M2 r _ _ (k1.trans (k2.trans (KT.any hx))) (a2.at (KT.any hx).toKT0 hM) ((ok.mono (k1.trans (k2.trans (KT.any hx)))).set (.vl (.inl ⟨o,i3⟩) (lx.mono (KT.any hx))) i)⟩⟩)⟩
end
section
variable {X:Cx} {e:Expr} {te:DTE} {p1 p2 pos pos2:Pos}
theorem SqL.upd{K:Ly}{H:Hp}{a it:Addr}{xs:List V}{o:HO}(h:SqL K H a xs)(ne:a≠it):SqL K (upd H it o) a xs:=h.elim (fun z=>.inl (by unfold Rd at z ⊢;rw[g7 ne];exact z)) .inr
theorem SqK.upd{K:Ly}{k:Bool}{H:Hp}{a it:Addr}{xs:List V}{o:HO}(h:SqK K k H a xs)(ne:a≠it):SqK K k (L2.upd H it o) a xs:=by
 cases k with
 | true=>exact SqL.upd (show SqL K H a xs from h) ne
 | false=>exact(show SqT K H a xs from h).elim (fun z=>.inl (by unfold Rd at z ⊢;rw[g7 ne];exact z)) .inr
def wQ(n:Nat)(t:T6):DTG:=fun d e M R=>∃ ds,F4 M d=some ds∧ds.length=n∧t ds e M R
theorem vV{xs:List Expr}{k:Nat}{t:T6}{n:Nat}(hc:X.calm=true)(h:JGs X xs t)
  (hn:(assignEach xs X.env).length=n:=by rfl) (hst:(assignEach xs X.env).findIdx? (·.1)=none:=by rfl):JG X (.Tuple xs k pos) (wQ n t):=⟨have h:=h.out;PG.imp (zM hc h hn hst) (by
  rintro v σ H Q ⟨d,e,M,R,r,ok,am,⟨ds,hi,hl,g⟩,f⟩
  obtain⟨a,xs,e1,sq,lx⟩:=u8 am r hi
  exact⟨a,xs,e1,sq,by rw[lx.length];exact hl,ds,e,M,R,lx,ok,am,g,f⟩)⟩
end
end DL
namespace L2
open PySem PySem.Spec PyProof.Rows
section
variable {X:Cx} {pos:Pos}
end
end L2
namespace DL
open PySem PySem.Spec L2
open PyProof.Rows hiding St
section
variable {X:Cx}
end
section
variable {X:Cx}
end
section
variable {X:Cx} {a b c:Expr} {ta tb tc:DTE} {pos:Pos}
def oi(g g':DR2)(ta tb tc:DTE):DTE:=fun e M R=>ta e M fun x M1=>tb e M1 fun y M2=>g x y M2 fun z M3=>∃ k,z = .bl k∧(if k=true then tc e M3 fun w M4=>g' y w M4 R else R (.bl false) M3)
theorem xh{ta tb tc:DTE}{g g':DR2}{σ:St}{H:Hp}{Q:VK}(h:up X.K (oi g g' ta tb tc) σ H Q):uj (upR X.K g) (upR X.K g') (up X.K ta) (up X.K tb) (up X.K tc) σ H Q:=by
 obtain⟨e,M,R,ok,am,t,f⟩:=h
 refine⟨e,M,_,ok,am,t,fun x M1 h1 v H1 k1 a1 r1=>?_⟩
 refine⟨e,M1,_,ok.mono k1,a1,h1,fun y M2 h2 u H2 k2 a2 r2=>?_⟩
 refine⟨x,y,M2,_,r1.mono k2,r2,a2,h2,fun z M3 h3 v3 H3 k3 a3 r3=>?_⟩
 obtain⟨k,rfl,h3⟩:=h3
 cases r3
 refine⟨k,rfl,?_⟩
 have k13:=(k1.trans k2).trans k3
 cases k with
 | true =>
  refine⟨e,M3,_,ok.mono k13,a3,h3,fun q M4 h4 v4 H4 k4 a4 r4=>?_⟩
  exact⟨y,q,M4,R,r2.mono (k3.trans k4),r4,a4,h4,f.mono (k13.trans k4)⟩
 | false=>exact f _ M3 h3 _ H3 k13 a3 (.bl _)
theorem vZ{op op':CmpOp}{g g':DR2}(ho:DOp X (compareOp op) g)(ho':DOp X (compareOp op') g')(ha:JE X a ta)(hb:JE X b tb)(hc:JE X c tc)(hm:lastMarks [op,op'] [b,c]=false:=by with_unfolding_all rfl):JE X (.Compare a [op,op'] [b,c] pos) (oi g g' ta tb tc):=⟨have ha:=ha.out;have hb:=hb.out;have hc:=hc.out;(vw ho ho' ha hb hc hm).imp fun _ _ _ h=>xh h⟩
end
section
variable {K:Ly}
end
section
variable {X:Cx} {x:Expr} {t:DTE}
end
theorem gm{P:Program}{w:World}{H:Hp}{h:Heap}{a:Addr}{o:HO}(x:A0 P w H h a o):∃ u,h.get? a=some u:=by
 cases o with
 | lst _=>obtain⟨_,_,_,_,e⟩:=x;exact⟨_,e⟩
 | tup _=>obtain⟨_,_,_,o,e,_⟩:=x;exact⟨_,e⟩
 | dK _=>obtain⟨_,_,_,_,o,_,_,e,_⟩:=x;exact⟨_,e⟩
 | dT _=>obtain⟨_,_,_,_,o,_,_,e,_⟩:=x;exact⟨_,e⟩
 | set _ _=>obtain⟨o,_,_,_,e,_⟩:=x;exact⟨_,e⟩
 | ins _ _ _=>obtain⟨_,_,_,e,_⟩:=x;exact⟨_,e⟩
 | own _=>exact x
 | xd _=>obtain⟨_,⟨_,_,_,e,_⟩,_⟩:=x;exact⟨_,e⟩
 | rng _ _=>obtain⟨_,_,_,e⟩:=x;exact⟨_,e⟩
 | frz _ _=>exact⟨_,x.1⟩
 | tbl _=>exact⟨_,show h.get? a=some _ from x⟩
 | met _ _=>exact⟨_,show h.get? a=some _ from x⟩
 | ext _=>exact x.2.1
noncomputable def Gw(X:Cx):St:=Nb X.N.length none
def Cov(B s0:Heap)(H':Hp)(fs:List Addr)(h:Heap):Prop:=∀ b o,h.get? b=some o→((∃ u,H' b=some u) ∨ ∃ o0,s0.get? b=some o0)→b∉fs→B.get? b=some o
def Air(B:Heap)(l:List Env)(a:Addr)(cls a0:Value)(h:Heap):Prop:=Heap.FlyingW B l a cls a0 h ∨ ∃ env l' L,l=env :: l'∧env.frame=some L∧Heap.HeldW B l a cls a0 L h
section
variable {M:Model} {A:Around} {E:Value→Shared→Prop} {s:Shared} {B:Heap} {l outer:List Env} {env:Env} {L a:Addr} {cls a0:Value} {Q:Unit→Shared→Prop}
theorem Air.frames{h:Heap}(x:Air B l a cls a0 h):h.FunFrames B l:=by
 rcases x with x|⟨_,_,_,_,_,x⟩
 ·exact x.2.2.1
 ·exact x.2.2.1
theorem Air.base{h:Heap}(x:Air B l a cls a0 h):B.StaysIn h∧B.get? a=none:=by
 rcases x with x|⟨_,_,_,_,_,x⟩
 ·exact⟨x.1,x.2.1⟩
 ·exact⟨x.1,x.2.1⟩
theorem Air.data{h:Heap}(x:Air B l a cls a0 h):∃ oe vs,h.get? a=some oe∧oe.data = .fields vs:=by
 rcases x with⟨_,_,_,oe,vs,_,_,_,h1,_,h2,_⟩|⟨_,_,_,_,_,_,_,_,oe,vs,_,_,_,h1,_,h2,_⟩<;>exact⟨oe,vs,h1,h2⟩
end
noncomputable def XP(X:Cx)(mk:Bool)(EX:Value→Hp→Prop):Value→Shared→Prop:=fun e s' =>
 (mk=true∧∃ a cls h vs H',e = .ref a∧EX cls H'∧Heap.MadeExcOf h s'.heap a cls vs∧Inv X [] (Gw X) H' { s' with heap:=h }) ∨
 (∃ pins σ Hc sc a cls a0 H' B,Inv X pins σ Hc sc∧e = .ref a∧s'.os=sc.os∧AllBare s'.gens∧Un (frs X.stack) [] Hc H' sc.heap s'.heap∧HOk X.prog X.w H' s'.heap ∧
  X.base.StaysIn B∧Cov B sc.heap H' (frs X.stack) s'.heap∧Air B X.stack a cls a0 s'.heap∧EX cls H')
section
variable {P:Program} {w:World} {K:Ly} {mg:Str→Option Value} {base:Heap} {N:List Str} {qual:Str} {scope:Scope} {f:Addr} {cd:Value} {A:Around} {outer:List Env} {s:Shared} {H:Hp} {E:XK}
end
noncomputable def xN(x:Str):Value:=.str x 0
noncomputable def IA(X:Cx)(H₀:Hp)(Y:DXK):Value→Hp→Prop:=fun c H'=>KT H₀ H'∧∃(x:Str) (C:Addr) (M':Mem),c = .ref C∧X.mg x=some (.ref C)∧j8 X.K H' M'∧Y (xN x) M'
noncomputable abbrev Cx.ex'(X:Cx)(mk:Bool)(H₀:Hp)(Y:DXK):Cx:=X.wish (XP X mk (IA X H₀ Y))
section
variable {X:Cx} {mk:Bool} {H₀:Hp} {Y:DXK} {st:Stmt} {F0:List Stmt} {t u:DTS} {pos:Pos}
end
section
variable {P:Program} {w:World} {K:Ly} {mg:Str→Option Value} {base:Heap}
end
section
variable {X:Cx} {mk:Bool} {H₀:Hp} {Y:DXK} {pos cpos:Pos} {x:Str} {j:Nat} {ps:List Str} {sp:DSp} {p:Pos} {e:Expr} {es:List Expr} {t:DTA}
end
section
variable {X:Cx} {mk:Bool} {H₀:Hp} {Y:DXK} {pos:Pos} {e:Expr} {te:DTE}
end
section
variable {X:Cx} {mk:Bool} {EX:Value→Hp→Prop}
end
section
variable {X:Cx} {mk:Bool} {H₀:Hp} {Y:DXK} {pos:Pos} {c:Expr} {body:List Stmt} {tc:DTT} {tb:DTS}
end
section
variable {X:Cx} {H₀:Hp} {Y:DXK} {pos cpos np:Pos} {x:Str} {e₀:Expr} {te:DTE}
end
noncomputable abbrev Cx.pinned(X:Cx)(pn:List (Addr × Obj)):Cx:={ X with pn:=pn }
section
variable {X:Cx} {pins pn:List (Addr × Obj)} {σ:St} {H:Hp} {s:Shared}
end
section
variable {X:Cx} {body suite:List Stmt} {b0:Stmt} {c:Str} {np hpos pos:Pos} {tb:DXK→DTS} {ts:DTS}
end
section
variable {X:Cx} {body suite:List Stmt} {b0:Stmt} {c:Str} {np hpos pos:Pos} {tb:DXK→DTS} {ts:DTS}
end
end DL
namespace DL
open PySem PySem.Spec L2
def BlK(x:D)(M:Mem)(Q:Bool→Mem→Prop):Prop:=∃ k,x = .bl k∧Q k M
def IfK(c:Bool)(A B:Prop):Prop:=if c=true then A else B
def SzK(n:Nat)(A:Prop):Prop:=n≤sizeLine∧A
def Hy(i j:Nat)(ds:List D)(F:aS)(e:Ev)(M:Mem):Prop:=∃ x y,ds=[x,y]∧F.nx ((e.set i (some x)).set j (some y)) M
def Ba(x:D)(M:Mem)(Q:List D→(Mem→Prop)→Mem→Prop):Prop:=∃ ds,j6 M x ds∧Q ds (fun M'=>j6 M' x ds) M
def xD(xs:List D)(M:Mem)(Q:List D→(Mem→Prop)→Mem→Prop):Prop:=∃ x ds,xs=[x]∧j6 M x ds∧Q (T0 ds) (fun M'=>j6 M' x ds) M
def xt(xs:List D)(M:Mem)(Q:List D→(Mem→Prop)→Mem→Prop):Prop:=∃ x y ds es,xs=[x,y]∧j6 M x ds∧j6 M y es∧Q (aT ds es) (fun M'=>j6 M' x ds∧j6 M' y es) M
def Hx(xs:List D)(M:Mem)(Q:List D→(Mem→Prop)→Mem→Prop):Prop:=∃ j:Int,xs=[.int j]∧-(2 ^ 62)≤j∧j<2 ^ 62∧Q (D6 0 j.toNat) (fun _=>True) M
def CA(xs:List D)(M:Mem)(Q:List D→(Mem→Prop)→Mem→Prop):Prop:=∃ i j:Int,xs=[.int i,.int j]∧(-(2 ^ 62)≤i∧i<2 ^ 62∧-(2 ^ 62)≤j∧j<2 ^ 62)∧Q (D6 i (j - i).toNat) (fun _=>True) M
def T5(g:DTG)(tb:DTS)(F:aS)(ds:List D)(stay:Mem→Prop)(e:Ev)(M1:Mem):Prop:=∃ W:Nat→Ev→Mem→Prop,W 0 e M1∧(∀ i e M,i≤ds.length→W i e M→stay M) ∧
 (∀(i:Nat) (d:D) e M,ds[i]? = some d→W i e M→g d e M fun e2 M2=>tb { F with nx:=W (i+1),ct:=W (i+1),bk:=F.nx } e2 M2)∧∀ e M,W ds.length e M→F.nx e M
def mJ(x:D)(M1:Mem)(R:DK):Prop:=∃ p ds,x = .ref p∧M1 p=some (.lst ds)∧R (.vl ds) (bU M1 p)
def CC(x:D)(M:Mem)(Q:Option Int→Mem→Prop):Prop:=∃ i,x = .int i∧Q (some i) M
def rZ(x:D)(M1:Mem)(R:DK):Prop:=∃ M2:Mem,(∀ b o,M2 b=some o→M1 b=some o)∧R x M2
def LMK(x:D)(M:Mem)(A:Prop):Prop:=(∃ l ds,x = .ref l∧M l=some (.lst ds))∧A
end DL
namespace DL
open PySem PySem.Spec L2
open PyProof.Rows hiding St
section
variable {e:Ev} {M:Mem} {R:DK} {F:aS} {ta tb tc:DTE} {tA tB:DTT} {tr:DTA} {t u:DTS}
theorem z_C{d:D}:dC d e M R=R d M:=rfl
theorem FC{g:DR2}:dOp g ta tb e M R=ta e M fun x M1=>tb e M1 fun y M2=>g x y M2 R:=rfl
theorem Fz{g:D→Mem→DK→Prop}:dUn g ta e M R=ta e M fun x M1=>g x M1 R:=rfl
theorem Fx{f:Int→Int→D}{i j:Int}:gF (fI f) (.int i) (.int j) M R=R (f i j) M:=propext ⟨fun zz=>by obtain⟨_,h,r⟩:=zz;cases h;exact r,fun r=>⟨_,rfl,r⟩⟩
theorem Fy{f:Bool→Bool→D}{i j:Bool}:gF (fB f) (.bl i) (.bl j) M R=R (f i j) M:=propext ⟨fun zz=>by obtain⟨_,h,r⟩:=zz;cases h;exact r,fun r=>⟨_,rfl,r⟩⟩
theorem Fw{f:Str→Str→D}{i j:Str}:gF (fS f) (.str i) (.str j) M R=R (f i j) M:=propext ⟨fun zz=>by obtain⟨_,h,r⟩:=zz;cases h;exact r,fun r=>⟨_,rfl,r⟩⟩
theorem Fv{C:Int→Int→Prop}{f:Int→Int→D}{i j:Int}:gI C f (.int i) (.int j) M R=(C i j∧R (f i j) M):=propext ⟨fun zz=>by obtain⟨_,_,h1,h2,c,r⟩:=zz;cases h1;cases h2;exact⟨c,r⟩,fun⟨c,r⟩=>⟨_,_,rfl,rfl,c,r⟩⟩
theorem Fu{f:Int→D}{i:Int}:gU f (.int i) M R=R (f i) M:=propext ⟨fun zz=>by obtain⟨_,h,r⟩:=zz;cases h;exact r,fun r=>⟨_,rfl,r⟩⟩
theorem tu{Q:Bool→Mem→Prop}:qB ta e M Q=ta e M fun x M'=>BlK x M' Q:=rfl
theorem BP{b:Bool}{Q:Bool→Mem→Prop}:BlK (.bl b) M Q=Q b M:=propext ⟨fun zz=>by obtain⟨_,h,r⟩:=zz;cases h;exact r,fun r=>⟨_,rfl,r⟩⟩
theorem BR{Q:Bool→Mem→Prop}:Hj tA tB e M Q=tA e M fun c M1=>IfK c (tB e M1 Q) (Q false M1):=rfl
theorem FA{Q:Bool→Mem→Prop}:dOr tA tB e M Q=tA e M fun c M1=>IfK c (Q true M1) (tB e M1 Q):=rfl
theorem BB{Q:Bool→Mem→Prop}:Hb tA e M Q=tA e M fun c M1=>Q (!c) M1:=rfl
theorem tT:Cu ta tb e M R=ta e M fun x M1=>BlK x M1 fun c M1=>IfK c (tb e M1 R) (R (.bl false) M1):=rfl
theorem tI:Cp ta e M R=ta e M fun x M1=>BlK x M1 fun c M1=>R (.bl (!c)) M1:=rfl
theorem FE:dIf tA ta tb e M R=tA e M fun c M1=>IfK c (ta e M1 R) (tb e M1 R):=rfl
theorem BI:Hf tA t u F e M=tA e M fun c M1=>IfK c (t F e M1) (u F e M1):=rfl
theorem BC{Q:List D→Mem→Prop}:Ez e M Q=Q [] M:=rfl
theorem tP{Q:List D→Mem→Prop}:qD ta tr e M Q=ta e M fun x M1=>tr e M1 fun xs M2=>Q (x :: xs) M2:=rfl
theorem Bw:GY tr e M R=tr e M fun ds M1=>SzK ds.length (R (.tup ds) M1):=rfl
theorem BF:Hd tr e M R=tr e M fun ds M1=>SzK ds.length (∀ p,M1 p=none→R (.ref p) (v7 M1 p (.lst ds))):=rfl
theorem V8{x y z:D}(h:ixD M x y=some z):gIx x y M R=R z M:=propext ⟨fun zz=>by obtain⟨_,h',r⟩:=zz;rw[h]at h';cases h';exact r,fun r=>⟨_,h,r⟩⟩
theorem qQ{neg:Bool}{x y:D}{b:Bool}(h:isD x y=some b):gIs neg x y M R=R (.bl (neg.xor b)) M:=propext ⟨fun zz=>by obtain⟨_,h',r⟩:=zz;rw[h]at h';cases h';exact r,fun r=>⟨_,h,r⟩⟩
theorem BO{neg:Bool}{x y:D}:Eo neg x y M R=(cl 60 x=true∧cl 60 y=true∧R (.bl (neg.xor (@decide (x=y) (Classical.propDecidable _)))) M):=rfl
theorem tR{sp:DSp}{dds:List D}{Y:DXK}:mq sp dds Y tr e M R=tr e M fun ds M1=>sp (ds++dds) M1 R Y:=rfl
theorem FF{g:DRC}:dCB g tr e M R=tr e M fun ds M1=>g ds M1 R:=rfl
theorem tK:Cq F e M=F.nx e M:=rfl
theorem By:AJ t u F e M=t { F with nx:=u F } e M:=rfl
theorem tO:Cs ta F e M=ta e M fun _ M1=>F.nx e M1:=rfl
theorem Bz:Ey ta F e M=ta e M F.rt:=rfl
theorem pM:wX F e M=False:=rfl
variable {Q:Ev→Mem→Prop}
theorem pA{i:Nat}{d:D}:bj i d e M Q=Q (e.set i (some d)) M:=rfl
theorem tq:Cm [] e M Q=Q e M:=propext ⟨fun h=>h.2,fun h=>⟨rfl,h⟩⟩
theorem pB{g:DTG}{gs:T6}{d:D}{ds:List D}:wR g gs (d :: ds) e M Q=g d e M fun e' M'=>gs ds e' M' Q:=propext ⟨fun zz=>by obtain⟨_,_,h,r⟩:=zz;cases h;exact r,fun r=>⟨_,_,rfl,r⟩⟩
theorem kD{n:Nat}{gs:T6}{ds:List D}(h:ds.length=n):wQ n gs (.vl ds) e M Q=gs ds e M Q:=propext ⟨fun zz=>by obtain⟨_,h',_,r⟩:=zz;cases h';exact r,fun r=>⟨_,rfl,h,r⟩⟩
theorem cS{n:Nat}{gs:T6}{ds:List D}(h:ds.length=n):ml n gs (.tup ds) e M Q=gs ds e M Q:=propext ⟨fun zz=>by obtain⟨_,h',_,r⟩:=zz;cases h';exact r,fun r=>⟨_,rfl,h,r⟩⟩
theorem tm{to ti:DTE}{ts:xE}{d:D}:Ck to ti ts d e M Q=to e M fun o M1=>ti e M1 fun i M2=>ts o i d M2 fun M3=>Q e M3:=rfl
theorem BQ{g:DTG}:wZ ta g F e M=ta e M fun x M1=>g x e M1 F.nx:=rfl
theorem BA{i j:Nat}:Ha i j tr F e M=tr e M fun ds M1=>Hy i j ds F e M1:=rfl
theorem tH{i j:Nat}{x y:D}:Hy i j [x,y] F e M=F.nx ((e.set i (some x)).set j (some y)) M:=propext ⟨fun zz=>by obtain⟨_,_,h,r⟩:=zz;cases h;exact r,fun r=>⟨_,_,rfl,r⟩⟩
theorem BS{i:Int}:GU [.int i] M R=R (.int (i.natAbs:Int)) M:=propext ⟨fun zz=>by obtain⟨_,h,r⟩:=zz;cases h;exact r,fun r=>⟨_,rfl,r⟩⟩
theorem BE{i j:Int}:GP [.int i,.int j] M R=R (.int (max i j)) M:=propext ⟨fun zz=>by obtain⟨_,_,h,r⟩:=zz;cases h;exact r,fun r=>⟨_,_,rfl,r⟩⟩
theorem BD{i j:Int}:GO [.int i,.int j] M R=R (.int (min i j)) M:=propext ⟨fun zz=>by obtain⟨_,_,h,r⟩:=zz;cases h;exact r,fun r=>⟨_,_,rfl,r⟩⟩
theorem fU{d:D}{n:Nat}(h:vQ M d=some n):mi [d] M R=R (.int (n:Int)) M:=propext ⟨fun zz=>by obtain⟨_,_,h',h2,r⟩:=zz;cases h';rw[h]at h2;cases h2;exact r,fun r=>⟨_,_,rfl,h,r⟩⟩
theorem m9{d:D}{ty T:String}{b:Bool}(h1:tyD M d=some ty)(h2:yT ty T=some b):A3 [d,.ty T] M R=R (.bl b) M:=propext ⟨fun zz=>by
 obtain⟨_,_,_,_,h,h1',h2',r⟩:=zz
 injection h with h h';subst h;injection h' with h';injection h' with h';subst h'
 rw[h1]at h1';cases h1';rw[h2]at h2';cases h2';exact r,fun r=>⟨_,_,_,_,rfl,h1,h2,r⟩⟩
theorem BJ{c:Bool}{A B:Prop}:IfK c A B=((c=true→A)∧(c=false→B)):=by cases c<;>simp[IfK]
theorem BH{A B:Prop}:IfK true A B=A:=by simp[IfK]
theorem BK{A B:Prop}:IfK false A B=B:=by simp[IfK]
theorem A4{n:Nat}{A:Prop}(h:n≤1000):SzK n A=A:=propext ⟨fun h=>h.2,fun a=>⟨sl n h,a⟩⟩
theorem Fg{d:D}{r:Ev}:W0 0 (some d :: r) M R=R d M:=propext ⟨fun zz=>by obtain⟨_,h,q⟩:=zz;cases h;exact q,fun q=>⟨_,rfl,q⟩⟩
theorem Ft{y z:Option D}{r:Ev}:(y :: r:Ev).set 0 z=z :: r:=rfl
theorem Ff{x0:Option D}{d:D}{r:Ev}:W0 1 (x0 :: some d :: r) M R=R d M:=propext ⟨fun zz=>by obtain⟨_,h,q⟩:=zz;cases h;exact q,fun q=>⟨_,rfl,q⟩⟩
theorem Fs{x0:Option D}{y z:Option D}{r:Ev}:(x0 :: y :: r:Ev).set 1 z=x0 :: z :: r:=rfl
theorem Fe{x0 x1:Option D}{d:D}{r:Ev}:W0 2 (x0 :: x1 :: some d :: r) M R=R d M:=propext ⟨fun zz=>by obtain⟨_,h,q⟩:=zz;cases h;exact q,fun q=>⟨_,rfl,q⟩⟩
theorem Fq{x0 x1:Option D}{y z:Option D}{r:Ev}:(x0 :: x1 :: y :: r:Ev).set 2 z=x0 :: x1 :: z :: r:=rfl
theorem Fd{x0 x1 x2:Option D}{d:D}{r:Ev}:W0 3 (x0 :: x1 :: x2 :: some d :: r) M R=R d M:=propext ⟨fun zz=>by obtain⟨_,h,q⟩:=zz;cases h;exact q,fun q=>⟨_,rfl,q⟩⟩
theorem Fp{x0 x1 x2:Option D}{y z:Option D}{r:Ev}:(x0 :: x1 :: x2 :: y :: r:Ev).set 3 z=x0 :: x1 :: x2 :: z :: r:=rfl
theorem Fc{x0 x1 x2 x3:Option D}{d:D}{r:Ev}:W0 4 (x0 :: x1 :: x2 :: x3 :: some d :: r) M R=R d M:=propext ⟨fun zz=>by obtain⟨_,h,q⟩:=zz;cases h;exact q,fun q=>⟨_,rfl,q⟩⟩
theorem Fo{x0 x1 x2 x3:Option D}{y z:Option D}{r:Ev}:(x0 :: x1 :: x2 :: x3 :: y :: r:Ev).set 4 z=x0 :: x1 :: x2 :: x3 :: z :: r:=rfl
theorem Fb{x0 x1 x2 x3 x4:Option D}{d:D}{r:Ev}:W0 5 (x0 :: x1 :: x2 :: x3 :: x4 :: some d :: r) M R=R d M:=propext ⟨fun zz=>by obtain⟨_,h,q⟩:=zz;cases h;exact q,fun q=>⟨_,rfl,q⟩⟩
theorem Fm{x0 x1 x2 x3 x4:Option D}{y z:Option D}{r:Ev}:(x0 :: x1 :: x2 :: x3 :: x4 :: y :: r:Ev).set 5 z=x0 :: x1 :: x2 :: x3 :: x4 :: z :: r:=rfl
theorem EZ{x0 x1 x2 x3 x4 x5:Option D}{d:D}{r:Ev}:W0 6 (x0 :: x1 :: x2 :: x3 :: x4 :: x5 :: some d :: r) M R=R d M:=propext ⟨fun zz=>by obtain⟨_,h,q⟩:=zz;cases h;exact q,fun q=>⟨_,rfl,q⟩⟩
theorem Fl{x0 x1 x2 x3 x4 x5:Option D}{y z:Option D}{r:Ev}:(x0 :: x1 :: x2 :: x3 :: x4 :: x5 :: y :: r:Ev).set 6 z=x0 :: x1 :: x2 :: x3 :: x4 :: x5 :: z :: r:=rfl
theorem EY{x0 x1 x2 x3 x4 x5 x6:Option D}{d:D}{r:Ev}:W0 7 (x0 :: x1 :: x2 :: x3 :: x4 :: x5 :: x6 :: some d :: r) M R=R d M:=propext ⟨fun zz=>by obtain⟨_,h,q⟩:=zz;cases h;exact q,fun q=>⟨_,rfl,q⟩⟩
theorem Fj{x0 x1 x2 x3 x4 x5 x6:Option D}{y z:Option D}{r:Ev}:(x0 :: x1 :: x2 :: x3 :: x4 :: x5 :: x6 :: y :: r:Ev).set 7 z=x0 :: x1 :: x2 :: x3 :: x4 :: x5 :: x6 :: z :: r:=rfl
theorem EW{x0 x1 x2 x3 x4 x5 x6 x7:Option D}{d:D}{r:Ev}:W0 8 (x0 :: x1 :: x2 :: x3 :: x4 :: x5 :: x6 :: x7 :: some d :: r) M R=R d M:=propext ⟨fun zz=>by obtain⟨_,h,q⟩:=zz;cases h;exact q,fun q=>⟨_,rfl,q⟩⟩
theorem Fi{x0 x1 x2 x3 x4 x5 x6 x7:Option D}{y z:Option D}{r:Ev}:(x0 :: x1 :: x2 :: x3 :: x4 :: x5 :: x6 :: x7 :: y :: r:Ev).set 8 z=x0 :: x1 :: x2 :: x3 :: x4 :: x5 :: x6 :: x7 :: z :: r:=rfl
theorem EV{x0 x1 x2 x3 x4 x5 x6 x7 x8:Option D}{d:D}{r:Ev}:W0 9 (x0 :: x1 :: x2 :: x3 :: x4 :: x5 :: x6 :: x7 :: x8 :: some d :: r) M R=R d M:=propext ⟨fun zz=>by obtain⟨_,h,q⟩:=zz;cases h;exact q,fun q=>⟨_,rfl,q⟩⟩
theorem Fh{x0 x1 x2 x3 x4 x5 x6 x7 x8:Option D}{y z:Option D}{r:Ev}:(x0 :: x1 :: x2 :: x3 :: x4 :: x5 :: x6 :: x7 :: x8 :: y :: r:Ev).set 9 z=x0 :: x1 :: x2 :: x3 :: x4 :: x5 :: x6 :: x7 :: x8 :: z :: r:=rfl
theorem Bh{x0 x1 x2 x3 x4 x5 x6 x7 x8 x9:Option D}{d:D}{r:Ev}:W0 10 (x0 :: x1 :: x2 :: x3 :: x4 :: x5 :: x6 :: x7 :: x8 :: x9 :: some d :: r) M R=R d M:=propext ⟨fun zz=>by obtain⟨_,h,q⟩:=zz;cases h;exact q,fun q=>⟨_,rfl,q⟩⟩
theorem Bu{x0 x1 x2 x3 x4 x5 x6 x7 x8 x9:Option D}{y z:Option D}{r:Ev}:(x0 :: x1 :: x2 :: x3 :: x4 :: x5 :: x6 :: x7 :: x8 :: x9 :: y :: r:Ev).set 10 z=x0 :: x1 :: x2 :: x3 :: x4 :: x5 :: x6 :: x7 :: x8 :: x9 :: z :: r:=rfl
theorem Bg{x0 x1 x2 x3 x4 x5 x6 x7 x8 x9 x10:Option D}{d:D}{r:Ev}:W0 11 (x0 :: x1 :: x2 :: x3 :: x4 :: x5 :: x6 :: x7 :: x8 :: x9 :: x10 :: some d :: r) M R=R d M:=propext ⟨fun zz=>by obtain⟨_,h,q⟩:=zz;cases h;exact q,fun q=>⟨_,rfl,q⟩⟩
theorem Bt{x0 x1 x2 x3 x4 x5 x6 x7 x8 x9 x10:Option D}{y z:Option D}{r:Ev}:(x0 :: x1 :: x2 :: x3 :: x4 :: x5 :: x6 :: x7 :: x8 :: x9 :: x10 :: y :: r:Ev).set 11 z=x0 :: x1 :: x2 :: x3 :: x4 :: x5 :: x6 :: x7 :: x8 :: x9 :: x10 :: z :: r:=rfl
theorem Bf{x0 x1 x2 x3 x4 x5 x6 x7 x8 x9 x10 x11:Option D}{d:D}{r:Ev}:W0 12 (x0 :: x1 :: x2 :: x3 :: x4 :: x5 :: x6 :: x7 :: x8 :: x9 :: x10 :: x11 :: some d :: r) M R=R d M:=propext ⟨fun zz=>by obtain⟨_,h,q⟩:=zz;cases h;exact q,fun q=>⟨_,rfl,q⟩⟩
theorem Bs{x0 x1 x2 x3 x4 x5 x6 x7 x8 x9 x10 x11:Option D}{y z:Option D}{r:Ev}:(x0 :: x1 :: x2 :: x3 :: x4 :: x5 :: x6 :: x7 :: x8 :: x9 :: x10 :: x11 :: y :: r:Ev).set 12 z=x0 :: x1 :: x2 :: x3 :: x4 :: x5 :: x6 :: x7 :: x8 :: x9 :: x10 :: x11 :: z :: r:=rfl
theorem t8{M:Mem}{ds es:List D}:j6 M (.tup ds) es=(es=ds):=by
 apply propext
 constructor
 ·intro h
  rcases h with h|⟨_,h,_⟩|h
  ·injection h with h;exact h.symm
  ·exact absurd h (by intro z;cases z)
  ·exact absurd h (by intro z;cases z)
 ·intro h;exact .inl (by rw[h])
theorem t5{M:Mem}{ds es:List D}:j6 M (.vl ds) es=(es=ds):=by
 apply propext
 constructor
 ·intro h
  rcases h with h|⟨_,h,_⟩|h
  ·exact absurd h (by intro z;cases z)
  ·exact absurd h (by intro z;cases z)
  ·injection h with h;exact h.symm
 ·intro h;exact .inr (.inr (by rw[h]))
theorem m8{ds:List D}{n:Nat}{d:D}(h:ds[n]? = some d):atI ds (n:Int)=some d:=by
 obtain⟨hl,_⟩:=LP.mp h
 unfold atI ixN
 rw[if_pos (Int.natCast_nonneg n),if_pos (by omega)]
 simpa using h
theorem tL:Cr tr e M R=tr e M fun ds M1=>SzK ds.length (R (.vl ds) M1):=rfl
theorem tQ:Ct ta tb e M R=ta e M fun x M1=>tb e M1 fun y M2=>wy x y M2 R:=rfl
theorem Bx{tl th:DTO}:GZ ta tl th e M R=ta e M fun x M1=>tl e M1 fun l M2=>th e M2 fun u M3=>AD x l u M3 R:=rfl
theorem kK{Q:Option Int→Mem→Prop}:qC e M Q=Q none M:=rfl
theorem tF{Q:Option Int→Mem→Prop}:Co ta e M Q=ta e M fun x M1=>CC x M1 Q:=rfl
theorem pL{i:Int}{Q:Option Int→Mem→Prop}:CC (.int i) M Q=Q (some i) M:=propext ⟨fun zz=>by obtain⟨_,h,r⟩:=zz;cases h;exact r,fun r=>⟨_,rfl,r⟩⟩
theorem pN:wY tr e M R=tr e M fun ds M1=>jv ds M1 R:=rfl
theorem kF{ds:List D}:jv [.tup ds] M R=R (.vl ds) M:=propext ⟨fun zz=>by obtain⟨_,_,h,h2,r⟩:=zz;cases h;rw[t8]at h2;subst h2;exact r,fun r=>⟨_,_,rfl,.inl rfl,r⟩⟩
theorem fT{ds:List D}:jv [.vl ds] M R=R (.vl ds) M:=propext ⟨fun zz=>by obtain⟨_,_,h,h2,r⟩:=zz;cases h;rw[t5]at h2;subst h2;exact r,fun r=>⟨_,_,rfl,.inr (.inr rfl),r⟩⟩
theorem kC{ds:List D}:Cd [.vl ds] M R=R (.tup ds) M:=propext ⟨fun zz=>by obtain⟨_,_,h,h2,r⟩:=zz;cases h;cases h2;exact r,fun r=>⟨_,_,rfl,rfl,r⟩⟩
theorem kG{xs ys:List D}:wy (.vl xs) (.vl ys) M R=SzK (xs.length+ys.length) (R (.vl (xs++ys)) M):=propext ⟨fun zz=>by obtain⟨_,_,h,h2,z,r⟩:=zz;cases h;cases h2;exact⟨z,r⟩,fun⟨z,r⟩=>⟨_,_,rfl,rfl,z,r⟩⟩
theorem pz{xs:List D}{lo hi:Option Int}:AD (.vl xs) lo hi M R=R (.vl (Y5 xs lo hi)) M:=propext ⟨fun h=>by
 rcases h with⟨_,h,r⟩|⟨_,h,_⟩
 ·cases h;exact r
 ·exact(nomatch h),fun r=>.inl ⟨_,rfl,r⟩⟩
theorem pq{xs:List D}{lo hi:Option Int}:AD (.tup xs) lo hi M R=(¬ (HT.sIx xs.length 0 lo=0∧HT.sIx xs.length xs.length hi=xs.length)∧R (.tup (Y5 xs lo hi)) M):=propext ⟨fun h=>by
 rcases h with⟨_,h,r⟩|⟨_,h,hw,r⟩
 ·cases h
 ·cases h;exact⟨hw,r⟩,fun⟨hw,r⟩=>.inr ⟨_,rfl,hw,r⟩⟩
theorem BL:Hg ta e M R=ta e M fun x M1=>mJ x M1 R:=rfl
theorem cT{p:Addr}{ds:List D}(h:M p=some (.lst ds)):mJ (.ref p) M R=R (.vl ds) (bU M p):=propext ⟨fun zz=>by obtain⟨_,_,e,h',r⟩:=zz;cases e;rw[h]at h';cases h';exact r,fun r=>⟨_,_,rfl,h,r⟩⟩
theorem pQ{n:Nat}{caps:List Nat}{ti:DTI}{g:DTG}{tc:aR}{te:DTE}:oh n caps ti g tc te e M R=ti e M fun ds stay M1=>xF (mC n caps e) g tc te ds stay M1 R:=rfl
theorem Bv{Q:Bool→Mem→Prop}:AI e M Q=Q true M:=rfl
section
variable {Q:List D→(Mem→Prop)→Mem→Prop}
theorem pD:Ci ta e M Q=ta e M fun x M1=>Ba x M1 Q:=rfl
theorem tD{ds:List D}:Ba (.tup ds) M Q=Q ds (fun M'=>j6 M' (.tup ds) ds) M:=propext ⟨fun zz=>by obtain⟨_,h,r⟩:=zz;rw[t8]at h;subst h;exact r,fun r=>⟨_,.inl rfl,r⟩⟩
theorem tw{ds:List D}:Ba (.vl ds) M Q=Q ds (fun M'=>j6 M' (.vl ds) ds) M:=propext ⟨fun zz=>by obtain⟨_,h,r⟩:=zz;rw[t5]at h;subst h;exact r,fun r=>⟨_,.inr (.inr rfl),r⟩⟩
theorem kJ:wO tr e M Q=tr e M fun xs M1=>xD xs M1 Q:=rfl
theorem pP{ds:List D}:xD [.tup ds] M Q=Q (T0 ds) (fun M'=>j6 M' (.tup ds) ds) M:=propext ⟨fun zz=>by obtain⟨_,_,h,h2,r⟩:=zz;cases h;rw[t8]at h2;subst h2;exact r,fun r=>⟨_,_,rfl,.inl rfl,r⟩⟩
theorem pO{ds:List D}:xD [.vl ds] M Q=Q (T0 ds) (fun M'=>j6 M' (.vl ds) ds) M:=propext ⟨fun zz=>by obtain⟨_,_,h,h2,r⟩:=zz;cases h;rw[t5]at h2;subst h2;exact r,fun r=>⟨_,_,rfl,.inr (.inr rfl),r⟩⟩
theorem pC:Cg tr e M Q=tr e M fun xs M1=>xt xs M1 Q:=rfl
theorem pI{ds es:List D}:xt [.tup ds,.tup es] M Q=Q (aT ds es) (fun M'=>j6 M' (.tup ds) ds∧j6 M' (.tup es) es) M:=propext ⟨fun zz=>by obtain⟨_,_,_,_,h,h2,h3,r⟩:=zz;cases h;rw[t8]at h2 h3;subst h2;subst h3;exact r,fun r=>⟨_,_,_,_,rfl,.inl rfl,.inl rfl,r⟩⟩
theorem pF{ds es:List D}:xt [.vl ds,.vl es] M Q=Q (aT ds es) (fun M'=>j6 M' (.vl ds) ds∧j6 M' (.vl es) es) M:=propext ⟨fun zz=>by obtain⟨_,_,_,_,h,h2,h3,r⟩:=zz;cases h;rw[t5]at h2 h3;subst h2;subst h3;exact r,fun r=>⟨_,_,_,_,rfl,.inr (.inr rfl),.inr (.inr rfl),r⟩⟩
theorem pH{ds es:List D}:xt [.tup ds,.vl es] M Q=Q (aT ds es) (fun M'=>j6 M' (.tup ds) ds∧j6 M' (.vl es) es) M:=propext ⟨fun zz=>by obtain⟨_,_,_,_,h,h2,h3,r⟩:=zz;cases h;rw[t8]at h2;rw[t5]at h3;subst h2;subst h3;exact r,fun r=>⟨_,_,_,_,rfl,.inl rfl,.inr (.inr rfl),r⟩⟩
theorem pG{ds es:List D}:xt [.vl ds,.tup es] M Q=Q (aT ds es) (fun M'=>j6 M' (.vl ds) ds∧j6 M' (.tup es) es) M:=propext ⟨fun zz=>by obtain⟨_,_,_,_,h,h2,h3,r⟩:=zz;cases h;rw[t5]at h2;rw[t8]at h3;subst h2;subst h3;exact r,fun r=>⟨_,_,_,_,rfl,.inr (.inr rfl),.inl rfl,r⟩⟩
theorem pE:Cj tr e M Q=tr e M fun xs M1=>Hx xs M1 Q:=rfl
theorem tE{j:Int}:Hx [.int j] M Q=((-(2 ^ 62)≤j∧j<2 ^ 62)∧Q (D6 0 j.toNat) (fun _=>True) M):=propext ⟨fun zz=>by obtain⟨_,h,a,b,r⟩:=zz;cases h;exact⟨⟨a,b⟩,r⟩,fun⟨⟨a,b⟩,r⟩=>⟨_,rfl,a,b,r⟩⟩
theorem kI:wN tr e M Q=tr e M fun xs M1=>CA xs M1 Q:=rfl
theorem pK{i j:Int}:CA [.int i,.int j] M Q=((-(2 ^ 62)≤i∧i<2 ^ 62∧-(2 ^ 62)≤j∧j<2 ^ 62)∧Q (D6 i (j - i).toNat) (fun _=>True) M):=propext ⟨fun zz=>by obtain⟨_,_,h,a,r⟩:=zz;cases h;exact⟨a,r⟩,fun⟨a,r⟩=>⟨_,_,rfl,a,r⟩⟩
end
theorem BM{ti:DTI}{g:DTG}:Hh ti g t F e M=ti e M fun ds stay M1=>T5 g t F ds stay e M1:=rfl
theorem T5.by{g:DTG}{ds:List D}{stay:Mem→Prop}{M1:Mem}(W:Nat→Ev→Mem→Prop)(w0:W 0 e M1)(st:∀ i e M,i≤ds.length→W i e M→stay M)
  (turn:∀(i:Nat) (d:D) e M,ds[i]? = some d→W i e M→g d e M fun e2 M2=>t { F with nx:=W (i+1),ct:=W (i+1),bk:=F.nx } e2 M2) (done:∀ e M,W ds.length e M→F.nx e M):T5 g t F ds stay e M1:=⟨W,w0,st,turn,done⟩
theorem qL{F:aS}(W:Nat→Ev→Mem→Prop)(m:Nat)(w0:W m e M)(turn:∀ m e M,W m e M→tA e M fun b M1=>IfK b (t { F with nx:=fun e' M'=>∃ m',m'<m∧W m' e' M',ct:=fun e' M'=>∃ m',m'<m∧W m' e' M',bk:=F.nx } e M1) (F.nx e M1)):wV tA t F e M:=⟨W,⟨m,w0⟩,turn⟩
theorem jQ{F:aS}(P:Ev→Mem→Prop)(h1:t { F with nx:=P } e M)(h2:∀ e' M',P e' M'→u F e' M'):Cn t u F e M:=⟨P,h1,h2⟩
theorem FD{g:DRM}:dLM g ta tr e M R=ta e M fun x M1=>LMK x M1 (tr e M1 fun xs M2=>g x xs M2 R):=rfl
theorem W3{x0:D}{r:List D}:gIx (.tup (x0 :: r)) (.int 0) M R=R x0 M:=V8 (m8 (n:=0) rfl)
theorem sV{x0:D}{r:List D}:gIx (.vl (x0 :: r)) (.int 0) M R=R x0 M:=V8 (m8 (n:=0) rfl)
theorem W2{x0 x1:D}{r:List D}:gIx (.tup (x0 :: x1 :: r)) (.int 1) M R=R x1 M:=V8 (m8 (n:=1) rfl)
theorem sU{x0 x1:D}{r:List D}:gIx (.vl (x0 :: x1 :: r)) (.int 1) M R=R x1 M:=V8 (m8 (n:=1) rfl)
theorem gM{x0 x1 x2:D}{r:List D}:gIx (.tup (x0 :: x1 :: x2 :: r)) (.int 2) M R=R x2 M:=V8 (m8 (n:=2) rfl)
theorem sT{x0 x1 x2:D}{r:List D}:gIx (.vl (x0 :: x1 :: x2 :: r)) (.int 2) M R=R x2 M:=V8 (m8 (n:=2) rfl)
theorem tj{x0 x1 x2 x3:D}{r:List D}:gIx (.tup (x0 :: x1 :: x2 :: x3 :: r)) (.int 3) M R=R x3 M:=V8 (m8 (n:=3) rfl)
theorem sS{x0 x1 x2 x3:D}{r:List D}:gIx (.vl (x0 :: x1 :: x2 :: x3 :: r)) (.int 3) M R=R x3 M:=V8 (m8 (n:=3) rfl)
theorem sZ{x0 x1 x2 x3 x4:D}{r:List D}:gIx (.tup (x0 :: x1 :: x2 :: x3 :: x4 :: r)) (.int 4) M R=R x4 M:=V8 (m8 (n:=4) rfl)
theorem sR{x0 x1 x2 x3 x4:D}{r:List D}:gIx (.vl (x0 :: x1 :: x2 :: x3 :: x4 :: r)) (.int 4) M R=R x4 M:=V8 (m8 (n:=4) rfl)
theorem sY{x0 x1 x2 x3 x4 x5:D}{r:List D}:gIx (.tup (x0 :: x1 :: x2 :: x3 :: x4 :: x5 :: r)) (.int 5) M R=R x5 M:=V8 (m8 (n:=5) rfl)
theorem sQ{x0 x1 x2 x3 x4 x5:D}{r:List D}:gIx (.vl (x0 :: x1 :: x2 :: x3 :: x4 :: x5 :: r)) (.int 5) M R=R x5 M:=V8 (m8 (n:=5) rfl)
theorem sX{x0 x1 x2 x3 x4 x5 x6:D}{r:List D}:gIx (.tup (x0 :: x1 :: x2 :: x3 :: x4 :: x5 :: x6 :: r)) (.int 6) M R=R x6 M:=V8 (m8 (n:=6) rfl)
theorem sP{x0 x1 x2 x3 x4 x5 x6:D}{r:List D}:gIx (.vl (x0 :: x1 :: x2 :: x3 :: x4 :: x5 :: x6 :: r)) (.int 6) M R=R x6 M:=V8 (m8 (n:=6) rfl)
theorem sW{x0 x1 x2 x3 x4 x5 x6 x7:D}{r:List D}:gIx (.tup (x0 :: x1 :: x2 :: x3 :: x4 :: x5 :: x6 :: x7 :: r)) (.int 7) M R=R x7 M:=V8 (m8 (n:=7) rfl)
theorem sO{x0 x1 x2 x3 x4 x5 x6 x7:D}{r:List D}:gIx (.vl (x0 :: x1 :: x2 :: x3 :: x4 :: x5 :: x6 :: x7 :: r)) (.int 7) M R=R x7 M:=V8 (m8 (n:=7) rfl)
theorem Br{A:Prop}:SzK (0) A=A:=A4 (by decide)
theorem Bq{A:Prop}:SzK (0+1) A=A:=A4 (by decide)
theorem Bp{A:Prop}:SzK (0+1+1) A=A:=A4 (by decide)
theorem Bo{A:Prop}:SzK (0+1+1+1) A=A:=A4 (by decide)
theorem Bn{A:Prop}:SzK (0+1+1+1+1) A=A:=A4 (by decide)
theorem Bm{A:Prop}:SzK (0+1+1+1+1+1) A=A:=A4 (by decide)
theorem Bl{A:Prop}:SzK (0+1+1+1+1+1+1) A=A:=A4 (by decide)
theorem Bk{A:Prop}:SzK (0+1+1+1+1+1+1+1) A=A:=A4 (by decide)
theorem Bj{A:Prop}:SzK (0+1+1+1+1+1+1+1+1) A=A:=A4 (by decide)
theorem Bi{A:Prop}:SzK (0+1+1+1+1+1+1+1+1+1) A=A:=A4 (by decide)
theorem yH{i:Int}:cl 60 (.int i)=true:=rfl
theorem yv:cl 60 .non=true:=rfl
theorem yj{ds:List D}:cl 60 (.tup ds)=clL 59 ds:=rfl
theorem yd{ds:List D}:cl 60 (.vl ds)=clL 59 ds:=rfl
theorem xR:clL 59 []=true:=rfl
theorem xX{d:D}{r:List D}:clL 59 (d :: r)=(cl 59 d && clL 59 r):=rfl
theorem yI{i:Int}:cl 59 (.int i)=true:=rfl
theorem yw:cl 59 .non=true:=rfl
theorem yk{ds:List D}:cl 59 (.tup ds)=clL 58 ds:=rfl
theorem ye{ds:List D}:cl 59 (.vl ds)=clL 58 ds:=rfl
theorem xS:clL 58 []=true:=rfl
theorem xY{d:D}{r:List D}:clL 58 (d :: r)=(cl 58 d && clL 58 r):=rfl
theorem yJ{i:Int}:cl 58 (.int i)=true:=rfl
theorem yx:cl 58 .non=true:=rfl
theorem ym{ds:List D}:cl 58 (.tup ds)=clL 57 ds:=rfl
theorem yf{ds:List D}:cl 58 (.vl ds)=clL 57 ds:=rfl
theorem xT:clL 57 []=true:=rfl
theorem xZ{d:D}{r:List D}:clL 57 (d :: r)=(cl 57 d && clL 57 r):=rfl
theorem yK{i:Int}:cl 57 (.int i)=true:=rfl
theorem yy:cl 57 .non=true:=rfl
theorem yn{ds:List D}:cl 57 (.tup ds)=clL 56 ds:=rfl
theorem yg{ds:List D}:cl 57 (.vl ds)=clL 56 ds:=rfl
theorem xU:clL 56 []=true:=rfl
theorem ya{d:D}{r:List D}:clL 56 (d :: r)=(cl 56 d && clL 56 r):=rfl
theorem yL{i:Int}:cl 56 (.int i)=true:=rfl
theorem yz:cl 56 .non=true:=rfl
theorem yo{ds:List D}:cl 56 (.tup ds)=clL 55 ds:=rfl
theorem yh{ds:List D}:cl 56 (.vl ds)=clL 55 ds:=rfl
theorem xV:clL 55 []=true:=rfl
theorem yb{d:D}{r:List D}:clL 55 (d :: r)=(cl 55 d && clL 55 r):=rfl
theorem yM{i:Int}:cl 55 (.int i)=true:=rfl
theorem yG:cl 55 .non=true:=rfl
theorem yp{ds:List D}:cl 55 (.tup ds)=clL 54 ds:=rfl
theorem yi{ds:List D}:cl 55 (.vl ds)=clL 54 ds:=rfl
theorem xW:clL 54 []=true:=rfl
theorem yc{d:D}{r:List D}:clL 54 (d :: r)=(cl 54 d && clL 54 r):=rfl
theorem tM{xs:List D}:mi [.vl xs] M R=R (.int (xs.length:Int)) M:=fU rfl
theorem tN{xs:List D}:mi [.tup xs] M R=R (.int (xs.length:Int)) M:=fU rfl
theorem CQ{A:Prop}:SzK 1 A=A:=A4 (by decide)
theorem CO{A:Prop}:SzK 2 A=A:=A4 (by decide)
theorem CN{A:Prop}:SzK 3 A=A:=A4 (by decide)
theorem CM{A:Prop}:SzK 4 A=A:=A4 (by decide)
theorem CL{A:Prop}:SzK 5 A=A:=A4 (by decide)
theorem CK{A:Prop}:SzK 6 A=A:=A4 (by decide)
theorem CJ{A:Prop}:SzK 7 A=A:=A4 (by decide)
theorem CI{A:Prop}:SzK 8 A=A:=A4 (by decide)
theorem CH{A:Prop}:SzK 9 A=A:=A4 (by decide)
theorem xQ{A:Prop}:SzK 10 A=A:=A4 (by decide)
theorem xP{A:Prop}:SzK 11 A=A:=A4 (by decide)
theorem xO{A:Prop}:SzK 12 A=A:=A4 (by decide)
theorem tU{bs:List Bool}:Er [.vl (bs.map D.bl)] M R=R (.bl (bs.all id)) M:=propext ⟨fun zz=>by
 obtain⟨_,bs',e,h,r⟩:=zz
 cases e
 have e2:bs.map D.bl=bs'.map D.bl:=Option.some.inj h
 have e3:bs=bs':=(Mz (fun a b z=>by injection z)).mp e2
 subst e3;exact r,fun r=>⟨_,bs,rfl,rfl,r⟩⟩
theorem tS{bs:List Bool}:Ep [.vl (bs.map D.bl)] M R=R (.bl (bs.any id)) M:=propext ⟨fun zz=>by
 obtain⟨_,bs',e,h,r⟩:=zz
 cases e
 have e2:bs.map D.bl=bs'.map D.bl:=Option.some.inj h
 have e3:bs=bs':=(Mz (fun a b z=>by injection z)).mp e2
 subst e3;exact r,fun r=>⟨_,bs,rfl,rfl,r⟩⟩
theorem bD:A3 [.dic,.ty "tuple"] M R=R (.bl false) M:=m9 rfl rfl
theorem cO:A3 [.dic,.ty "list"] M R=R (.bl false) M:=m9 rfl rfl
theorem fP:A3 [.dic,.ty "int"] M R=R (.bl false) M:=m9 rfl rfl
theorem cP:A3 [.dic,.ty "bool"] M R=R (.bl false) M:=m9 rfl rfl
theorem fO:A3 [.dic,.ty "str"] M R=R (.bl false) M:=m9 rfl rfl
theorem bz{ds:List D}:A3 [.tup ds,.ty "tuple"] M R=R (.bl true) M:=m9 rfl rfl
theorem cG{ds:List D}:A3 [.tup ds,.ty "list"] M R=R (.bl false) M:=m9 rfl rfl
theorem fG{ds:List D}:A3 [.tup ds,.ty "int"] M R=R (.bl false) M:=m9 rfl rfl
theorem cH{ds:List D}:A3 [.tup ds,.ty "bool"] M R=R (.bl false) M:=m9 rfl rfl
theorem fF{ds:List D}:A3 [.tup ds,.ty "str"] M R=R (.bl false) M:=m9 rfl rfl
theorem bx{ds:List D}:A3 [.vl ds,.ty "tuple"] M R=R (.bl false) M:=m9 rfl rfl
theorem cE{ds:List D}:A3 [.vl ds,.ty "list"] M R=R (.bl true) M:=m9 rfl rfl
theorem fE{ds:List D}:A3 [.vl ds,.ty "int"] M R=R (.bl false) M:=m9 rfl rfl
theorem cF{ds:List D}:A3 [.vl ds,.ty "bool"] M R=R (.bl false) M:=m9 rfl rfl
theorem fD{ds:List D}:A3 [.vl ds,.ty "str"] M R=R (.bl false) M:=m9 rfl rfl
theorem bC{i:Int}:A3 [.int i,.ty "tuple"] M R=R (.bl false) M:=m9 rfl rfl
theorem cM{i:Int}:A3 [.int i,.ty "list"] M R=R (.bl false) M:=m9 rfl rfl
theorem fN{i:Int}:A3 [.int i,.ty "int"] M R=R (.bl true) M:=m9 rfl rfl
theorem cN{i:Int}:A3 [.int i,.ty "bool"] M R=R (.bl false) M:=m9 rfl rfl
theorem fM{i:Int}:A3 [.int i,.ty "str"] M R=R (.bl false) M:=m9 rfl rfl
theorem bB:A3 [.non,.ty "tuple"] M R=R (.bl false) M:=m9 rfl rfl
theorem cK:A3 [.non,.ty "list"] M R=R (.bl false) M:=m9 rfl rfl
theorem fL:A3 [.non,.ty "int"] M R=R (.bl false) M:=m9 rfl rfl
theorem cL:A3 [.non,.ty "bool"] M R=R (.bl false) M:=m9 rfl rfl
theorem fK:A3 [.non,.ty "str"] M R=R (.bl false) M:=m9 rfl rfl
theorem bA{x:Str}:A3 [.str x,.ty "tuple"] M R=R (.bl false) M:=m9 rfl rfl
theorem cI{x:Str}:A3 [.str x,.ty "list"] M R=R (.bl false) M:=m9 rfl rfl
theorem fJ{x:Str}:A3 [.str x,.ty "int"] M R=R (.bl false) M:=m9 rfl rfl
theorem cJ{x:Str}:A3 [.str x,.ty "bool"] M R=R (.bl false) M:=m9 rfl rfl
theorem fH{x:Str}:A3 [.str x,.ty "str"] M R=R (.bl true) M:=m9 rfl rfl
theorem bE{b:Bool}:A3 [.bl b,.ty "tuple"] M R=R (.bl false) M:=m9 rfl rfl
theorem cQ{b:Bool}:A3 [.bl b,.ty "list"] M R=R (.bl false) M:=m9 rfl rfl
theorem fR{b:Bool}:A3 [.bl b,.ty "int"] M R=R (.bl true) M:=m9 rfl rfl
theorem cR{b:Bool}:A3 [.bl b,.ty "bool"] M R=R (.bl true) M:=m9 rfl rfl
theorem fQ{b:Bool}:A3 [.bl b,.ty "str"] M R=R (.bl false) M:=m9 rfl rfl
theorem BN:Hi ta e M R=ta e M fun x M1=>rZ x M1 R:=rfl
theorem J6{x:D}{ds:List D}{Q:List D→(Mem→Prop)→Mem→Prop}(h:j6 M x ds)(r:Q ds (fun M'=>j6 M' x ds) M):Ba x M Q:=⟨ds,h,r⟩
theorem K6{l:Addr}{ds:List D}{A:Prop}(h:M l=some (.lst ds))(a:A):LMK (.ref l) M A:=⟨⟨l,ds,rfl,h⟩,a⟩
theorem Y9{l:Addr}{ds:List D}{v:D}(h:M l=some (.lst ds))(hz:ds.length<1000)(r:R .non (v7 M l (.lst (ds++[v])))):qt (.ref l) [v] M R:=⟨l,ds,v,rfl,rfl,h,Lz hz (by decide),r⟩
theorem qM{p:Addr}{ds:List D}{j:Nat}{v:D}{Q:Mem→Prop}(h:M p=some (.lst ds))(hj:j<ds.length)(r:Q (v7 M p (.lst (ds.set j v)))):wq (.ref p) (.int (j:Int)) v M Q:=⟨p,ds,j,j,rfl,rfl,h,by unfold ixN;rw[if_pos (by omega),if_pos (by omega)];rfl,r⟩
theorem ER{l:Addr}{ds:List D}{k:Nat}{v:D}(h:M l=some (.lst ds))(hk:k≤ds.length)(hz:ds.length<1000)(r:R .non (v7 M l (.lst (ds.take k++v :: ds.drop k)))):jw (.ref l) [.int (k:Int),v] M R:=⟨l,ds,v,k,rfl,rfl,h,hk,Lz hz (by decide),r⟩
theorem xA{p:Addr}{ds:List D}(h:M p=none)(r:R (.vl ds) M):mJ (.ref p) (v7 M p (.lst ds)) R:=⟨p,ds,rfl,f7,by rw[aK h];exact r⟩
theorem xC{x:D}{M1 M2:Mem}(h:∀ b o,M2 b=some o→M1 b=some o)(r:R x M2):rZ x M1 R:=⟨M2,h,r⟩
theorem pR{g g':DR2}{tc:DTE}:oi g g' ta tb tc e M R=ta e M fun x M1=>tb e M1 fun y M2=>g x y M2 fun z M3=>BlK z M3 fun k M4=>IfK k (tc e M4 fun w M5=>g' y w M5 R) (R (.bl false) M4):=rfl
end
theorem bq{p:Str→Prop}:∀ x∈([]:List Str),p x:=fun _ h=>nomatch h
section
variable {e0:Ev} {g:DTG} {te:DTE} {tc:aR} {ds:List D} {stay:Mem→Prop} {M1:Mem} {E:List D→Mem→Prop}
theorem y4{α:Type}{xs:List α}{enc:α→D}(f:α→D)(hn:xs.length≤1000)(hst:stay M1)(step:∀ x∈xs,∀ Q:DK,Q (f x) M1→g (enc x) e0 M1 fun e2 M2=>te e2 M2 Q)(h:E (xs.map f) M1):∃ W,qN e0 g AI te (xs.map enc) stay M1 E W:=by
 refine⟨fun i ys M=>M=M1∧ys=(xs.take i).map f,⟨⟨rfl,rfl⟩,fun i ys M _ w=>by rw[w.1];exact hst,fun i d ys M hd w=>?_,fun ys M w=>?_⟩⟩
 ·obtain⟨rfl,rfl⟩:=w
  rw[LY]at hd
  cases hx:xs[i]? with
  | none=>rw[hx]at hd;cases hd
  | some x =>
   rw[hx]at hd
   obtain rfl:enc x=d:=by simpa using hd
   refine step x (LS hx) _ ⟨?_,rfl,?_⟩
   ·rw[LF,Ml]
    exact LR (LL (NJ _ _) hn) (by decide)
   ·obtain⟨hl,he⟩:=LP.mp hx
    rw[MW hl,LX,he];rfl
 ·obtain⟨rfl,rfl⟩:=w
  rw[LF,MJ];exact h
theorem jC{α:Type}{xs:List α}{enc:α→D}(p:α→Bool)(f:α→D)(hn:xs.length≤1000)(hst:stay M1)
  (step:∀ x∈xs,∀(Q:DK) (N:Prop),(p x=true→Q (f x) M1)→(p x=false→N)→g (enc x) e0 M1 fun e2 M2=>tc e2 M2 fun b M3=>IfK b (te e2 M3 Q) (M3=M1∧N)) (h:E ((xs.filter p).map f) M1):∃ W,qN e0 g tc te (xs.map enc) stay M1 E W:=by
 refine⟨fun i ys M=>M=M1∧ys=((xs.take i).filter p).map f,⟨⟨rfl,rfl⟩,fun i ys M _ w=>by rw[w.1];exact hst,fun i d ys M hd w=>?_,fun ys M w=>?_⟩⟩
 ·obtain⟨rfl,rfl⟩:=w
  rw[LY]at hd
  cases hx:xs[i]? with
  | none=>rw[hx]at hd;cases hd
  | some x =>
   rw[hx]at hd
   obtain rfl:enc x=d:=by simpa using hd
   obtain⟨hl,he⟩:=LP.mp hx
   have hle:(((xs.take i).filter p).map f).length<sizeLine:=by
    rw[LF]
    have h1:=Nh p (xs.take i)
    rw[Ml]at h1
    exact LR (LL h1 (LL (NJ _ _) hn)) (by decide)
   have hs:=step x (LS hx) (fun v M4=>(((xs.take i).filter p).map f).length<sizeLine∧M4=M∧((xs.take i).filter p).map f++[v]=((xs.take (i+1)).filter p).map f) (((xs.take i).filter p).map f=((xs.take (i+1)).filter p).map f)
    (fun hp=>⟨hle,rfl,by rw[MW hl,Ph,LX,he];simp[hp]⟩)
    (fun hp=>by rw[MW hl,Ph,LX,he];simp[hp])
   exact hs
 ·obtain⟨rfl,rfl⟩:=w
  rw[LF,MJ];exact h
end
section
variable {X:Cx} {pos:Pos}
theorem jc{x:Str}{j k:Nat}{ps:List Str}{sp:DSp}{p:Pos}{e:Expr}{es:List Expr}{t:DTA}(G:Fn X.prog X.w X.K X.mg X.base x j ps sp)(hr:F5 k X.A)(ha:JA X (e :: es) t)(hk:j≤k:=by decide)(hg:Gl X x:=by rfl)
  (hdb:(x == ("__debug__" : Str))=false:=by decide) (he:starEach (e :: es) X.env=(false,eval e X.env) :: starEach es X.env:=by rfl) (hpl:(backTo pos (starEach es X.env)).any (·.1)=false:=by rfl):JE X (.Call (.Name x p) (e :: es) [] pos) (mq sp [] Y0 t):=wa G (hr.mono hk) hg ha hdb he hpl
theorem jx{a b:Expr}{ta tb:DTE}(ha:JE X a ta)(hb:JE X b tb)(hs:jN b:=by exact fun _ _=>rfl):JE X (.Subscript a b pos) (dOp gIx ta tb):=GB GH ha hb hs
theorem jst(i:Nat){x:Str}{e:Expr}{tx:DTE}{q:Pos}(hN:X.N.Nodup)(he:JE X e tx)(hi:X.N[i]? = some x:=by rfl)(hx:Loc X.env.scope x:=by first|exact .inl rfl|exact .inr rfl)(hs:swapsWith e (some (.Name x q)) pos.line X.env=pure false:=by rfl)
  (hf:X.fn x=true∨X.env.scope.names.lookup x=some .local:=by first|exact .inl rfl|exact .inr rfl|assumption):JS X (.Assign [.Name x q] e pos) (wZ tx (bj i)):=Av hN hi hx he hs hf
theorem jn(i:Nat){x:Str}(hN:X.N.Nodup)(hi:X.N[i]? = some x:=by rfl)(hx:Loc X.env.scope x:=by first|exact .inl rfl|exact .inr rfl)(hf:X.fn x=true∨X.env.scope.names.lookup x=some .local:=by first|exact .inl rfl|exact .inr rfl|assumption):JG X (.Name x pos) (bj i):=vW hN hi hx hf
theorem jm{op:CmpOp}{g:DR2}{a b:Expr}{ta tb:DTE}(ho:DOp X (compareOp op) g)(ha:JE X a ta)(hb:JE X b tb)(hm:behindInMarks op b=false:=by first|exact vL _|with_unfolding_all rfl):JE X (.Compare a [op] [b] pos) (dOp g ta tb):=Ek ho ha hb hm
theorem jtm{op:CmpOp}{g:DR2}{a b:Expr}{ta tb:DTE}(ho:DOp X (compareOp op) g)(ha:JE X a ta)(hb:JE X b tb)(hm:behindInMarks op b=false:=by first|exact vL _|with_unfolding_all rfl):JT X (.Compare a [op] [b] pos) (qB (dOp g ta tb)):=Ax ho ha hb hm
end
end DL
namespace GM
open PySem PySem.Spec L2 DL
open PyProof.Rows hiding St
noncomputable def e7(q:Rat):D:=.tup [.int q.num,.int (q.den:Int)]
theorem E8{q r:Rat}(h:e7 q=e7 r):q=r:=by
 unfold e7 at h
 injection h with h
 injection h with h1 h2
 injection h1 with h1
 injection h2 with h2 _
 injection h2 with h2
 exact Rat.ext h1 (by omega)
theorem i0{q r:Rat}:e7 q=e7 r↔q=r:=⟨E8,fun h=>by rw[h]⟩
structure p7(M:Mem)(p:Addr):Prop where
 ex:∃ x y z:Int,M p=some (.lst [.int x,.int y,.int z])
def MK(M M':Mem):Prop:=∀ b o,M b=some o→M' b=some o
theorem MK.refl(M:Mem):MK M M:=fun _ _ h=>h
theorem MK.trans{M M1 M2:Mem}(a:MK M M1)(b:MK M1 M2):MK M M2:=fun c o h=>b c o (a c o h)
theorem MK.new{M:Mem}{p:Addr}{o:MO}(h:M p=none):MK M (v7 M p o):=fun b u e=>by
 have:b≠p:=by intro z;subst z;rw[h]at e;cases e
 rw[E2 this];exact e
theorem MK.pool{M M':Mem}(k:MK M M'){p:Addr}(h:p7 M p):p7 M' p:=let ⟨x,y,z,e⟩:=h.ex;⟨x,y,z,k _ _ e⟩
structure j1(p:Addr)(M M':Mem):Prop where
 keep:∀ b o,b≠p→M b=some o→M' b=some o
 pool:p7 M' p
theorem j1.refl{p:Addr}{M:Mem}(h:p7 M p):j1 p M M:=⟨fun _ _ _ h=>h,h⟩
theorem j1.trans{p:Addr}{M M1 M2:Mem}(a:j1 p M M1)(b:j1 p M1 M2):j1 p M M2:=⟨fun c o n h=>b.keep c o n (a.keep c o n h),b.pool⟩
theorem j1.mk'{p:Addr}{M M1:Mem}(h:p7 M p)(k:MK M M1):j1 p M M1:=⟨fun c o _ h=>k c o h,k.pool h⟩
theorem j1.upd{p:Addr}{M:Mem}(x y z:Int):j1 p M (v7 M p (.lst [.int x,.int y,.int z])):=⟨fun b o n h=>by rw[E2 n];exact h,⟨x,y,z,f7⟩⟩
theorem p7.ne{M:Mem}{p l:Addr}(h:p7 M p)(hl:M l=none):l≠p:=by
 intro e;subst e;obtain⟨x,y,z,q⟩:=h.ex;rw[hl]at q;cases q
def mV:DSp:=fun ds M R _=>∃ c:Int,ds=[.int c]∧∀ p M',M p=none→MK M M'→p7 M' p→R (.ref p) M'
def C2:DSp:=fun ds M R _=>∃(p:Addr) (b:Int),ds=[.ref p,.int b]∧p7 M p∧0<b∧b.natAbs.log2<9000∧∀(r:Int) M',0≤r→r<b→j1 p M M'→R (.int r) M'
def D2:DSp:=fun ds M R _=>∃ a b:Int,ds=[.int a,.int b]∧b≠0∧b.natAbs.log2<9000∧R (e7 (LW a b)) M
def R0:DSp:=fun ds M R _=>∃ p:Addr,ds=[.ref p]∧p7 M p∧∀(q:Rat) M',RM.sz q≤41→j1 p M M'→R (e7 q) M'
theorem Hk:xH 10 18:=⟨by decide,by decide,by decide⟩
theorem Iq:xH 10 12:=⟨by decide,by decide,by decide⟩
theorem cp6:xH 10 6:=⟨by decide,by decide,by decide⟩
theorem An{a b:Int}(h1:-(2 ^ 64)<a)(h2:a<2 ^ 64):IntMulOk a b:=.of_left (intBits_le_64 h1 h2)
theorem Ie{a b:Int}(h1:-(2 ^ 64)<b)(h2:b<2 ^ 64):IntMulOk a b:=.of_right (intBits_le_64 h1 h2)
theorem Ic{x m k b:Int}(hm:0<m)(hm2:m<2 ^ 60)(hk:0≤k)(hk2:k<2 ^ 60):IntMulOk (x % m+k) b:=by
 have h1:=Ni x (show m≠0 by omega)
 have h2:=MU x hm
 exact An (by omega) (by omega)
theorem Gy{x m b:Int}(hm:0<m)(hm2:m<2 ^ 60):IntMulOk (x % m) b:=by
 have h1:=Ni x (show m≠0 by omega)
 have h2:=MU x hm
 exact An (by omega) (by omega)
theorem Ir{i:Int}:CFd i 8:=⟨by decide,by decide⟩
theorem Hl{i:Int}:CFd i 20:=⟨by decide,by decide⟩
theorem AR{b:Int}{k:Nat}(h:b.natAbs.log2<k):Builtin.Int.intBits b≤k:=by
 unfold Builtin.Int.intBits
 split<;>omega
theorem aJ{a b:Int}(ha:0≤a)(hb:0≤b):a.fdiv b=a / b:=Int.fdiv_eq_ediv_of_nonneg a hb
theorem qs{a b:Int}(hb:b≠0)(h:b.natAbs.log2<9000):((MH a.natAbs b.natAbs:Nat):Int).natAbs.log2<9000:=by
 have hp:0<b.natAbs:=PZ.mpr hb
 have hle:MH a.natAbs b.natAbs≤b.natAbs:=Nat.gcd_le_right _ hp
 have h1:b.natAbs<2 ^ 9000:=(OX (by omega)).mp h
 rw[LJ]
 exact F3 (LR hle h1) (by decide)
theorem wo{a b:Int}(hb:b≠0):((MH a.natAbs b.natAbs:Nat):Int)≠0:=by
 have hp:0<b.natAbs:=PZ.mpr hb
 have:=Nr a.natAbs hp
 omega
theorem cy{a b s:Int}(hb:b≠0)(hs:s=if b<0 then -((MH a.natAbs b.natAbs:Nat):Int)else((MH a.natAbs b.natAbs:Nat):Int)){M:Mem}{R:DK}(k:R (e7 (LW a b)) M) :
  R (.tup [.int (a.fdiv s),.int (b.fdiv s)]) M:=by
 obtain⟨h1,h2⟩:=RM.Ed a b hb s hs
 rw[h1,h2];exact k
theorem G9{a b:Int}{n:Nat}(hn:0<n)(h1:a.natAbs<2 ^ n)(h2:b.natAbs<2 ^ n)(hb:b≠0):RM.sz (LW a b)≤n :=
 LL (RM.T7 a b hb) (OQ.mpr ⟨RM.dO h1 hn,RM.dO h2 hn⟩)
def pW:DSp:=fun ds M R _=>∃ n:Int,ds=[.int n]∧R (.bl true) M
end GM
namespace GM
open PySem PySem.Spec L2 DL
def pX:DSp:=fun ds _ R _=>∃ ns:List Int,ds=[.vl (ns.map D.int)]∧ns.length≤63∧∀ M',R (.bl true) M'
end GM
namespace GM
open PySem PySem.Spec L2 DL
open RM (sz)
def K8:DSp:=fun ds M R _=>∃ a b:Nat,ds=[.int (a:Int),.int (b:Int)]∧R (.int ((MH a b:Nat):Int)) M
def cV:DSp:=fun ds M R _=>∃ q:Rat,ds=[e7 q]∧R (e7 (-q)) M
def N3:DSp:=fun ds M R _=>∃ q r:Rat,ds=[e7 q,e7 r]∧sz q+sz r≤8900∧R (e7 (q+r)) M
def gP:DSp:=fun ds M R _=>∃ q r:Rat,ds=[e7 q,e7 r]∧sz q+sz r≤8900∧R (e7 (q - r)) M
def E3:DSp:=fun ds M R _=>∃ q r:Rat,ds=[e7 q,e7 r]∧sz q+sz r≤8900∧R (e7 (q*r)) M
def mW:DSp:=fun ds M R _=>∃ q r:Rat,ds=[e7 q,e7 r]∧r≠0∧sz q+sz r≤8900∧R (e7 (q / r)) M
theorem j4(q:Rat):q.num.natAbs<2 ^ sz q:=Lz (RM.az _) (LD (by decide) (RM.J7 q))
theorem i4(q:Rat):((q.den:Int)).natAbs<2 ^ sz q:=by rw[LJ];exact Lz (RM.az _) (LD (by decide) (RM.D5 q))
theorem mNN{q r:Rat}(h:sz q+sz r≤8900):IntMulOk q.num r.num:=i5 _ _ (j4 q) (j4 r) (by omega)
theorem mND{q r:Rat}(h:sz q+sz r≤8900):IntMulOk q.num (r.den:Int):=i5 _ _ (j4 q) (i4 r) (by omega)
theorem mDD{q r:Rat}(h:sz q+sz r≤8900):IntMulOk (q.den:Int) (r.den:Int):=i5 _ _ (i4 q) (i4 r) (by omega)
theorem mDN{q r:Rat}(h:sz q+sz r≤8900):IntMulOk (q.den:Int) r.num:=i5 _ _ (i4 q) (j4 r) (by omega)
theorem lDD{q r:Rat}(h:sz q+sz r≤8900):((q.den:Int)*(r.den:Int)).natAbs.log2<9000:=by
 have h1:=RM.Q1 q.den r.den
 have h2:=RM.D5 q
 have h3:=RM.D5 r
 rw[Mf,LJ,LJ]
 unfold RM.bl at *
 omega
theorem lDN{q r:Rat}(h:sz q+sz r≤8900):((q.den:Int)*r.num).natAbs.log2<9000:=by
 have h1:=RM.Q1 q.den r.num.natAbs
 have h2:=RM.D5 q
 have h3:=RM.J7 r
 rw[Mf,LJ]
 unfold RM.bl at *
 omega
theorem Eb{r:Rat}(h:r≠0):r.num≠0:=fun z=>h (Ng.mp z)
noncomputable def u9(q:Rat):Rat:=if 0≤q then q else -q
theorem EL(q:Rat):e7 (u9 q) = .tup [.int (q.num.natAbs:Int),.int (q.den:Int)]:=by
 unfold u9 e7
 have hz:0≤q↔0≤q.num:=Og.symm
 split
 ·rename_i h
  have:=hz.mp h
  rw[show q.num=(q.num.natAbs:Int)by omega];simp
 ·rename_i h
  have h':¬ 0≤q.num:=fun z=>h (hz.mpr z)
  rw[Oo,OZ,show -q.num=(q.num.natAbs:Int)by omega]
theorem bJ(t:Rat):t.num<0↔t<0:=by
 have:=Og (q:=t)
 constructor
 ·intro h;have:¬ 0≤t:=fun z=>by have:=Og.mpr z;omega
  grind
 ·intro h;have h':¬ 0≤t.num:=fun z=>by have:=Og.mp z;grind
  omega
end GM
namespace GM
open RM (sz)
theorem J4(q:Rat){k:Nat}(h:sz q≤k):q.num.natAbs<2 ^ k:=Lz (RM.az _) (LD (by decide) (LL (RM.J7 q) h))
theorem j9(q:Rat){k:Nat}(h:sz q≤k):q.den<2 ^ k:=Lz (RM.az _) (LD (by decide) (LL (RM.D5 q) h))
theorem G1(q:Rat):q*(q.den:Rat)=(q.num:Rat):=by
 have h:(q.den:Rat)≠0:=by
  intro z;exact q.den_nz (by exact_mod_cast z)
 have e:=Mq q
 rw[Po,MQ]at e
 grind
theorem dE{a b m n:Nat}(h1:a<2 ^ m)(h2:b<2 ^ n):a*b<2 ^ (m+n):=by
 rw[Mt];exact MG h1 h2
theorem A2{a b:Int}{m n:Nat}(h1:a.natAbs<2 ^ m)(h2:b.natAbs<2 ^ n):(a*b).natAbs<2 ^ (m+n):=by
 rw[Mf];exact dE h1 h2
theorem S7{a m n:Nat}(h:a<2 ^ m)(hn:m≤n):a<2 ^ n:=Lz h (LD (by decide) hn)
end GM
namespace GM
open PySem PySem.Spec L2 DL
open RM (sz)
noncomputable abbrev p9(y u:Rat):D:=.tup [e7 y,e7 u]
structure T2(S:Nat)(y u:Rat):Prop where
 y:sz y≤S
 u:sz u≤S
def uv:DSp:=fun ds M R _=>∃ p:Addr,ds=[.ref p]∧p7 M p∧∀(y u:Rat) M',T2 41 y u→j1 p M M'→R (p9 y u) M'
theorem uV(n:Int):e7 (n:Rat) = .tup [.int n,.int 1]:=by
 unfold e7
 rw[PF,PH];rfl
theorem Dd{n:Int}{k:Nat}(hk:0<k)(h:n.natAbs<2 ^ k):sz (n:Rat)≤k:=by
 refine RM.um _ hk ?_ ?_
 ·rw[PF];exact h
 ·rw[PH];exact Pj (by omega)
theorem W7(q:Rat):sz (u9 q)=sz q:=by
 unfold u9;split
 ·rfl
 ·exact RM.N0 q
theorem AY{q:Rat}(h:q≠0):0<u9 q:=by
 unfold u9;split
 ·grind
 ·grind
noncomputable def Q3(x:Str × Rat):D:=.tup [.str x.1,e7 x.2]
def cW:DSp:=fun ds M R _=>∃ q:Rat,ds=[e7 q]∧R (e7 (u9 q)) M
theorem gk{x y:Str × Rat}(h:Q3 x=Q3 y):x=y:=by
 unfold Q3 at h
 injection h with h
 injection h with h1 h2
 injection h1 with h1
 injection h2 with h2 _
 exact Prod.ext h1 (E8 h2)
theorem i7{x y:Str × Rat}:Q3 x=Q3 y↔x=y:=⟨gk,fun h=>by rw[h]⟩
theorem h6{xs ys:List (Str × Rat)}:xs.map Q3=ys.map Q3↔xs=ys:=Mz (fun _ _ h=>gk h)
noncomputable def f9(l:Rat × Rat × Rat):D:=.tup [e7 l.1,e7 l.2.1,e7 l.2.2]
theorem gv{x y:Rat × Rat × Rat}(h:f9 x=f9 y):x=y:=by
 unfold f9 at h
 injection h with h
 injection h with h1 h2
 injection h2 with h2 h3
 injection h3 with h3 _
 exact Prod.ext (E8 h1) (Prod.ext (E8 h2) (E8 h3))
theorem i9{x y:Rat × Rat × Rat}:f9 x=f9 y↔x=y:=⟨gv,fun h=>by rw[h]⟩
theorem h7{xs ys:List (Rat × Rat × Rat)}:xs.map f9=ys.map f9↔xs=ys:=Mz (fun _ _ h=>gv h)
theorem Dw{p q r:Rat}:D.tup [e7 p,e7 q,e7 r]=f9 (p,q,r):=rfl
theorem pf{gs:T6}{l:Rat × Rat × Rat}{e:Ev}{M:Mem}{Q:Ev→Mem→Prop}:ml 3 gs (f9 l) e M Q=gs [e7 l.1,e7 l.2.1,e7 l.2.2] e M Q:=cS rfl
theorem pk{l:Rat × Rat × Rat}{M:Mem}{R:DK}:gIx (f9 l) (.int 0) M R=R (e7 l.1) M:=W3
theorem pj{l:Rat × Rat × Rat}{M:Mem}{R:DK}:gIx (f9 l) (.int 1) M R=R (e7 l.2.1) M:=W2
theorem ph{l:Rat × Rat × Rat}{M:Mem}{R:DK}:gIx (f9 l) (.int 2) M R=R (e7 l.2.2) M:=gM
theorem sN{q:Rat}{M:Mem}{R:DK}:gIx (e7 q) (.int 0) M R=R (.int q.num) M:=W3
theorem sM{q:Rat}{M:Mem}{R:DK}:gIx (e7 q) (.int 1) M R=R (.int (q.den:Int)) M:=W2
theorem sL{gs:T6}{q:Rat}{e:Ev}{M:Mem}{Q:Ev→Mem→Prop}:ml 2 gs (e7 q) e M Q=gs [.int q.num,.int (q.den:Int)] e M Q:=cS rfl
theorem sJ{q:Rat}{M:Mem}{R:DK}:mi [e7 q] M R=R (.int 2) M:=fU rfl
theorem pe{x:Str × Rat}{M:Mem}{R:DK}:gIx (Q3 x) (.int 0) M R=R (.str x.1) M:=W3
theorem pd{x:Str × Rat}{M:Mem}{R:DK}:gIx (Q3 x) (.int 1) M R=R (e7 x.2) M:=W2
theorem pb{gs:T6}{x:Str × Rat}{e:Ev}{M:Mem}{Q:Ev→Mem→Prop}:ml 2 gs (Q3 x) e M Q=gs [.str x.1,e7 x.2] e M Q:=cS rfl
theorem kB{q:Rat}{M:Mem}{R:DK}:A3 [e7 q,.ty "tuple"] M R=R (.bl true) M:=m9 rfl rfl
theorem fA{x:Str × Rat}{M:Mem}{R:DK}:A3 [Q3 x,.ty "tuple"] M R=R (.bl true) M:=m9 rfl rfl
theorem oZ{x:Str × Rat}{M:Mem}{R:DK}:mi [Q3 x] M R=R (.int 2) M:=fU rfl
theorem yq{q:Rat}:cl 60 (e7 q)=true:=rfl
theorem yr{q:Rat}:cl 59 (e7 q)=true:=rfl
theorem yt{q:Rat}:cl 58 (e7 q)=true:=rfl
theorem yu{q:Rat}:cl 57 (e7 q)=true:=rfl
theorem r0:D.tup [.int 0,.int 1]=e7 0:=rfl
theorem r1:D.tup [.int 1,.int 1]=e7 1:=rfl
theorem r2:D.tup [.int 2,.int 1]=e7 2:=rfl
theorem r4:D.tup [.int 4,.int 1]=e7 4:=rfl
theorem FZ{q:Rat}:D.tup [.int (q.num.natAbs:Int),.int (q.den:Int)]=e7 (u9 q):=(EL q).symm
theorem BY{q:Rat}:D.tup [.int (-q.num),.int (q.den:Int)]=e7 (-q):=by unfold e7;rw[Oo,OZ]
theorem Dv{q:Rat}:D.tup [.int q.num,.int (q.den:Int)]=e7 q:=rfl
theorem rm2:D.tup [.int (-2),.int 1]=e7 (-2):=rfl
theorem rm1:D.tup [.int (-1),.int 1]=e7 (-1):=rfl
end GM
local macro_rules|`(tactic| walk_at "inj")=>`(tactic| (rename_i e h;simp only[List.cons.injEq,and_true,true_and,GM.i0,GM.i7,GM.h6,GM.i9,GM.h7,DL.D.tup.injEq,DL.D.ref.injEq,DL.D.int.injEq,DL.D.str.injEq,DL.D.bl.injEq,DL.D.vl.injEq,Ma,and_assoc]at e;(repeat(obtain⟨e1,e⟩:=e;subst e1));subst e;exact h))
local macro_rules|`(tactic| walk_at "injs")=>`(tactic| (rename_i e o h;rcases o with o|o<;>(subst o;first|(exfalso;simp only[DL.D.tup.injEq,List.cons.injEq,reduceCtorEq,false_and,and_false]at e;done)|(simp only[List.cons.injEq,and_true,true_and,GM.i0,GM.i7,GM.h6,GM.i9,GM.h7,DL.D.tup.injEq,DL.D.ref.injEq,DL.D.int.injEq,DL.D.str.injEq,DL.D.bl.injEq,DL.D.vl.injEq,Ma,and_assoc]at e;(repeat(obtain⟨e1,e⟩:=e;subst e1));subst e;exact h))))
namespace GM
open PySem PySem.Spec L2 DL
open RM (sz)
theorem bw{a b:Nat}{M:Mem}{R:DK}{Y:DXK}:K8 [.int (a:Int),.int (b:Int)] M R Y=(R (.int ((MH a b:Nat):Int)) M):=propext ⟨fun z=>by obtain⟨_,_,_,_⟩:=z;walk_at "inj",fun h=>⟨a,b,rfl,h⟩⟩
theorem oK{q:Rat}{M:Mem}{R:DK}{Y:DXK}:cV [e7 q] M R Y=(R (e7 (-q)) M):=propext ⟨fun z=>by obtain⟨_,_,_⟩:=z;walk_at "inj",fun h=>⟨q,rfl,h⟩⟩
theorem jS{q r:Rat}{M:Mem}{R:DK}{Y:DXK}:N3 [e7 q,e7 r] M R Y=(sz q+sz r≤8900∧R (e7 (q+r)) M):=propext ⟨fun z=>by obtain⟨_,_,_,_⟩:=z;walk_at "inj",fun h=>⟨q,r,rfl,h⟩⟩
theorem fe{q r:Rat}{M:Mem}{R:DK}{Y:DXK}:gP [e7 q,e7 r] M R Y=(sz q+sz r≤8900∧R (e7 (q - r)) M):=propext ⟨fun z=>by obtain⟨_,_,_,_⟩:=z;walk_at "inj",fun h=>⟨q,r,rfl,h⟩⟩
theorem fc{q r:Rat}{M:Mem}{R:DK}{Y:DXK}:E3 [e7 q,e7 r] M R Y=(sz q+sz r≤8900∧R (e7 (q*r)) M):=propext ⟨fun z=>by obtain⟨_,_,_,_⟩:=z;walk_at "inj",fun h=>⟨q,r,rfl,h⟩⟩
theorem jT{q r:Rat}{M:Mem}{R:DK}{Y:DXK}:mW [e7 q,e7 r] M R Y=(r≠0∧sz q+sz r≤8900∧R (e7 (q / r)) M):=propext ⟨fun z=>by obtain⟨_,_,_,_⟩:=z;walk_at "inj",fun h=>⟨q,r,rfl,h⟩⟩
theorem oM{a b:Int}{M:Mem}{R:DK}{Y:DXK}:D2 [.int a,.int b] M R Y=(b≠0∧b.natAbs.log2<9000∧R (e7 (LW a b)) M):=propext ⟨fun z=>by obtain⟨_,_,_,_⟩:=z;walk_at "inj",fun h=>⟨a,b,rfl,h⟩⟩
theorem jR{c:Int}{M:Mem}{R:DK}{Y:DXK}:mV [.int c] M R Y=(∀ p M',M p=none→MK M M'→p7 M' p→R (.ref p) M'):=propext ⟨fun z=>by obtain⟨_,_,_⟩:=z;walk_at "inj",fun h=>⟨c,rfl,h⟩⟩
theorem jU{p:Addr}{b:Int}{M:Mem}{R:DK}{Y:DXK}:C2 [.ref p,.int b] M R Y=(p7 M p∧0<b∧b.natAbs.log2<9000∧∀(r:Int) M',0≤r→r<b→j1 p M M'→R (.int r) M'):=propext ⟨fun z=>by obtain⟨_,_,_,_⟩:=z;walk_at "inj",fun h=>⟨p,b,rfl,h⟩⟩
theorem cB{p:Addr}{M:Mem}{R:DK}{Y:DXK}:R0 [.ref p] M R Y=(p7 M p∧∀(q:Rat) M',RM.sz q≤41→j1 p M M'→R (e7 q) M'):=propext ⟨fun z=>by obtain⟨_,_,_⟩:=z;walk_at "inj",fun h=>⟨p,rfl,h⟩⟩
theorem oJ{p:Addr}{M:Mem}{R:DK}{Y:DXK}:uv [.ref p] M R Y=(p7 M p∧∀(y u:Rat) M',T2 41 y u→j1 p M M'→R (p9 y u) M'):=propext ⟨fun z=>by obtain⟨_,_,_⟩:=z;walk_at "inj",fun h=>⟨p,rfl,h⟩⟩
theorem oN{q:Rat}{M:Mem}{R:DK}{Y:DXK}:cW [e7 q] M R Y=(R (e7 (u9 q)) M):=propext ⟨fun z=>by obtain⟨_,_,_⟩:=z;walk_at "inj",fun h=>⟨q,rfl,h⟩⟩
theorem bo{k:Nat}:∀{ds:List D},(∀ x∈ds,cl k x=true)→clL k ds=true
 | [],_=>rfl
 | d :: r,h=>by
  show(cl k d && clL k r)=true
  rw[h d LI,bo (fun x hx=>h x (LG _ hx))];rfl
theorem j1.put{p l:Addr}{M M':Mem}{o:MO}(h:j1 p M M')(hl:M l=none)(hp:l≠p):j1 p M (v7 M' l o):=⟨fun b u hb e=>by
  rw[E2 (by intro z;subst z;rw[hl]at e;cases e)];exact h.keep b u hb e,by
  obtain⟨x,y,z,e⟩:=h.pool.ex
  exact⟨x,y,z,by rw[E2 (Ne.symm hp)];exact e⟩⟩
theorem j1.del{p l:Addr}{M M':Mem}(h:j1 p M M')(hl:M l=none)(hp:l≠p):j1 p M (bU M' l):=⟨fun b u hb e=>by
  rw[jA (by intro z;subst z;rw[hl]at e;cases e)];exact h.keep b u hb e,by
  obtain⟨x,y,z,e⟩:=h.pool.ex
  exact⟨x,y,z,by rw[jA (Ne.symm hp)];exact e⟩⟩
theorem om{ds:List D}{n:Nat}:Y5 ds none (some (n:Int))=ds.take n:=by
 unfold Y5 HT.sIx
 simp only[PY,Nat.sub_zero]
 rw[if_neg (by omega)]
 by_cases h:n≤ds.length
 ·congr 1;omega
 ·rw[MS (by omega),MS (by omega)]
theorem E6{xs:List D}{r:Int}{M:Mem}{R:DK}(h0:0≤r)(h1:r<xs.length)(h:∀ d∈xs,R d M):gIx (.vl xs) (.int r) M R:=by
 obtain⟨z,e,hz⟩:=qJ h0 h1
 exact⟨z,e,h z hz⟩
end GM
set_option maxHeartbeats 1000000
namespace GM
open PySem PySem.Spec L2 DL
open RM (sz)
noncomputable def L3(l:Rat × Rat × Rat)(y u:Rat):Bool:=decide (u9 (l.1*y+l.2.1*u)≤l.2.2)
noncomputable def L1(ls:List (Rat × Rat × Rat))(y u:Rat):Bool:=ls.all fun l=>L3 l y u
structure LSz(n:Nat)(l:Rat × Rat × Rat):Prop where
 p:sz l.1≤n
 q:sz l.2.1≤n
 r:sz l.2.2≤n
structure LOk(n:Nat)(l:Rat × Rat × Rat):Prop extends LSz n l where
 ne:¬ (l.1=0∧l.2.1=0)
noncomputable def M0(p q y u:Rat):Int:=p.num*y.num*q.den*u.den+q.num*u.num*p.den*y.den
noncomputable def I0(p q y u:Rat):Int:=p.den*y.den*q.den*u.den
abbrev Z9(b c:Bool)(M:Mem)(R:DK)(Y:DXK):Prop:=R (.bl (decide (b=c))) M
def nu:DSp:=fun ds M R Y=>∃(b c:Bool),ds=[.bl b,.bl c]∧Z9 b c M R Y
theorem jX{b c:Bool}{M:Mem}{R:DK}{Y:DXK}:nu [.bl b,.bl c] M R Y=(Z9 b c M R Y):=propext ⟨fun z=>by obtain⟨_,_,_,_⟩:=z;walk_at "inj",fun h=>⟨b,c,rfl,h⟩⟩
def CB(B m:Nat)(x:Rat):Prop:=∃ n:Int,x=LW n (B:Int)∧n.natAbs≤B*2 ^ m
def Col(k:Nat)(xs:List Rat):Prop:=∃ B:Nat,0<B∧B≤2 ^ (42*k)∧∀ x∈xs,CB B (41+2*k) x
theorem Col.nil:Col 0 []:=⟨1,by decide,by decide,fun x hx=>by cases hx⟩
theorem CB.mono{B m m':Nat}{x:Rat}(h:CB B m x)(hm:m≤m'):CB B m' x:=by
 obtain⟨n,e,h⟩:=h
 exact⟨n,e,LL h (Pb _ (LD (by decide) hm))⟩
theorem CB.scale{B m:Nat}{x:Rat}(h:CB B m x)(hB:0<B){c:Nat}(hc:0<c):CB (B*c) m x:=by
 obtain⟨n,e,h⟩:=h
 refine⟨n*c,?_,?_⟩
 ·rw[e,Nz,NO (by omega)]
 ·rw[Mf,LJ]
  have:=Mo c h
  rw[Nat.mul_right_comm]at this
  exact this
theorem CB.sz{B m k:Nat}{x:Rat}(h:CB B m x)(hB:0<B)(hk:B≤2 ^ k):RM.sz x≤k+m+1:=by
 obtain⟨n,rfl,h⟩:=h
 refine G9 (by omega) ?_ ?_ (by omega)
 ·have h2:B*2 ^ m≤2 ^ (k+m):=by rw[Mt];exact Mo _ hk
  exact LR (LL h h2) (OT (by decide) (by omega))
 ·rw[LJ]
  exact LR hk (OT (by decide) (by omega))
theorem Col.sz{k:Nat}{xs:List Rat}(h:Col k xs)(hk:k≤12){x:Rat}(hx:x∈xs):RM.sz x≤600:=by
 obtain⟨B,b0,b1,h⟩:=h
 have:=(h x hx).sz b0 b1
 omega
theorem Col.new{k:Nat}{xs:List Rat}(h:Col k xs){x:Rat}(hx:RM.sz x≤41):Col (k+1) (xs++[x]):=by
 obtain⟨B,b0,b1,h⟩:=h
 have hd:x.den<2 ^ 41:=j9 x hx
 have hn:x.num.natAbs<2 ^ 41:=J4 x hx
 have d0:=x.den_pos
 refine⟨B*x.den,PJ b0 d0,?_,fun z hz=>?_⟩
 ·have:=OV b1 (MF hd)
  rw[← Mt]at this
  exact LL this (LD (by decide) (by omega))
 ·rcases Md.mp hz with hz|hz
  ·exact((h z hz).scale b0 d0).mono (by omega)
  ·obtain rfl:z=x:=by simpa using hz
   refine⟨z.num*B,?_,?_⟩
   ·rw[Nj,Nz,NO (by omega),Mq]
   ·rw[Mf,LJ,Nj,Pk]
    refine Pb _ (LL (MF hn) ?_)
    have h1:2 ^ 41≤2 ^ (41+2*(k+1)):=LD (by decide) (by omega)
    exact LL h1 (Nat.le_mul_of_pos_left _ d0)
theorem Col.add{k:Nat}{xs:List Rat}(h:Col k xs){x y:Rat}(hx:x∈xs)(hy:y∈xs):Col (k+1) (xs++[x+y]):=by
 obtain⟨B,b0,b1,h⟩:=h
 refine⟨B,b0,LL b1 (LD (by decide) (by omega)),fun z hz=>?_⟩
 rcases Md.mp hz with hz|hz
 ·exact(h z hz).mono (by omega)
 ·obtain rfl:z=x+y:=by simpa using hz
  obtain⟨n,rfl,hn⟩:=h x hx
  obtain⟨m,rfl,hm⟩:=h y hy
  refine⟨n+m,?_,?_⟩
  ·rw[OL _ _ (by omega) (by omega),← Int.add_mul,NO (by omega)]
  ·have:=NB n m
   have e:41+2*(k+1)=(41+2*k)+1+1:=by omega
   rw[e,MC,MC]
   generalize 2 ^ (41+2*k)=t at *
   have:B*(t*2*2)=4*(B*t):=by grind
   omega
theorem Col.again{k:Nat}{xs:List Rat}(h:Col k xs){x:Rat}(hx:x∈xs):Col (k+1) (xs++[x]):=by
 obtain⟨B,b0,b1,h⟩:=h
 refine⟨B,b0,LL b1 (LD (by decide) (by omega)),fun z hz=>?_⟩
 rcases Md.mp hz with hz|hz
 ·exact(h z hz).mono (by omega)
 ·obtain rfl:z=x:=by simpa using hz
  exact(h z hx).mono (by omega)
theorem Col.by{k:Nat}{xs:List Rat}(h:Col k xs){x w:Rat}(hx:x∈xs)(h1:w.num.natAbs≤4)(h2:w.den≤4):Col (k+1) (xs++[w*x]):=by
 obtain⟨B,b0,b1,h⟩:=h
 have d0:=w.den_pos
 refine⟨B*w.den,PJ b0 d0,?_,fun z hz=>?_⟩
 ·have:=OV b1 (show w.den≤2 ^ 2 from h2)
  rw[← Mt]at this
  exact LL this (LD (by decide) (by omega))
 ·rcases Md.mp hz with hz|hz
  ·exact((h z hz).scale b0 d0).mono (by omega)
  ·obtain rfl:z=w*x:=by simpa using hz
   obtain⟨n,rfl,hn⟩:=h x hx
   refine⟨w.num*n,?_,?_⟩
   ·rw[Nz,Int.mul_comm (B:Int),← NH,Mq]
   ·rw[Mf]
    have e:41+2*(k+1)=(41+2*k)+2:=by omega
    rw[e,Mt]
    have:=OV h1 hn
    generalize 2 ^ (41+2*k)=t at *
    have h3:B*w.den*(t*2 ^ 2)=4*(B*t)*w.den:=by grind
    rw[h3]
    exact LL this (Nat.le_mul_of_pos_right _ d0)
theorem eX{a b c d:Int}(hb:0<b)(hd:0<d):LW a b≤LW c d↔a*d≤c*b:=by
 rw[Rat.le_iff_sub_nonneg,Rat.divInt_sub_divInt _ _ (by omega) (by omega),Nv (MV hd hb)]
 omega
theorem lX{l:Rat × Rat × Rat}{y u:Rat}:L3 l y u = !decide (l.2.2<u9 (l.1*y+l.2.1*u)):=by
 unfold L3
 by_cases h:u9 (l.1*y+l.2.1*u)≤l.2.2
 ·rw[decide_eq_true h,decide_eq_false (by grind)];rfl
 ·rw[decide_eq_false h,decide_eq_true (by grind)];rfl
theorem j7{a b:Int}{m n:Nat}(h1:a.natAbs<2 ^ m)(h2:b.natAbs<2 ^ n):(a*b).natAbs<2 ^ (m+n):=by
 rw[Mf,Mt]
 exact My h1 (MF h2) (NC (by decide))
theorem uf(p q y u:Rat):(M0 p q y u).natAbs<2 ^ (sz p+sz q+sz y+sz u+1):=by
 unfold M0
 have h1:=j7 (j7 (j7 (j4 p) (j4 y)) (i4 q)) (i4 u)
 have h2:=j7 (j7 (j7 (j4 q) (j4 u)) (i4 p)) (i4 y)
 rw[show sz p+sz y+sz q+sz u=sz p+sz q+sz y+sz u by omega]at h1
 rw[show sz q+sz u+sz p+sz y=sz p+sz q+sz y+sz u by omega]at h2
 have:=NB (p.num*y.num*q.den*u.den) (q.num*u.num*p.den*y.den)
 rw[MC]
 omega
theorem ox(p q y u:Rat):(I0 p q y u).natAbs<2 ^ (sz p+sz q+sz y+sz u):=by
 unfold I0
 have h1:=j7 (j7 (j7 (i4 p) (i4 y)) (i4 q)) (i4 u)
 rw[show sz p+sz y+sz q+sz u=sz p+sz q+sz y+sz u by omega]at h1
 exact h1
theorem rK{l:Rat × Rat × Rat}{y u:Rat}:((M0 l.1 l.2.1 y u).natAbs:Int)*(l.2.2.den:Int)≤l.2.2.num*I0 l.1 l.2.1 y u↔L3 l y u=true:=by
 have b0:0<I0 l.1 l.2.1 y u:=by
  unfold I0
  exact MV (MV (MV (by have:=l.1.den_pos;omega) (by have:=y.den_pos;omega)) (by have:=l.2.1.den_pos;omega)) (by have:=u.den_pos;omega)
 have e:l.1*y+l.2.1*u=LW (M0 l.1 l.2.1 y u) (I0 l.1 l.2.1 y u):=by
  conv=>lhs;rw[← Mq l.1,← Mq y,← Mq l.2.1,← Mq u]
  rw[NH,NH,OL _ _ (Mn (RM.o9 _) (RM.o9 _)) (Mn (RM.o9 _) (RM.o9 _))]
  unfold M0 I0
  congr 1<;>grind
 unfold L3
 rw[e,decide_eq_true_iff]
 generalize I0 l.1 l.2.1 y u=b at *
 generalize M0 l.1 l.2.1 y u=t at *
 have ea:u9 (LW t b)=LW (t.natAbs:Int) b:=by
  unfold u9
  have hh:=Nv (a:=t) b0
  split
  ·rename_i h;have:=hh.mp h;rw[show(t.natAbs:Int)=t by omega]
  ·rename_i h;have:¬ 0≤t:=fun z=>h (hh.mpr z);rw[show(t.natAbs:Int) = -t by omega,← Rat.neg_divInt]
 rw[ea]
 conv=>rhs;rw[← Mq l.2.2]
 exact(eX b0 (by have:=l.2.2.den_pos;omega)).symm
theorem nW{ls:List (Rat × Rat × Rat)}{y u:Rat}(h:∀(i:Nat) (l:Rat × Rat × Rat),ls[i]? = some l→L3 l y u=true):L1 ls y u=true:=by
 unfold L1
 rw[Oy]
 intro x hx
 obtain⟨i,hi,e⟩:=OU.mp hx
 exact h i x (by rw[LU hi,e])
theorem vP{ls:List (Rat × Rat × Rat)}{y u:Rat}{l:Rat × Rat × Rat}(hl:l∈ls)(h:L3 l y u=false):L1 ls y u=false:=by
 unfold L1
 rw[List.all_eq_false]
 exact⟨l,hl,by rw[h];decide⟩
theorem gu{ls:List (Rat × Rat × Rat)}{i:Nat}{d:D}(h:(ls.map f9)[i]? = some d):∃ l,ls[i]? = some l∧d=f9 l:=by
 rw[LY]at h
 cases e:ls[i]? with
 | none=>rw[e]at h;cases h
 | some l=>rw[e]at h;exact⟨l,rfl,(Option.some.inj h).symm⟩
theorem dJ{l:Addr}{xs:List D}{r:Int}{M:Mem}{R:DK}(hM:M l=some (.lst xs))(h0:0≤r)(h1:r<xs.length)(h:∀ d∈xs,R d M):gIx (.ref l) (.int r) M R:=by
 obtain⟨z,e,hz⟩:=qJ h0 h1
 exact⟨z,B0 hM e,h z hz⟩
structure Q2(k:Nat)(ls:List (Rat × Rat × Rat)):Prop where
 p:Col k (ls.map fun l=>l.1)
 q:Col k (ls.map fun l=>l.2.1)
 r:Col k (ls.map fun l=>l.2.2)
 ne:∀ l∈ls,¬ (l.1=0∧l.2.1=0)
theorem Q2.nil:Q2 0 []:=⟨Col.nil,Col.nil,Col.nil,fun _ h=>nomatch h⟩
theorem jo{ls:List (Rat × Rat × Rat)}{x:Rat × Rat × Rat}(h:∀ l∈ls,¬ (l.1=0∧l.2.1=0))(hx:¬ (x.1=0∧x.2.1=0)):∀ l∈ls++[x],¬ (l.1=0∧l.2.1=0):=fun l hl=>by
 rcases Md.mp hl with z|z
 ·exact h l z
 ·rw[Mk.mp z];exact hx
theorem Y4{ls:List (Rat × Rat × Rat)}{x:Rat × Rat × Rat}(h:x∈ls)(f:Rat × Rat × Rat→Rat):f x∈ls.map f:=LM.mpr ⟨x,h,rfl⟩
theorem Q2.new{k:Nat}{ls:List (Rat × Rat × Rat)}(h:Q2 k ls){x:Rat × Rat × Rat}(hx:LOk 41 x):Q2 (k+1) (ls++[x]) :=
 ⟨by rw[LX];exact h.p.new hx.p,by rw[LX];exact h.q.new hx.q,by rw[LX];exact h.r.new hx.r,jo h.ne hx.ne⟩
theorem Q2.again{k:Nat}{ls:List (Rat × Rat × Rat)}(h:Q2 k ls){x:Rat × Rat × Rat}(hx:x∈ls):Q2 (k+1) (ls++[x]) :=
 ⟨by rw[LX];exact h.p.again (Y4 hx _),by rw[LX];exact h.q.again (Y4 hx _),by rw[LX];exact h.r.again (Y4 hx _),jo h.ne (h.ne x hx)⟩
theorem Q2.sum{k:Nat}{ls:List (Rat × Rat × Rat)}(h:Q2 k ls){x y:Rat × Rat × Rat}(hx:x∈ls)(hy:y∈ls)(hn:¬ (x.1+y.1=0∧x.2.1+y.2.1=0)):Q2 (k+1) (ls++[(x.1+y.1,x.2.1+y.2.1,x.2.2+y.2.2)]) :=
 ⟨by rw[LX];exact h.p.add (Y4 hx _) (Y4 hy _),by rw[LX];exact h.q.add (Y4 hx (fun l=>l.2.1)) (Y4 hy (fun l=>l.2.1)),by rw[LX];exact h.r.add (Y4 hx (fun l=>l.2.2)) (Y4 hy (fun l=>l.2.2)),jo h.ne hn⟩
structure dP(w:Rat):Prop where
 n:w.num.natAbs≤4
 d:w.den≤4
 ne:w≠0
theorem Q2.taken{k:Nat}{ls:List (Rat × Rat × Rat)}(h:Q2 k ls){x:Rat × Rat × Rat}(hx:x∈ls){w r:Rat}(hw:dP w)(hr:r=x.2.2∨sz r≤41):Q2 (k+1) (ls++[(w*x.1,w*x.2.1,r)]) :=
 ⟨by rw[LX];exact h.p.by (Y4 hx _) hw.n hw.d,by rw[LX];exact h.q.by (Y4 hx (fun l=>l.2.1)) hw.n hw.d,by
  rw[LX]
  rcases hr with rfl|hr
  ·exact h.r.again (Y4 hx (fun l=>l.2.2))
  ·exact h.r.new hr,jo h.ne fun z=>h.ne x hx (by
   have a:=hw.ne
   have b1:w*x.1=0:=z.1
   have b2:w*x.2.1=0:=z.2
   exact⟨by grind,by grind⟩)⟩
theorem Q2.ok{k:Nat}{ls:List (Rat × Rat × Rat)}(h:Q2 k ls)(hk:k≤12):∀ l∈ls,LOk 600 l:=fun l hl =>
 ⟨⟨h.p.sz hk (Y4 hl _),h.q.sz hk (Y4 hl (fun l=>l.2.1)),h.r.sz hk (Y4 hl (fun l=>l.2.2))⟩,h.ne l hl⟩
theorem gQ{a b:Int}(h0:a.natAbs≤4)(h1:0<b)(h2:b≤4)(h3:LW a b≠0):dP (LW a b):=by
 have ha:a = -4∨a = -3∨a = -2∨a = -1∨a=0∨a=1∨a=2∨a=3∨a=4:=by omega
 have hb:b=1∨b=2∨b=3∨b=4:=by omega
 refine⟨?_,?_,h3⟩<;>(rcases ha with rfl|rfl|rfl|rfl|rfl|rfl|rfl|rfl|rfl<;>rcases hb with rfl|rfl|rfl|rfl<;>decide)
theorem small_one:dP 1:=⟨by decide,by decide,by decide⟩
theorem dP.sz{w:Rat}(h:dP w):RM.sz w≤3:=by
 rw[← Mq w]
 exact G9 (by decide) (by have:=h.n;omega) (by have:=h.d;omega) (RM.o9 w)
noncomputable def rD(r:Rat × Rat):D:=p9 r.1 r.2
noncomputable def lW(l:Nat × Rat × Rat × Rat):D:=.tup [.int (l.1:Int),e7 l.2.1,e7 l.2.2.1,e7 l.2.2.2]
end GM
namespace DL
open PySem PySem.Spec L2
open PyProof.Rows hiding St
section
variable {X:Cx} {name:Str} {id:String} {o:Expr} {to:DTE} {apos cpos:Pos}
def He(g:DRM)(to:DTE):DTE:=fun e M R=>to e M fun x M1=>(∃ l ds,x = .ref l∧M1 l=some (.lst ds))∧g x [] M1 R
theorem Ej{g:DRM}(slot:Slot "list" name id)(hty:typeOf (.builtin id)=pure (.type "method_descriptor"))(hm:DMt X id g)(ho:JE X o to)
  (hbase:attributeBase o name X.env (eval o X.env)=eval o X.env:=by rfl) (hline:(apos.endLine == cpos.line)=true:=by rfl):JE X (.Call (.Attribute o name apos) [] [] cpos) (He g to) :=
 ⟨(vy PySem.F.plainAttrs_list slot hty hm ho.out hbase hline).imp fun σ H Q ⟨e,M,R,ok,am,t,f⟩=>⟨e,M,_,ok,am,t,fun x M1 ⟨⟨l,ds,z,hM⟩,h1⟩ v H1 k1 a1 r1=>by
  subst z
  have r1':=r1
  cases r1
  obtain⟨xs,hx,_⟩:=a1.lst hM
  exact⟨.inl ⟨rfl,xs,SqL.of hx⟩,_,[],M1,R,r1',.nil,a1,h1,f.mono k1⟩⟩⟩
def wt:DRM:=fun x xs M R=>∃ l ds,x = .ref l∧xs=[]∧M l=some (.lst ds)∧R .non (v7 M l (.lst ds.reverse))
theorem md{K:Ly}{H:Hp}:∀{xs:List V} {ds:List D},HasL K H xs ds→HasL K H xs.reverse ds.reverse
 | _,_,.nil=>.nil
 | _,_,.cons a b=>by rw[NA,NA];exact(md b).append (.cons a .nil)
theorem og:DMt X "list.reverse" wt:=MtR.imp (r:=lD) nU fun x xs H Q ⟨dx,ds,M,R,hx,hl,am,⟨l,es,e1,e2,hM,r⟩,f⟩=>by
 subst e1;subst e2
 cases hx
 cases hl
 obtain⟨ys,hy,ly⟩:=am.lst hM
 exact⟨l,ys,rfl,rfl,hy,f _ _ r _ _ (KT.write hy) (am.write hy (md ly)) .non⟩
end
section
variable {e:Ev} {M:Mem} {R:DK} {to:DTE}
theorem BG{g:DRM}:He g to e M R=to e M fun x M1=>LMK x M1 (g x [] M1 R):=rfl
end
end DL
namespace L2
open PySem PySem.Spec PyProof.Rows
noncomputable def BZ:V→List V→Hp→VK→Prop:=fun x vs H Q=>∃ l xs y,∃ k:Nat,x = .ref l∧vs=[.int (k:Int)]∧H l=some (.lst xs)∧xs.length≤1000∧xs[k]? = some y∧Q y (upd H l (.lst (xs.eraseIdx k)))
theorem W4:∀{xs:List V} {its:List Value} (k:Nat),h8 xs its→h8 (xs.eraseIdx k) (its.eraseIdx k)
 | _,_,_,.nil=>.nil
 | _,_,0,.cons _ t=>t
 | _,_,k+1,.cons r t=>.cons r (W4 k t)
theorem Ak{X:Cx}:MtM X "list.pop" BZ:=by
 intro pins s σ H x vs v us Q I rx rv h
 obtain⟨l,xs,y,k,rfl,rfl,hH,hz,hy,q⟩:=h
 cases rx
 obtain⟨u1,rfl,⟨t,rfl⟩⟩:=h8.one rv
 obtain⟨z,its,n,r,hl,e⟩:=I.lstM hH
 obtain⟨u,hu,ru⟩:=r.get hy
 have hlen:=r.length
 have hk:k<xs.length:=(LP.mp hy).1
 have hf:Builtin.List.listFitsIndex (k:Int)=true:=by
  unfold Builtin.List.listFitsIndex
  rw[decide_eq_true (show -(2 ^ 63:Int)≤(k:Int)by omega),decide_eq_true (show(k:Int)<2 ^ 63 by omega)];rfl
 have hs:seqIndex? (k:Int) its.toArray.size=some k:=by
  unfold seqIndex?
  rw[if_neg (show ¬ (k:Int)<0 by omega),if_pos (by rw[LN,MB,decide_eq_true_eq,decide_eq_true_eq];omega)]
  rfl
 have hu2:its.toArray[k]? = some u:=by rw[List.getElem?_toArray];exact hu
 have hz2:its.toArray.size≤sizeLine:=by
  have h2:(1000:Nat)≤sizeLine:=by decide
  rw[LN];omega
 generalize (k:Int)=x at *
 refine call_meets F.slot_list_pop ⟨_,e,rfl⟩ F.entry_list_pop (F.args_list_pop_2 _ _) (MeetsSeq.list_pop_at l its.toArray n x t k u hf hs hu2 hz2) ⟨e,?_⟩
 refine⟨y,_,I.lset (its':=its.eraseIdx k) hH e ?_ (W4 k r) ?_,ru,q⟩
 ·show its.toArray.eraseIdxIfInBounds k=(its.eraseIdx k).toArray
  rw[List.eraseIdxIfInBounds_toArray]
 ·have h1:(xs.eraseIdx k).length≤xs.length:=Oq xs k
  have h2:(1000:Nat)≤sizeLine:=by decide
  have h3:=(W4 k r).length
  omega
end L2
namespace DL
open PySem PySem.Spec L2
open PyProof.Rows hiding St
def Ce:DRM:=fun x xs M R=>∃ l ds d,∃ k:Nat,x = .ref l∧xs=[.int (k:Int)]∧M l=some (.lst ds)∧ds.length≤1000∧ds[k]? = some d∧R d (v7 M l (.lst (ds.eraseIdx k)))
theorem dI{K:Ly}{H:Hp}:∀{xs:List V} {ds:List D} (k:Nat),HasL K H xs ds→HasL K H (xs.eraseIdx k) (ds.eraseIdx k)
 | _,_,_,.nil=>.nil
 | _,_,0,.cons _ t=>t
 | _,_,k+1,.cons r t=>.cons r (dI k t)
theorem AH{X:Cx}:DMt X "list.pop" Ce:=MtR.imp (r:=BZ) Ak fun x xs H Q ⟨dx,ds,M,R,hx,hl,am,⟨l,es,d,k,e1,e2,hM,hz,hd,r⟩,f⟩=>by
 subst e1;subst e2
 cases hx
 obtain⟨v,rfl,hv⟩:=hl.one
 cases hv
 obtain⟨ys,hy,ly⟩:=am.lst hM
 have hlen:=ly.length
 have hk:k<ys.length:=by
  have:=(LP.mp hd).1
  omega
 have hg:ys[k]? = some (ys[k]):=LU hk
 obtain⟨d',hd',rd⟩:=ly.getV hg
 rw[hd]at hd'
 cases hd'
 exact⟨l,ys,ys[k],k,rfl,rfl,hy,by omega,hg,f _ _ r _ _ (KT.write hy) (am.write hy (dI k ly)) (rd.mono (KT.write hy))⟩
theorem Bb{l:Addr}{ds:List D}{d:D}{k:Nat}{M:Mem}{R:DK}(h:M l=some (.lst ds))(hz:ds.length≤1000)(hd:ds[k]? = some d)(r:R d (v7 M l (.lst (ds.eraseIdx k)))):Ce (.ref l) [.int (k:Int)] M R:=⟨l,ds,d,k,rfl,rfl,h,hz,hd,r⟩
end DL
namespace L2
open PySem PySem.Spec PyProof.Rows
abbrev E1(h:Heap)(T:Addr)(a b c:Value):Prop:=h.get? T=some { cls:=.type "tuple",data:=.seq #[a,b,c] }
section
variable {prog:Program} {w:World} {A:Around} {E:Value→Shared→Prop} {s:Shared}
theorem iV{T:Addr}{a b c x:Value}{k:Nat}{Q:Unit→Shared→Prop}(hT:E1 s.heap T a b c)
  (q:∀ h',h'.get? T=some { cls:=.type "tuple",data:=.seq ((#[a,b,c]:Array Value).setIfInBounds k x) }→Heap.SameBut T s.heap h'→Q () { s with heap:=h' }) :
  wpAny (model prog w) A (updateSeq T (·.setIfInBounds k x)) Q E s:=by
 refine wpAny_updateSeq hT rfl (q _ ?_ (Heap.SameBut.update ..))
 rw[Mu _ hT rfl]
 simp[Obj.mapSeq]
structure AZ(k1 k2 k3:Bool)(n l1 l2 l3:Addr)(i:Nat)(h:Heap):Prop where
 z:IsZip h (n+5) (n+3) (n+4) .none
 I:E1 h (n+3) (.ref n) (.ref (n+1)) (.ref (n+2))
 O:∃ a b c,E1 h (n+4) a b c
 g1:SI k1 h n l1 i
 g2:SI k2 h (n+1) l2 i
 g3:SI k3 h (n+2) l3 i
theorem CT{n l1 l2 l3:Addr}{k1 k2 k3:Bool}{i:Nat}{xs ys zs:Array Value}{v1 v2 v3:Value}{Q:Option Value→Shared→Prop}(b1:l1<n)(b2:l2<n)(b3:l3<n)(Z:AZ k1 k2 k3 n l1 l2 l3 i s.heap)
  (m1:SS k1 s.heap l1 xs) (m2:SS k2 s.heap l2 ys) (m3:SS k3 s.heap l3 zs) (w1:xs[i]? = some v1) (w2:ys[i]? = some v2) (w3:zs[i]? = some v3)
  (q:∀ h',IsZip h' (n+5) (n+3) (n+4) (rawInt s.heap.objs.size)→E1 h' (n+3) (.ref n) (.ref (n+1)) (.ref (n+2))→E1 h' (n+4) v1 v2 v3→SI k1 h' n l1 (i+1)→SI k2 h' (n+1) l2 (i+1)→SI k3 h' (n+2) l3 (i+1)→E1 h' s.heap.objs.size v1 v2 v3→h'.objs.size=s.heap.objs.size+1 →
   (∀ b o,b∉[n,n+1,n+2,n+3,n+4,n+5]→s.heap.get? b=some o→h'.get? b=some o)→Q (some (.ref s.heap.objs.size)) { s with heap:=h' }):wpAny (model prog w) A (pyNext (.ref (n+5))) Q E s:=by
 obtain⟨iz,iI,⟨u1,u2,u3,iO⟩,g1,g2,g3⟩:=Z
 have c1:@LT.lt Nat instLTNat l1 n:=b1
 have c2:@LT.lt Nat instLTNat l2 n:=b2
 have c3:@LT.lt Nat instLTNat l3 n:=b3
 have ty:s.TypeIs (.ref (n+5)) "zip" := ⟨_,iz,rfl⟩
 unfold pyNext
 refine Lw (wpAny_attempt (wpAny_callSpecial?_slot (name:=Str.ofString "__next__") ty F.slot_zip_next (wpAny_call_entry F.slot_zip_next ty F.entry_zip_next ?_ (F.args_zip_next_1 _))))
 show wpAny _ _ (field (.ref (n+5)) 2 >>= _) _ _ _
 refine Lw (wpAny_field iz rfl (x:=.bool false) rfl ?_)
 show wpAny _ _ (field (.ref (n+5)) 3 >>= _) _ _ _
 refine Lw (wpAny_field iz rfl (x:=.ref (n+3)) rfl (Lw (wpAny_seqItems iI rfl ?_)))
 show wpAny _ _ (Builtin.SmallTypes.ownedTupleIsFree (.ref (n+5)) >>= _) _ _ _
 refine Lw ?_;unfold Builtin.SmallTypes.ownedTupleIsFree
 refine Lw (wpAny_field iz rfl (x:=.none) rfl (LA ?_));simp only[if_true]
 refine Lw (wpAny_rule (Lw (wpAny_field iz rfl (x:=.ref (n+4)) rfl (Lw (wpAny_setField_rec iz (by simp) fun ha za sa=>?_)))))
 replace za:IsZip ha (n+5) (n+3) (n+4) .ellipsis:=za
 refine Lw ?_;simp only[NK,NW,Ny,Oe]
 have ne:∀{x y:Nat},x<y→x≠y:=fun h=>LV h
 have ne':∀{x y:Nat},x<y→y≠x:=fun h=>Mm h
 refine Lw (Lw (wpAny_onRaise ?_))
 show wpAny _ _ (Builtin.SmallTypes.nextOf (.ref n) >>= _) _ _ _
 refine Lw (N6 (g1.but sa.extBut (ne (by omega))) (m1.but sa.extBut (ne (by omega))) w1 fun hb gb sb=>LA ?_)
 have oB:E1 hb (n+4) u1 u2 u3:=sb.extBut _ _ (ne' (by omega)) (sa.extBut _ _ (ne (by omega)) iO)
 refine Lw (wpAny_seqItems oB rfl (Lw (iV oB fun hc oC sc=>?_)))
 replace oC:E1 hc (n+4) v1 u2 u3:=oC
 refine Lw (wpAny_letGo (LA (Lw (Lw (wpAny_onRaise ?_)))))
 show wpAny _ _ (Builtin.SmallTypes.nextOf (.ref (n+1)) >>= _) _ _ _
 refine Lw (N6 (((g2.but sa.extBut (ne (by omega))).but sb.extBut (ne' (by omega))).but sc.extBut (ne (by omega))) (((m2.but sa.extBut (ne (by omega))).but sb.extBut (ne (by omega))).but sc.extBut (ne (by omega))) w2 fun hd gd sd=>LA ?_)
 have oD:E1 hd (n+4) v1 u2 u3:=sd.extBut _ _ (ne' (by omega)) oC
 refine Lw (wpAny_seqItems oD rfl (Lw (iV oD fun he oE se=>?_)))
 replace oE:E1 he (n+4) v1 v2 u3:=oE
 refine Lw (wpAny_letGo (LA (Lw (Lw (wpAny_onRaise ?_)))))
 show wpAny _ _ (Builtin.SmallTypes.nextOf (.ref (n+2)) >>= _) _ _ _
 refine Lw (N6 (((((g3.but sa.extBut (ne (by omega))).but sb.extBut (ne' (by omega))).but sc.extBut (ne (by omega))).but sd.extBut (ne' (by omega))).but se.extBut (ne (by omega))) (((((m3.but sa.extBut (ne (by omega))).but sb.extBut (ne (by omega))).but sc.extBut (ne (by omega))).but sd.extBut (ne (by omega))).but se.extBut (ne (by omega))) w3 fun hf gf sf=>LA ?_)
 have oF:E1 hf (n+4) v1 v2 u3:=sf.extBut _ _ (ne' (by omega)) oE
 refine Lw (wpAny_seqItems oF rfl (Lw (iV oF fun hg oG sg=>?_)))
 replace oG:E1 hg (n+4) v1 v2 v3:=oG
 refine Lw (wpAny_letGo (LA (LA (Lw (wpAny_seqItems oG rfl (Lw (wpAny_newTuple ?_)))))))
 have sz:hg.objs.size=s.heap.objs.size:=by rw[sg.1,sf.1,se.1,sd.1,sc.1,sb.1,sa.1]
 have kp:∀ b o,b≠n+5→b≠n+4→b≠n→b≠n+1→b≠n+2→s.heap.get? b=some o→hg.get? b=some o:=fun b o c1 c2 c3 c4 c5 e=>sg.extBut _ _ c2 (sf.extBut _ _ c5 (se.extBut _ _ c2 (sd.extBut _ _ c4 (sc.extBut _ _ c2 (sb.extBut _ _ c3 (sa.extBut _ _ c1 e))))))
 have zG:IsZip hg (n+5) (n+3) (n+4) .ellipsis:=sg.extBut _ _ (ne' (by omega)) (sf.extBut _ _ (ne' (by omega)) (se.extBut _ _ (ne' (by omega)) (sd.extBut _ _ (ne' (by omega)) (sc.extBut _ _ (ne' (by omega)) (sb.extBut _ _ (ne' (by omega)) za)))))
 have e1:SI k1 hg n l1 (i+1):=((((gb.but sc.extBut (ne (by omega))).but sd.extBut (ne (by omega))).but se.extBut (ne (by omega))).but sf.extBut (ne (by omega))).but sg.extBut (ne (by omega))
 have e2:SI k2 hg (n+1) l2 (i+1):=((gd.but se.extBut (ne (by omega))).but sf.extBut (ne (by omega))).but sg.extBut (ne (by omega))
 have e3:SI k3 hg (n+2) l3 (i+1):=gf.but sg.extBut (ne (by omega))
 have ltz:n+5<hg.objs.size:=LH zG
 show wpAny _ _ (Builtin.SmallTypes.ownedTupleHandOut (.ref (n+5)) (.ref hg.objs.size) >>= _) _ _ _
 refine Lw ?_;unfold Builtin.SmallTypes.ownedTupleHandOut
 refine Lw (wpAny_setField_rec (Lx _ zG) (by simp) fun hi zi si=>?_)
 replace zi:IsZip hi (n+5) (n+3) (n+4) (rawInt hg.objs.size):=zi
 refine wpAny_setField_rec zi (by simp) fun hj zj sj=>?_
 replace zj:IsZip hj (n+5) (n+3) (n+4) (rawInt hg.objs.size):=zj
 have lift:∀ b o,b≠n+5→hg.get? b=some o→hj.get? b=some o:=fun b o c e=>sj.extBut _ _ c (si.extBut _ _ c (Lx _ e))
 have tJ:E1 hj hg.objs.size v1 v2 v3:=sj.extBut _ _ (Mm ltz) (si.extBut _ _ (Mm ltz) (LC _ rfl))
 have sz2:hj.objs.size=hg.objs.size+1:=by rw[sj.1,si.1,Mg]
 rw[sz]at zj tJ sz2
 refine LA ⟨_,rfl,LA ?_⟩
 show Q (some (.ref hg.objs.size)) _
 rw[sz]
 refine q hj zj (lift _ _ (ne (by omega)) (kp _ _ (ne (by omega)) (ne (by omega)) (ne' (by omega)) (ne' (by omega)) (ne' (by omega)) iI)) (lift _ _ (ne (by omega)) oG) (e1.at fun o e=>lift _ o (ne (by omega)) e) (e2.at fun o e=>lift _ o (ne (by omega)) e) (e3.at fun o e=>lift _ o (ne (by omega)) e) tJ sz2 fun b o hb e=>?_
 simp only[LB,LK,or_false,not_or]at hb
 exact lift b o hb.2.2.2.2.2 (kp b o hb.2.2.2.2.2 hb.2.2.2.2.1 hb.1 hb.2.1 hb.2.2.1 e)
theorem GW{n l1 l2 l3:Addr}{k1 k2 k3:Bool}{i:Nat}{xs:Array Value}{Q:Option Value→Shared→Prop}(hA:A.handled=none)(b1:l1<n)(Z:AZ k1 k2 k3 n l1 l2 l3 i s.heap)
  (m1:SS k1 s.heap l1 xs) (w1:xs[i]? = none)
  (q:∀ h',(∀ b o,b∉[n,n+1,n+2,n+3,n+4,n+5]→s.heap.get? b=some o→h'.get? b=some o)→Q none { s with heap:=h' }):wpAny (model prog w) A (pyNext (.ref (n+5))) Q E s:=by
 obtain⟨iz,iI,⟨u1,u2,u3,iO⟩,g1,g2,g3⟩:=Z
 have c1:@LT.lt Nat instLTNat l1 n:=b1
 have ty:s.TypeIs (.ref (n+5)) "zip" := ⟨_,iz,rfl⟩
 unfold pyNext
 refine Lw (wpAny_attempt (wpAny_callSpecial?_slot (name:=Str.ofString "__next__") ty F.slot_zip_next (wpAny_call_entry F.slot_zip_next ty F.entry_zip_next ?_ (F.args_zip_next_1 _))))
 show wpAny _ _ (field (.ref (n+5)) 2 >>= _) _ _ _
 refine Lw (wpAny_field iz rfl (x:=.bool false) rfl ?_)
 show wpAny _ _ (field (.ref (n+5)) 3 >>= _) _ _ _
 refine Lw (wpAny_field iz rfl (x:=.ref (n+3)) rfl (Lw (wpAny_seqItems iI rfl ?_)))
 show wpAny _ _ (Builtin.SmallTypes.ownedTupleIsFree (.ref (n+5)) >>= _) _ _ _
 refine Lw ?_;unfold Builtin.SmallTypes.ownedTupleIsFree
 refine Lw (wpAny_field iz rfl (x:=.none) rfl (LA ?_));simp only[if_true]
 refine Lw (wpAny_rule (Lw (wpAny_field iz rfl (x:=.ref (n+4)) rfl (Lw (wpAny_setField_rec iz (by simp) fun ha za sa=>?_)))))
 replace za:IsZip ha (n+5) (n+3) (n+4) .ellipsis:=za
 refine Lw ?_;simp only[NK,NW,Ny,Oe]
 have ne:∀{x y:Nat},x<y→x≠y:=fun h=>LV h
 refine Lw (Lw (wpAny_onRaise ?_))
 show wpAny _ _ (Builtin.SmallTypes.nextOf (.ref n) >>= _) _ _ _
 refine Lw (gW hA (g1.but sa.extBut (ne (by omega))) (m1.but sa.extBut (ne (by omega))) w1 fun hb e sb ⟨oe,oe1,oe2⟩=>?_)
 have zb:IsZip hb (n+5) (n+3) (n+4) .ellipsis:=sb _ _ (Mm (by omega)) za
 have nz:e≠n+5:=fun y=>by subst y;rw[zb]at oe1;cases oe1;simp at oe2
 refine wpAny_setField_rec zb (by simp) fun hc _ sc=>?_
 refine Lw (wpAny_isInstance (T := "StopIteration") (b:=true) ⟨oe,sc.extBut _ _ nz oe1,oe2⟩ isSubtype_stop (LA (q hc fun b o hb e=>?_)))
 simp only[LB,LK,or_false,not_or]at hb
 exact sc.extBut _ _ hb.2.2.2.2.2 (sb _ _ hb.1 (sa.extBut _ _ hb.2.2.2.2.2 e))
theorem nY{k:Bool}{a:Addr}{xs:Array Value}{Q:Value→Shared→Prop}(h:SS k s.heap a xs)(q:Q (.ref s.heap.objs.size) { s with heap:=s.heap.push (itO k a) }):wpAny (model prog w) A (pyIter (.ref a)) Q E s:=by
 cases k with
 | true=>exact wpAny_pyIter_list h q
 | false=>exact wpAny_pyIter_tuple h q
end
theorem yQ(a b c:Value):checkTypeCall "zip" ⟨[a,b,c],[]⟩=pure ():=by kernel_rfl
theorem Aj(a b c:Value):checkBuiltinCall "zip.__new__" ⟨[.type "zip",a,b,c],[]⟩=pure ():=by kernel_rfl
noncomputable abbrev yA(k1:Bool)(h:Heap)(l1:Addr):Heap:=h.push (itO k1 l1)
noncomputable abbrev yB(k1 k2:Bool)(h:Heap)(l1 l2:Addr):Heap:=(yA k1 h l1).push (itO k2 l2)
noncomputable abbrev yC(k1 k2 k3:Bool)(h:Heap)(l1 l2 l3:Addr):Heap:=(yB k1 k2 h l1 l2).push (itO k3 l3)
noncomputable abbrev yD(k1 k2 k3:Bool)(h:Heap)(l1 l2 l3:Addr):Heap:=(yC k1 k2 k3 h l1 l2 l3).push { cls:=.type "tuple",data:=.seq #[.ref h.objs.size,.ref (yA k1 h l1).objs.size,.ref (yB k1 k2 h l1 l2).objs.size] }
noncomputable abbrev yE(k1 k2 k3:Bool)(h:Heap)(l1 l2 l3:Addr):Heap:=(yD k1 k2 k3 h l1 l2 l3).push { cls:=.type "tuple",data:=.seq #[.none,.none,.none] }
noncomputable abbrev yF(k1 k2 k3:Bool)(h:Heap)(l1 l2 l3:Addr):Heap:=(yE k1 k2 k3 h l1 l2 l3).push { cls:=.type "zip",data:=.fields #[.none,.bool false,.bool false,.ref (yC k1 k2 k3 h l1 l2 l3).objs.size,.ref (yD k1 k2 k3 h l1 l2 l3).objs.size] }
set_option maxHeartbeats 2000000 in
theorem xM(k1 k2 k3:Bool)(l1 l2 l3:Addr)(xs ys zs:Array Value) :
  Meets (Builtin.«zip.__new__» ⟨[.type "zip",.ref l1,.ref l2,.ref l3],[]⟩) (fun _ R s=>SS k1 s.heap l1 xs∧SS k2 s.heap l2 ys∧SS k3 s.heap l3 zs∧R (.ok (.ret (.ref (yE k1 k2 k3 s.heap l1 l2 l3).objs.size))) { s with heap:=yF k1 k2 k3 s.heap l1 l2 l3 }) :=
 .of_wp fun prog w A R s h=>by
  obtain⟨hp,g,d,tk,os⟩:=s
  obtain⟨ha,hb,hc,h⟩:=h
  have hsub:=sub_zip
  have a1:SS k1 (Shared.heap ⟨hp,g,d,tk,os⟩) l1 xs:=ha
  have a2:SS k2 (Shared.heap ⟨hp.push (itO k1 l1),g,d,tk,os⟩) l2 ys:=hb.at fun o e=>Lx _ e
  have a3:SS k3 (Shared.heap ⟨(hp.push (itO k1 l1)).push (itO k2 l2),g,d,tk,os⟩) l3 zs:=hc.at fun o e=>Lx _ (Lx _ e)
  wp_walk using nY a1,nY a2,nY a3
  exact⟨_,rfl,h⟩
theorem AW(a b c d:Value):argsOk "object.__init__" ⟨[a,b,c,d],[]⟩:=by
 unfold argsOk
 rw[signature?_of (id := "object.__init__") (n:=['_','_','t','i','n','i','_','_']) (o:=['t','c','e','j','b','o']) (by kernel_rfl) F.owner_object]
 kernel_rfl
section
variable {prog:Program} {w:World} {A:Around} {E:Value→Shared→Prop} {s:Shared}
theorem EA{k1 k2 k3:Bool}{l1 l2 l3:Addr}{xs ys zs:Array Value}{Q:Value→Shared→Prop}(ha:SS k1 s.heap l1 xs)(hb:SS k2 s.heap l2 ys)(hc:SS k3 s.heap l3 zs)
  (q:∀ h',AZ k1 k2 k3 s.heap.objs.size l1 l2 l3 0 h'→h'.objs.size=s.heap.objs.size+6→(∀ b o,s.heap.get? b=some o→h'.get? b=some o)→Q (.ref (s.heap.objs.size+5)) { s with heap:=h' }) :
  wpAny (model prog w) A (call (.type "zip") [.ref l1,.ref l2,.ref l3]) Q E s:=by
 refine callType_new F.called_zip (by decide) (yQ _ _ _) (Aj _ _ _) (fun obj=>AW obj _ _ _) F.entry_zip_new (xM k1 k2 k3 l1 l2 l3 xs ys zs) ⟨ha,hb,hc,?_⟩
 have s1:(yA k1 s.heap l1).objs.size=s.heap.objs.size+1:=Mg ..
 have s2:(yB k1 k2 s.heap l1 l2).objs.size=s.heap.objs.size+2:=(Mg ..).trans (by rw[s1])
 have s3:(yC k1 k2 k3 s.heap l1 l2 l3).objs.size=s.heap.objs.size+3:=(Mg ..).trans (by rw[s2])
 have s4:(yD k1 k2 k3 s.heap l1 l2 l3).objs.size=s.heap.objs.size+4:=(Mg ..).trans (by rw[s3])
 have s5:(yE k1 k2 k3 s.heap l1 l2 l3).objs.size=s.heap.objs.size+5:=(Mg ..).trans (by rw[s4])
 have s6:(yF k1 k2 k3 s.heap l1 l2 l3).objs.size=s.heap.objs.size+6:=(Mg ..).trans (by rw[s5])
 have o6:(yF k1 k2 k3 s.heap l1 l2 l3).get? (yE k1 k2 k3 s.heap l1 l2 l3).objs.size=some _:=LC _ rfl
 have u5:∀ b o,(yE k1 k2 k3 s.heap l1 l2 l3).get? b=some o→(yF k1 k2 k3 s.heap l1 l2 l3).get? b=some o:=fun b o e=>Lx _ e
 have o5:(yF k1 k2 k3 s.heap l1 l2 l3).get? (yD k1 k2 k3 s.heap l1 l2 l3).objs.size=some _:=u5 _ _ (LC _ rfl)
 have u4:∀ b o,(yD k1 k2 k3 s.heap l1 l2 l3).get? b=some o→(yF k1 k2 k3 s.heap l1 l2 l3).get? b=some o:=fun b o e=>u5 b o (Lx _ e)
 have o4:(yF k1 k2 k3 s.heap l1 l2 l3).get? (yC k1 k2 k3 s.heap l1 l2 l3).objs.size=some _:=u4 _ _ (LC _ rfl)
 have u3:∀ b o,(yC k1 k2 k3 s.heap l1 l2 l3).get? b=some o→(yF k1 k2 k3 s.heap l1 l2 l3).get? b=some o:=fun b o e=>u4 b o (Lx _ e)
 have o3:(yF k1 k2 k3 s.heap l1 l2 l3).get? (yB k1 k2 s.heap l1 l2).objs.size=some (itO k3 l3):=u3 _ _ (LC _ rfl)
 have u2:∀ b o,(yB k1 k2 s.heap l1 l2).get? b=some o→(yF k1 k2 k3 s.heap l1 l2 l3).get? b=some o:=fun b o e=>u3 b o (Lx _ e)
 have o2:(yF k1 k2 k3 s.heap l1 l2 l3).get? (yA k1 s.heap l1).objs.size=some (itO k2 l2):=u2 _ _ (LC _ rfl)
 have u1:∀ b o,(yA k1 s.heap l1).get? b=some o→(yF k1 k2 k3 s.heap l1 l2 l3).get? b=some o:=fun b o e=>u2 b o (Lx _ e)
 have o1:(yF k1 k2 k3 s.heap l1 l2 l3).get? s.heap.objs.size=some (itO k1 l1):=u1 _ _ (LC _ rfl)
 have mk:∀(k:Bool) (b a:Addr),(yF k1 k2 k3 s.heap l1 l2 l3).get? b=some (itO k a)→SI k (yF k1 k2 k3 s.heap l1 l2 l3) b a 0:=fun k b a e=>by cases k<;>exact⟨_,e,rfl,rfl⟩
 show _∧_
 rw[s3,s4,s5]at o6
 rw[s4]at o5
 rw[s1,s2,s3]at o4
 rw[s2]at o3
 rw[s1]at o2
 rw[s5]
 exact⟨⟨_,o6,rfl⟩,q _ ⟨o6,o4,⟨_,_,_,o5⟩,mk _ _ _ o1,mk _ _ _ o2,mk _ _ _ o3⟩ s6 fun b o e=>u1 b o (Lx _ e)⟩
end
noncomputable def It3(K:Ly)(k1 k2 k3:Bool)(l1 l2 l3:Addr):It :=
 ⟨fun i H=>∃ xs ys zs x y z,SqK K k1 H l1 xs∧SqK K k2 H l2 ys∧SqK K k3 H l3 zs∧xs[i]? = some x∧ys[i]? = some y∧zs[i]? = some z,
  fun i H v H'=>∃ T x y z,H T=none∧v = .ref T∧H'=upd H T (.tup [x,y,z])∧(∀ xs,SqK K k1 H l1 xs→xs[i]? = some x)∧(∀ ys,SqK K k2 H l2 ys→ys[i]? = some y)∧∀ zs,SqK K k3 H l3 zs→zs[i]? = some z,
  fun i H=>∃ xs,SqK K k1 H l1 xs∧xs.length≤i⟩
noncomputable abbrev E7(n:Addr):List Addr:=[n,n+1,n+2,n+3,n+4,n+5]
theorem qU{P:Program}{w:World}{K:Ly}{elts:List Expr}{kx:Nat}{tp:Pos}{k1 k2 k3:Bool}{n l1 l2 l3:Addr}(b1:l1<n)(b2:l2<n)(b3:l3<n) :
  mI P w K (.Tuple elts kx tp) (It3 K k1 k2 k3 l1 l2 l3) (E7 n) (n+5) (AZ k1 k2 k3 n l1 l2 l3) where
 mem:=by simp[E7]
 obj:=fun i h ⟨iz,iI,⟨a,b,c',iO⟩,g1,g2,g3⟩ c hc=>by
  simp only[E7,LB,LK,or_false]at hc
  rcases hc with rfl|rfl|rfl|rfl|rfl|rfl
  ·exact g1.obj
  ·exact g2.obj
  ·exact g3.obj
  ·exact⟨_,iI,fun v e=>by cases e⟩
  ·exact⟨_,iO,fun v e=>by cases e⟩
  ·exact⟨_,iz,fun v e=>by cases e⟩
 keep:=fun i h h' ⟨iz,iI,⟨a,b,c,iO⟩,g1,g2,g3⟩ k=>⟨k _ (by simp[E7]) _ iz,k _ (by simp[E7]) _ iI,⟨a,b,c,k _ (by simp[E7]) _ iO⟩,g1.at fun o e=>k _ (by simp[E7]) o e,g2.at fun o e=>k _ (by simp[E7]) o e,g3.at fun o e=>k _ (by simp[E7]) o e⟩
 item:=by
  intro X hP hw hK hc i pins s σ H E I hf st hg
  subst hP hw hK
  obtain⟨xs,ys,zs,x,y,z,q1,q2,q3,hx,hy,hz⟩:=hg
  obtain⟨is1,r1,m1⟩:=I.sqk q1
  obtain⟨is2,r2,m2⟩:=I.sqk q2
  obtain⟨is3,r3,m3⟩:=I.sqk q3
  obtain⟨u1,hu1,ru1⟩:=r1.get hx
  obtain⟨u2,hu2,ru2⟩:=r2.get hy
  obtain⟨u3,hu3,ru3⟩:=r3.get hz
  have lt:∀{c o},s.heap.get? c=some o→c≠s.heap.objs.size:=fun e=>LV (LH e)
  have nfp:∀ c∈E7 n,c≠s.heap.objs.size:=fun c hc=>by
   obtain⟨iz,iI,⟨a,b,c',iO⟩,g1,g2,g3⟩:=st
   simp only[E7,LB,LK,or_false]at hc
   rcases hc with rfl|rfl|rfl|rfl|rfl|rfl
   ·obtain⟨o,e,_⟩:=g1.obj;exact lt e
   ·obtain⟨o,e,_⟩:=g2.obj;exact lt e
   ·obtain⟨o,e,_⟩:=g3.obj;exact lt e
   ·exact lt iI
   ·exact lt iO
   ·exact lt iz
  refine CT b1 b2 b3 st m1 m2 m3 (v1:=u1) (v2:=u2) (v3:=u3) (by simpa using hu1) (by simpa using hu2) (by simpa using hu3) fun h' a0 a1 a2 a3 a4 a5 a6 a7 kk=>?_
  refine⟨_,rfl,?_⟩
  refine wpAny_letOwnedTupleGo_zip (s:={ s with heap:=h' }) a0 fun h2 d1 d2=>?_
  have I1:Inv X pins σ (upd H s.heap.objs.size (.tup [x,y,z])) { s with heap:=s.heap.push { cls:=.type "tuple",data:=.seq #[u1,u2,u3] },toks:=s.toks } :=
   I.laid (o:=.tup [x,y,z]) (fun b ob q=>Lx _ q) (LQ _) ⟨(show 3≤sizeLine by decide),[u1,u2,u3],.cons ru1 (.cons ru2 (.cons ru3 .nil)),IsTup.new _ _⟩
  have hf':∀ c∈E7 n,W1 X pins (upd H s.heap.objs.size (.tup [x,y,z])) c:=fun c hc=>by
   obtain⟨f0,f1⟩:=hf c hc
   exact⟨by rw[g7 (nfp c hc)];exact f0,f1⟩
  have n5:n+5∈E7 n:=by simp[E7]
  have I2:Inv X pins σ (upd H s.heap.objs.size (.tup [x,y,z])) { s with heap:=h2,toks:=s.toks }:=by
   refine Inv.turnedN (s:={ s with heap:=s.heap.push { cls:=.type "tuple",data:=.seq #[u1,u2,u3] },toks:=s.toks }) (t':=s.toks) (h':=h2) (ch:=E7 n) I1 (fun c o hcn e=>?_) hf'
   refine d2.extBut c o (fun e=>hcn (e▸n5)) ?_
   by_cases hcs:c=s.heap.objs.size
   ·subst hcs
    have e':(s.heap.push { cls:=.type "tuple",data:=.seq #[u1,u2,u3] }).get? s.heap.objs.size=some o:=e
    rw[LC _ rfl]at e'
    cases e'
    exact a6
   ·have e':(s.heap.push { cls:=.type "tuple",data:=.seq #[u1,u2,u3] }).get? c=some o:=e
    refine kk c o hcn ?_
    rw[Oh _ _ _ hcs]at e'
    exact e'
  have lift:∀ c o,c≠n+5→h'.get? c=some o→h2.get? c=some o:=fun c o n e=>d2.extBut c o n e
  refine⟨.ref s.heap.objs.size,_,I2,rfl,⟨_,x,y,z,I.hok.fresh (LQ _),rfl,rfl,fun ws hw=>by rw[I.sqk_inj hw q1];exact hx,fun ws hw=>by rw[I.sqk_inj hw q2];exact hy,fun ws hw=>by rw[I.sqk_inj hw q3];exact hz⟩,?_,fun c hc=>(hf' c hc).1⟩
  have ne:∀{x y:Nat},x<y→x≠y:=fun h=>LV h
  exact⟨d1,lift _ _ (ne (by omega)) a1,⟨_,_,_,lift _ _ (ne (by omega)) a2⟩,a3.at fun o e=>lift _ o (ne (by omega)) e,a4.at fun o e=>lift _ o (ne (by omega)) e,a5.at fun o e=>lift _ o (ne (by omega)) e⟩
 done:=by
  intro X hP hw hK hc i pins s σ H E I hf st hg
  subst hP hw hK
  obtain⟨xs,q1,hx⟩:=hg
  obtain⟨is1,r1,m1⟩:=I.sqk q1
  have e1:=r1.length
  exact GW (I.ok.hd hc) b1 st m1 (by simp;omega) fun h' kk=>⟨rfl,I.turnedN (t':=s.toks) (ch:=E7 n) (fun c o hcn e=>kk c o hcn e) hf⟩
 self:=fun _ _ _ _ _ st h=>wpAny_pyIter_zip st.1 h
def GI(K:Ly)(ta:TA):TI:=fun σ H R=>ta σ H fun vs H1=>∃ k1 k2 k3 l1 l2 l3,vs=[.ref l1,.ref l2,.ref l3]∧(∃ xs,SqK K k1 H1 l1 xs)∧(∃ ys,SqK K k2 H1 l2 ys)∧(∃ zs,SqK K k3 H1 l3 zs)∧R (It3 K k1 k2 k3 l1 l2 l3) H1
theorem zJ{X:Cx}{elts:List Expr}{kx:Nat}{tp:Pos}{a b c:Expr}{ta:TA}{p pos:Pos}(hg:Gl X "zip")(hm:X.mg "zip" = none)(ha:PA X [a,b,c] ta)
  (hs:starEach [a,b,c] X.env=[(false,eval a X.env),(false,eval b X.env),(false,eval c X.env)]:=by rfl) (hs2:starEach [b,c] X.env=[(false,eval b X.env),(false,eval c X.env)]:=by rfl):PI X (.Tuple elts kx tp) (.Call (.Name "zip" p) [a,b,c] [] pos) (GI X.K ta):=by
 intro pins s σ H R I h
 refine Call_ (K2 I hg hm PyProof.Rows.boot_zip (PyProof.Rows.callWith_type1 (thn (ha pos pins s σ H _ I h) fun us s1 ⟨vs,H1,I1,r1,q1⟩=>?_) (by rw[hs,hs2]) (by rw[hs2];rfl)))
 obtain⟨k1,k2,k3,l1,l2,l3,e,⟨xs,q2⟩,⟨ys,q3⟩,⟨zs,q4⟩,q⟩:=q1
 subst e
 cases r1 with
 | cons r rr =>
 cases rr with
 | cons r' rr =>
 cases rr with
 | cons r2 rr =>
  cases rr
  cases r
  cases r'
  cases r2
  obtain⟨is1,_,m1⟩:=I1.sqk q2
  obtain⟨is2,_,m2⟩:=I1.sqk q3
  obtain⟨is3,_,m3⟩:=I1.sqk q4
  have lt1:l1<s1.heap.objs.size:=by obtain⟨o,e⟩:=m1.obj;exact LH e
  have lt2:l2<s1.heap.objs.size:=by obtain⟨o,e⟩:=m2.obj;exact LH e
  have lt3:l3<s1.heap.objs.size:=by obtain⟨o,e⟩:=m3.obj;exact LH e
  refine EA m1 m2 m3 fun h' a1 a6 kk=>?_
  refine wpAny_pyIter_zip (s:={ s1 with heap:=h' }) a1.z ?_
  refine⟨s1.heap.objs.size+5,_,_,_,H1,rfl,I1.kept (t':=s1.toks) kk,qU lt1 lt2 lt3,a1,fun c hc=>?_,q⟩
  have hge:s1.heap.objs.size≤c:=by
   simp only[E7,LB,LK,or_false]at hc
   rcases hc with rfl|rfl|rfl|rfl|rfl|rfl
   ·exact LQ _
   all_goals exact Mj _ _
  exact I1.fpOk hge (I1.hok.fresh hge)
end L2
namespace DL
open PySem PySem.Spec L2
noncomputable def fb(ds es fs:List D):List D:=List.zipWith (fun a bc=>.tup [a,bc.1,bc.2]) ds (es.zip fs)
theorem qP{ds es fs:List D}{i:Nat}{a b c:D}(h1:ds[i]? = some a)(h2:es[i]? = some b)(h3:fs[i]? = some c):(fb ds es fs)[i]? = some (.tup [a,b,c]):=by
 unfold fb
 rw[OK,h1]
 have:(es.zip fs)[i]? = some (b,c):=by
  rw[List.getElem?_zip_eq_some]
  exact⟨h2,h3⟩
 rw[this]
theorem eZ{ds es fs:List D}(h2:ds.length≤es.length)(h3:ds.length≤fs.length):(fb ds es fs).length=ds.length:=by
 unfold fb
 rw[List.length_zipWith,PK]
 omega
theorem qS{K:Ly}{H1:Hp}{x y z:D}{l1 l2 l3:Addr}{ds es fs:List D}(g2:ds.length≤es.length)(g3:ds.length≤fs.length)(h1:Has K H1 (.ref l1) x)(h2:Has K H1 (.ref l2) y)(h3:Has K H1 (.ref l3) z) :
  jM K H1 (It3 K (bL x) (bL y) (bL z) l1 l2 l3) (fb ds es fs) (fun M'=>j6 M' x ds∧j6 M' y es∧j6 M' z fs) where
 go:=fun i H' M' hi k am ⟨s1,s2,s3⟩=>by
  rw[eZ g2 g3]at hi
  obtain⟨a,xs,e1,q1,m1⟩:=j3 s1 am (h1.mono k)
  obtain⟨b,ys,e2,q2,m2⟩:=j3 s2 am (h2.mono k)
  obtain⟨c,zs,e3,q3,m3⟩:=j3 s3 am (h3.mono k)
  cases e1;cases e2;cases e3
  exact⟨xs,ys,zs,_,_,_,q1,q2,q3,LU (by rw[m1.length];omega),LU (by rw[m2.length];omega),LU (by rw[m3.length];omega)⟩
 yld:=fun i H' M' v H'' hi k am ⟨s1,s2,s3⟩ ⟨T,a,b,c,hT,ev,eH,u1,u2,u3⟩=>by
  subst ev;subst eH
  obtain⟨a',xs,e1,q1,m1⟩:=j3 s1 am (h1.mono k)
  obtain⟨b',ys,e2,q2,m2⟩:=j3 s2 am (h2.mono k)
  obtain⟨c',zs,e3,q3,m3⟩:=j3 s3 am (h3.mono k)
  cases e1;cases e2;cases e3
  obtain⟨d1,g1,r1⟩:=m1.getV (u1 xs q1)
  obtain⟨d2,g2,r2⟩:=m2.getV (u2 ys q2)
  obtain⟨d3,g3,r3⟩:=m3.getV (u3 zs q3)
  have kt:KT H' (upd H' T (.tup [a,b,c])):=KT.alloc hT
  exact⟨_,qP g1 g2 g3,kt,am.alloc hT,.tup (SqT.of i3) (.cons (r1.mono kt) (.cons (r2.mono kt) (.cons (r3.mono kt) .nil)))⟩
 stop:=fun i H' M' hi k am ⟨s1,s2,s3⟩=>by
  rw[eZ g2 g3]at hi
  obtain⟨a,xs,e1,q1,m1⟩:=j3 s1 am (h1.mono k)
  cases e1
  exact⟨xs,q1,by rw[m1.length];omega⟩
 up:=fun _ _ _ st hq=>⟨G0 st.1 hq,G0 st.2.1 hq,G0 st.2.2 hq⟩
def Cz(xs:List D)(M:Mem)(Q:List D→(Mem→Prop)→Mem→Prop):Prop:=∃ x y z ds es fs,xs=[x,y,z]∧j6 M x ds∧j6 M y es∧j6 M z fs∧ds.length≤es.length∧ds.length≤fs.length∧Q (fb ds es fs) (fun M'=>j6 M' x ds∧j6 M' y es∧j6 M' z fs) M
def wM(ta:DTA):DTI:=fun e M R=>ta e M fun xs M1=>Cz xs M1 R
theorem kH{ta:DTA}{e:Ev}{M:Mem}{R:List D→(Mem→Prop)→Mem→Prop}:wM ta e M R=ta e M fun xs M1=>Cz xs M1 R:=rfl
theorem vS{X:Cx}{ta:DTA}{elts:List Expr}{kx:Nat}{tp:Pos}{a b c:Expr}{p pos:Pos}(hg:Gl X "zip")(hm:X.mg "zip" = none)(ha:JA X [a,b,c] ta)
  (hs:starEach [a,b,c] X.env=[(false,eval a X.env),(false,eval b X.env),(false,eval c X.env)]:=by rfl) (hs2:starEach [b,c] X.env=[(false,eval b X.env),(false,eval c X.env)]:=by rfl):JI X (.Tuple elts kx tp) (.Call (.Name "zip" p) [a,b,c] [] pos) (wM ta):=⟨have ha:=ha.out;PI.imp (zJ hg hm ha hs hs2) fun σ H R ⟨e,M,R',ok,am,t,f⟩=>⟨e,M,_,ok,am,t,fun xs M1 ⟨x,y,z,ds,es,fs,z',s1,s2,s3,g2,g3,r⟩ vs H1 k1 a1 r1=>by
  subst z'
  cases r1 with
  | cons hv rr =>
  cases rr with
  | cons hv' rr =>
  cases rr with
  | cons hv'' rr =>
  cases rr
  obtain⟨a,zs,rfl,q1,m1⟩:=j3 s1 a1 hv
  obtain⟨b,ws,rfl,q2,m2⟩:=j3 s2 a1 hv'
  obtain⟨c,us,rfl,q3,m3⟩:=j3 s3 a1 hv''
  exact⟨_,_,_,a,b,c,rfl,⟨zs,q1⟩,⟨ws,q2⟩,⟨us,q3⟩,f _ _ M1 r H1 k1 a1 _ (qS g2 g3 hv hv' hv'')⟩⟩⟩
end DL
namespace GM
noncomputable abbrev T3:=Rat × Rat × Rat
noncomputable def ve(a b:T3):Rat:=a.1*b.2.1 - a.2.1*b.1
noncomputable def tn(a b c:T3):Rat:=a.2.2*ve b c - b.2.2*ve a c+c.2.2*ve a b
noncomputable def dt(a:T3)(z:Rat × Rat):Rat:=a.1*z.1+a.2.1*z.2
noncomputable def ry(a b:T3):Rat × Rat:=((a.2.2*b.2.1 - b.2.2*a.2.1) / ve a b,(a.1*b.2.2 - b.1*a.2.2) / ve a b)
noncomputable def ng(a:T3):T3:=(-a.1,-a.2.1,a.2.2)
noncomputable def ngZ(z:Rat × Rat):Rat × Rat:=(-z.1,-z.2)
def Sup(ss:List T3)(z:Rat × Rat):Prop:=∀ s∈ss,dt s z≤s.2.2
structure EU(ss:List T3)(a b:T3):Prop where
 ve:0<ve a b
 mem:b∈ss
 hull:∀ s∈ss,0<GM.ve a s→0≤tn a b s
theorem BX{a b:T3}(h:ve a b≠0):ve a b*(ry a b).1=a.2.2*b.2.1 - b.2.2*a.2.1∧ve a b*(ry a b).2=a.1*b.2.2 - b.1*a.2.2:=by
 unfold ry
 constructor
 ·show ve a b*((a.2.2*b.2.1 - b.2.2*a.2.1) / ve a b)=_
  rw[Nt,MA h]
 ·show ve a b*((a.1*b.2.2 - b.1*a.2.2) / ve a b)=_
  rw[Nt,MA h]
theorem J2{x:Rat}(h:0<x):x≠0:=by grind
theorem aA{x:Rat}(h:0<x):0≤x:=by grind
theorem tot(x y:Rat):x≤y∨y≤x:=by grind
theorem bK{v x y:Rat}(hv:v≠0)(h:v*x=v*y):x=y:=by grind
theorem uQ{a b:T3}(h:ve a b≠0)(s:T3):ve a b*(s.2.2 - dt s (ry a b))=tn a b s:=by
 obtain⟨e1,e2⟩:=BX h
 unfold dt tn
 have:ve a b*(s.2.2 - (s.1*(ry a b).1+s.2.1*(ry a b).2))=ve a b*s.2.2 - s.1*(ve a b*(ry a b).1) - s.2.1*(ve a b*(ry a b).2):=by grind
 rw[this,e1,e2]
 unfold ve
 grind
theorem Dt{a b:T3}(h:ve a b≠0):dt a (ry a b)=a.2.2:=by
 have:=uQ h a
 have e:tn a b a=0:=by unfold tn ve;grind
 rw[e]at this
 grind
theorem zo{a b:T3}(h:ve a b≠0):dt b (ry a b)=b.2.2:=by
 have:=uQ h b
 have e:tn a b b=0:=by unfold tn ve;grind
 rw[e]at this
 grind
theorem zm{a b:T3}{z:Rat × Rat}(h:ve a b≠0)(h1:dt a z=a.2.2)(h2:dt b z=b.2.2):z=ry a b:=by
 obtain⟨e1,e2⟩:=BX h
 have z1:ve a b*z.1=ve a b*(ry a b).1:=by
  rw[e1,← h1,← h2];unfold ve dt;grind
 have z2:ve a b*z.2=ve a b*(ry a b).2:=by
  rw[e2,← h1,← h2];unfold ve dt;grind
 exact Prod.ext (bK h z1) (bK h z2)
theorem uR(a b:T3):ry (ng a) (ng b)=ngZ (ry a b):=by
 have e:ve (ng a) (ng b)=ve a b:=by unfold ve ng;grind
 unfold ry ngZ
 rw[e]
 show((a.2.2*(-b.2.1) - b.2.2*(-a.2.1)) / ve a b,((-a.1)*b.2.2 - (-b.1)*a.2.2) / ve a b)=_
 exact Prod.ext (by show _ / _ = -(_ / _);grind) (by show _ / _ = -(_ / _);grind)
theorem FG(a b s:T3)(z:Rat × Rat):tn a b s=(a.2.2 - dt a z)*ve b s - (b.2.2 - dt b z)*ve a s+(s.2.2 - dt s z)*ve a b:=by
 unfold tn ve dt;grind
theorem P2{v x:Rat}(hv:0<v)(h:0≤v*x):0≤x:=by
 rcases tot 0 x with z|z
 ·exact z
 ·by_cases e:x=0
  ·grind
  ·have:0<v * -x:=Ot hv (by grind)
   grind
theorem De{a b:T3}{ss:List T3}(h:0<ve a b)(ht:∀ s∈ss,0≤tn a b s):Sup ss (ry a b):=fun s hs=>by
 have:=uQ (J2 h) s
 have h2:=ht s hs
 rw[← this]at h2
 have:=P2 h h2
 grind
theorem kP{ss:List T3}{a b:T3}{z:Rat × Rat}(hz:Sup ss z)(ha:dt a z=a.2.2)(e:EU ss a b):Sup ss (ry a b):=by
 refine De e.ve fun s hs=>?_
 by_cases h:0<ve a s
 ·exact e.hull s hs h
 ·rw[FG a b s z,ha]
  have h1:0≤(b.2.2 - dt b z)*(-ve a s):=Mc (by have:=hz b e.mem;grind) (by grind)
  have h2:0≤(s.2.2 - dt s z)*ve a b:=Mc (by have:=hz s hs;grind) (by have:=e.ve;grind)
  grind
theorem mS{ss:List T3}(sy:∀ s∈ss,ng s∈ss){z:Rat × Rat}(h:Sup ss z):Sup ss (ngZ z):=fun s hs=>by
 have:=h _ (sy s hs)
 have e:dt (ng s) z=dt s (ngZ z):=by unfold dt ng ngZ;grind
 rw[← e];exact this
theorem V6{a b w:T3}(h:0<ve a b)(z:Rat × Rat):ve a b*dt w z=ve w b*dt a z+ve a w*dt b z:=by
 unfold ve dt;grind
theorem mM{w:T3}:∀(x:T3) (l:List T3) (y:T3),0≤ve x w→0<ve w y→∃ ab∈(x :: l).zip (l++[y]),0≤ve ab.1 w∧0<ve w ab.2
 | x,[],y,h1,h2=>⟨(x,y),LI,h1,h2⟩
 | x,x' :: l,y,h1,h2=>by
  by_cases h:0<ve w x'
  ·exact⟨(x,x'),LI,h1,h⟩
  ·have e:ve x' w = -ve w x':=by unfold ve;grind
   obtain⟨ab,hm,q⟩:=mM x' l y (by rw[e];grind) h2
   exact⟨ab,LG _ hm,q⟩
structure Rim(ss:List T3)(h0:T3)(l:List T3):Prop where
 ne:l≠[]
 sy:∀ s∈ss,ng s∈ss
 pos:∀ s∈ss,0<s.2.2
 all:∀ ab∈(h0 :: l).zip (l++[ng h0]),ab.1∈ss∧ab.2∈ss∧0<ve ab.1 ab.2∧Sup ss (ry ab.1 ab.2)
noncomputable def eW(h0:T3)(l:List T3):List (T3 × T3):=(h0 :: l).zip (l++[ng h0])
noncomputable def ou(h0:T3)(l:List T3):List (Rat × Rat):=(eW h0 l).map (fun ab=>ry ab.1 ab.2)++(eW h0 l).map (fun ab=>ngZ (ry ab.1 ab.2))
theorem K7{α β:Type}(f:α→β):∀(l m:List α),(l.map f).zip (m.map f)=(l.zip m).map fun p=>(f p.1,f p.2)
 | [],_=>rfl
 | _ :: _,[]=>rfl
 | a :: l,b :: m=>by rw[Mv,Mv,List.zip_cons_cons,K7 f l m];rfl
theorem Cb(a:T3):ng (ng a)=a:=by
 obtain⟨p,q,r⟩:=a
 unfold ng
 show(- -p,- -q,r)=(p,q,r)
 rw[Rat.neg_neg,Rat.neg_neg]
theorem Rim.around{ss:List T3}{h0:T3}{l:List T3}(R:Rim ss h0 l)(w:T3)(hw:¬ (w.1=0∧w.2.1=0)) :
  ∃ a b,a∈ss∧b∈ss∧0<ve a b∧Sup ss (ry a b)∧ry a b∈ou h0 l∧0≤ve a w∧0<ve w b:=by
 have fromE:∀ ab∈eW h0 l,0≤ve ab.1 w→0<ve w ab.2→∃ a b,a∈ss∧b∈ss∧0<ve a b∧Sup ss (ry a b)∧ry a b∈ou h0 l∧0≤ve a w∧0<ve w b:=fun ab hm h1 h2=>by
  obtain⟨q1,q2,q3,q4⟩:=R.all ab hm
  exact⟨ab.1,ab.2,q1,q2,q3,q4,ME _ (LM.mpr ⟨ab,hm,rfl⟩),h1,h2⟩
 have fromN:∀ ab∈eW h0 l,0≤ve (ng ab.1) w→0<ve w (ng ab.2)→∃ a b,a∈ss∧b∈ss∧0<ve a b∧Sup ss (ry a b)∧ry a b∈ou h0 l∧0≤ve a w∧0<ve w b:=fun ab hm h1 h2=>by
  obtain⟨q1,q2,q3,q4⟩:=R.all ab hm
  refine⟨ng ab.1,ng ab.2,R.sy _ q1,R.sy _ q2,?_,?_,?_,h1,h2⟩
  ·have:ve (ng ab.1) (ng ab.2)=ve ab.1 ab.2:=by unfold ve ng;grind
   rw[this];exact q3
  ·rw[uR];exact mS R.sy q4
  ·rw[uR];exact LZ _ (LM.mpr ⟨ab,hm,rfl⟩)
 have e0:ve w (ng h0)=ve h0 w:=by unfold ve ng;grind
 have e1:ve (ng h0) w = -ve h0 w:=by unfold ve ng;grind
 by_cases c1:0<ve h0 w
 ·obtain⟨ab,hm,k1,k2⟩:=mM h0 l (ng h0) (aA c1) (by rw[e0];exact c1)
  exact fromE ab hm k1 k2
 by_cases c2:ve h0 w<0
 ·have e2:ve w h0 = -ve h0 w:=by unfold ve;grind
  obtain⟨ab,hm,k1,k2⟩:=mM (w:=w) (ng h0) (l.map ng) h0 (by rw[e1];clear fromE fromN;grind) (by rw[e2];clear fromE fromN;grind)
  have em:ab∈((h0 :: l).map ng).zip ((l++[ng h0]).map ng):=by
   rw[LX,Mv,Mv,Nq,Cb];exact hm
  rw[K7]at em
  obtain⟨cd,hcd,rfl⟩:=LM.mp em
  exact fromN cd hcd k1 k2
 ·have c0:ve h0 w=0:=by clear fromE fromN;grind
  cases l with
  | nil=>exact absurd rfl R.ne
  | cons x l =>
   have hm:(h0,x)∈eW h0 (x :: l):=LI
   obtain⟨q1,q2,q3,q4⟩:=R.all _ hm
   have q3:0<ve h0 x:=q3
   by_cases k:0<ve w x
   ·exact fromE _ hm (by show 0≤ve h0 w;rw[c0];exact Ou) k
   ·refine fromN _ hm (by show 0≤ve (ng h0) w;rw[e1,c0];exact Ou) ?_
    show 0<ve w (ng x)
    have ex:ve w (ng x) = -ve w x:=by unfold ve ng;grind
    rw[ex]
    clear fromE fromN
    have hne:ve w x≠0:=fun z=>hw (by
     unfold ve at c0 z q3
     have i1:w.1*(h0.1*x.2.1 - h0.2.1*x.1)=0:=by
      have:w.1*(h0.1*x.2.1 - h0.2.1*x.1)=h0.1*(w.1*x.2.1 - w.2.1*x.1)+x.1*(h0.1*w.2.1 - h0.2.1*w.1):=by grind
      rw[this,z,c0];grind
     have i2:w.2.1*(h0.1*x.2.1 - h0.2.1*x.1)=0:=by
      have:w.2.1*(h0.1*x.2.1 - h0.2.1*x.1)=h0.2.1*(w.1*x.2.1 - w.2.1*x.1)+x.2.1*(h0.1*w.2.1 - h0.2.1*w.1):=by grind
      rw[this,z,c0];grind
     have hv:h0.1*x.2.1 - h0.2.1*x.1≠0:=by grind
     exact⟨by grind,by grind⟩)
    grind
theorem Rim.most{ss:List T3}{h0:T3}{l:List T3}(R:Rim ss h0 l)(w:T3)(hw:¬ (w.1=0∧w.2.1=0)):∃ c∈ou h0 l,Sup ss c∧∀ z,Sup ss z→dt w z≤dt w c:=by
 obtain⟨a,b,ha,hb,hv,hs,hc,k1,k2⟩:=R.around w hw
 refine⟨_,hc,hs,fun z hz=>?_⟩
 have e1:=V6 (w:=w) hv z
 have e2:=V6 (w:=w) hv (ry a b)
 rw[Dt (J2 hv),zo (J2 hv)]at e2
 have h1:0≤ve w b*(a.2.2 - dt a z):=Mc (aA k2) (by have:=hz a ha;grind)
 have h2:0≤ve a w*(b.2.2 - dt b z):=Mc k1 (by have:=hz b hb;grind)
 have h3:0≤ve a b*(dt w (ry a b) - dt w z):=by grind
 have:=P2 hv h3
 grind
theorem Cv{ss:List T3}{h0 hm f:T3}{z0 z:Rat × Rat}(sy:∀ s∈ss,ng s∈ss)(m0:h0∈ss)(mm:hm∈ss)(s0:Sup ss z0)(t0:dt h0 z0=h0.2.2)(sz:Sup ss z)(tz:dt hm z=hm.2.2)(e:EU ss hm f)(h1:0<ve h0 hm)(h2:ve h0 f≤0) :
  Sup ss (ry hm (ng h0)):=by
 have sf:=kP sz tz e
 have v1:0<ve hm (ng h0):=by
  have:ve hm (ng h0)=ve h0 hm:=by unfold ve ng;grind
  rw[this];exact h1
 have v2:0≤ve (ng h0) f:=by
  have:ve (ng h0) f = -ve h0 f:=by unfold ve ng;grind
  rw[this];grind
 have tf:=Dt (a:=hm) (b:=f) (J2 e.ve)
 have tg:=zo (a:=hm) (b:=f) (J2 e.ve)
 have e1:=V6 (w:=ng h0) e.ve (ngZ z0)
 have e2:=V6 (w:=ng h0) e.ve (ry hm f)
 rw[tf,tg]at e2
 have sn:=mS sy s0
 have q1:=sn hm mm
 have q2:=sn f e.mem
 have g0:dt (ng h0) (ngZ z0)=(ng h0).2.2:=by
  have:dt (ng h0) (ngZ z0)=dt h0 z0:=by unfold dt ng ngZ;grind
  rw[this,t0];rfl
 rw[g0]at e1
 have q3:=sf (ng h0) (sy h0 m0)
 have p1:0≤ve (ng h0) f*(hm.2.2 - dt hm (ngZ z0)):=Mc v2 (by grind)
 have p2:0≤ve hm (ng h0)*(f.2.2 - dt f (ngZ z0)):=Mc (by grind) (by grind)
 have p3:0≤ve hm f*(dt (ng h0) (ry hm f) - (ng h0).2.2):=by grind
 have p4:=P2 e.ve p3
 have t3:dt (ng h0) (ry hm f)=(ng h0).2.2:=by grind
 rw[← zm (a:=hm) (b:=ng h0) (J2 v1) tf t3]
 exact sf
end GM
namespace GM
open PySem PySem.Spec L2 DL
open RM (sz)
noncomputable abbrev Sd:=Int × Int × Int × Int × Int
noncomputable def sdD(s:Sd):D:=.tup [.int s.1,.int s.2.1,.int s.2.2.1,.int s.2.2.2.1,.int s.2.2.2.2]
noncomputable def tri(s:Sd):T3:=((s.1:Rat),(s.2.1:Rat),(s.2.2.1:Rat))
noncomputable def veZ(a b:Sd):Int:=a.1*b.2.1 - a.2.1*b.1
noncomputable def tnZ(a b c:Sd):Int:=a.2.2.1*veZ b c - b.2.2.1*veZ a c+c.2.2.1*veZ a b
noncomputable def j0(s:Sd):Sd:=(-s.1,-s.2.1,s.2.2.1,s.2.2.2.1,-s.2.2.2.2)
noncomputable def J5(a b:Sd):Bool:=if a.1*b.2.2.1 - b.1*a.2.2.1=0 then decide (0<a.2.1*b.2.2.1 - b.2.1*a.2.2.1)else decide (0<a.1*b.2.2.1 - b.1*a.2.2.1)
noncomputable def D1(ss:List Sd)(f:Sd):Sd:=ss.foldl (fun f s=>if J5 s f=true then s else f) f
noncomputable def AU(h:Sd)(f:Option Sd)(s:Sd):Bool:=match f with
 | none=>true
 | some g=>decide (tnZ h g s<0) || (decide (tnZ h g s=0) && decide (0<veZ g s))
noncomputable def P3(h:Sd)(f:Option Sd)(s:Sd):Option Sd:=if 0<veZ h s then(if AU h f s=true then some s else f)else f
noncomputable def J1(h:Sd)(ss:List Sd):Option Sd:=ss.foldl (P3 h) none
noncomputable def Q6(h0:Sd)(ss:List Sd):Nat→Option Sd→List Sd
 | 0,_=>[]
 | _+1,none=>[]
 | k+1,some h=>if 0<veZ h0 h then h :: Q6 h0 ss k (J1 h ss)else[]
noncomputable def B8:List Sd→List Sd
 | []=>[]
 | s :: r=>D1 (s :: r) s :: Q6 (D1 (s :: r) s) (s :: r) (s :: r).length (J1 (D1 (s :: r) s) (s :: r))
theorem D4(a b:Sd):ve (tri a) (tri b)=(veZ a b:Rat):=by
 unfold ve tri veZ
 rw[Nk,Mb,Mb]
theorem CU(a b c:Sd):tn (tri a) (tri b) (tri c)=(tnZ a b c:Rat):=by
 unfold tn tnZ
 rw[D4,D4,D4,NY,Nk,Mb,Mb,Mb]
 rfl
theorem D3{n:Int}:(0:Rat)<(n:Rat)↔0<n:=by
 have:=Rat.intCast_lt_intCast (a:=0) (b:=n)
 rw[← this];rfl
theorem qG{n:Int}:(0:Rat)≤(n:Rat)↔0≤n:=by
 have:=OE (a:=0) (b:=n)
 rw[← this];rfl
theorem G8(s:Sd):tri (j0 s)=ng (tri s):=by
 unfold tri j0 ng
 rw[PL,PL]
theorem Y3{a b:Int}(ha:0<a)(h:0≤a*b):0≤b:=by
 rcases Pt b 0 with z|z
 ·have:=Int.mul_lt_mul_of_pos_left z ha
  omega
 ·exact z
theorem lV{a b:Int}(ha:0<a)(h:0<a*b):0<b:=by
 rcases Pt 0 b with z|z
 ·exact z
 ·have:=Int.mul_le_mul_of_nonneg_left z (Pu ha)
  omega
theorem plu(h g s t:Sd):veZ h g*tnZ h s t=veZ h s*tnZ h g t - veZ h t*tnZ h g s:=by unfold tnZ veZ;grind
theorem HY(h g s t:Sd):veZ h g*tnZ g s t=tnZ h g s*veZ t g - tnZ h g t*veZ s g:=by unfold tnZ veZ;grind
theorem HX(o h g s:Sd):veZ o g*veZ h s=veZ o h*veZ g s+veZ o s*veZ h g:=by unfold veZ;grind
structure xx(h:Sd)(pre:List Sd)(f:Option Sd):Prop where
 no:f=none→∀ s∈pre,¬ 0<veZ h s
 yes:∀ g,f=some g→g∈pre∧0<veZ h g∧∀ s∈pre,0<veZ h s→0≤tnZ h g s∧(tnZ h g s=0→veZ g s≤0)
theorem vK{h:Sd}{pre:List Sd}{f:Option Sd}{s:Sd}(hp:∀ s∈pre,0<s.2.2.1)(hs:0<s.2.2.1)(I:xx h pre f):xx h (pre++[s]) (P3 h f s):=by
 unfold P3
 by_cases c:0<veZ h s
 ·rw[if_pos c]
  by_cases b:AU h f s=true
  ·rw[if_pos b]
   refine⟨fun z=>(by cases z),fun g e=>?_⟩
   cases e
   refine⟨by simp,c,fun t ht hv=>?_⟩
   have self:tnZ h s s=0∧veZ s s=0:=by unfold tnZ veZ;grind
   rcases Md.mp ht with ht|ht
   ·cases f with
    | none=>exact absurd hv (I.no rfl t ht)
    | some g =>
     obtain⟨g1,g2,g3⟩:=I.yes g rfl
     obtain⟨k1,k2⟩:=g3 t ht hv
     have b':tnZ h g s<0∨(tnZ h g s=0∧0<veZ g s):=by
      have b:(decide (tnZ h g s<0) || (decide (tnZ h g s=0) && decide (0<veZ g s)))=true:=b
      simpa using b
     have pl:=plu h g s t
     have n1:0≤veZ h s*tnZ h g t:=NF (by omega) k1
     have n2:0≤veZ h t * -tnZ h g s:=NF (by omega) (by omega)
     rw[PM]at n2
     refine⟨Y3 g2 (by omega),fun z=>?_⟩
     rw[z,Int.mul_zero]at pl
     have m1:veZ h s*tnZ h g t=0:=by omega
     have m2:veZ h t*tnZ h g s=0:=by omega
     have e1:tnZ h g t=0:=(NZ.mp m1).resolve_left (by omega)
     have e2:tnZ h g s=0:=(NZ.mp m2).resolve_left (by omega)
     have gs:0<veZ g s:=by omega
     have gt:=k2 e1
     have p2:=HY h g s t
     rw[e1,e2,OM,OM]at p2
     have e3:tnZ g s t=0:=(NZ.mp (by omega:veZ h g*tnZ g s t=0)).resolve_left (by omega)
     have e4:g.2.2.1*veZ s t - s.2.2.1*veZ g t+t.2.2.1*veZ g s=0:=e3
     have rg:=hp g g1
     have rt:=hp t ht
     have q1:0≤s.2.2.1 * -veZ g t:=NF (by omega) (by omega)
     have q2:0≤t.2.2.1*veZ g s:=NF (by omega) (by omega)
     rw[PM]at q1
     have q3:0≤g.2.2.1 * -veZ s t:=by rw[PM];omega
     have:=Y3 rg q3
     omega
   ·rw[Mk.mp ht,self.1,self.2]
    exact⟨Int.le_refl _,fun _=>Int.le_refl _⟩
  ·rw[if_neg b]
   cases f with
   | none=>exact absurd rfl b
   | some g =>
    obtain⟨g1,g2,g3⟩:=I.yes g rfl
    refine⟨fun z=>(by cases z),fun g' e=>?_⟩
    cases e
    refine⟨ME _ g1,g2,fun t ht hv=>?_⟩
    rcases Md.mp ht with ht|ht
    ·exact g3 t ht hv
    ·rw[Mk.mp ht]
     have b':¬ (tnZ h g s<0∨(tnZ h g s=0∧0<veZ g s)):=by
      intro z
      apply b
      show(decide (tnZ h g s<0) || (decide (tnZ h g s=0) && decide (0<veZ g s)))=true
      simpa using z
     exact⟨by omega,fun z=>by omega⟩
 ·rw[if_neg c]
  refine⟨fun z t ht=>?_,fun g e=>?_⟩
  ·rcases Md.mp ht with ht|ht
   ·exact I.no z t ht
   ·rw[Mk.mp ht];exact c
  ·obtain⟨g1,g2,g3⟩:=I.yes g e
   refine⟨ME _ g1,g2,fun t ht hv=>?_⟩
   rcases Md.mp ht with ht|ht
   ·exact g3 t ht hv
   ·rw[Mk.mp ht]at hv;exact absurd hv c
theorem lS{h:Sd}:∀(l pre:List Sd) (f:Option Sd),(∀ s∈pre,0<s.2.2.1)→(∀ s∈l,0<s.2.2.1)→xx h pre f→xx h (pre++l) (l.foldl (P3 h) f)
 | [],pre,f,_,_,I=>by rw[Nx];exact I
 | s :: l,pre,f,h1,h2,I=>by
  have h3:=h2 s LI
  have:=lS l (pre++[s]) (P3 h f s) (fun t ht=>by
   rcases Md.mp ht with ht|ht
   ·exact h1 t ht
   ·rw[Mk.mp ht];exact h3) (fun t ht=>h2 t (LG _ ht)) (vK h1 h3 I)
  rwa [Oi]at this
theorem cx{h:Sd}{ss:List Sd}(hp:∀ s∈ss,0<s.2.2.1):xx h ss (J1 h ss):=by
 have:=lS (h:=h) ss [] none (fun _ z=>nomatch z) hp ⟨fun _ _ z=>(nomatch z),fun _ z=>(nomatch z)⟩
 rwa [PN]at this
theorem G3{h f:Sd}{ss:List Sd}(hp:∀ s∈ss,0<s.2.2.1)(e:J1 h ss=some f):f∈ss∧0<veZ h f∧EU (ss.map tri) (tri h) (tri f):=by
 obtain⟨h1,h2,h3⟩:=(cx hp).yes f e
 refine⟨h1,h2,by rw[D4];exact D3.mpr h2,LM.mpr ⟨f,h1,rfl⟩,fun s hs hv=>?_⟩
 obtain⟨t,ht,rfl⟩:=LM.mp hs
 rw[D4]at hv
 rw[CU]
 exact qG.mpr (h3 t ht (D3.mp hv)).1
theorem ay:∀(ss:List Sd) (f:Sd),D1 ss f=f∨D1 ss f∈ss
 | [],f=>.inl rfl
 | s :: r,f=>by
  show D1 r (if J5 s f=true then s else f)=f∨_
  rcases ay r (if J5 s f=true then s else f)with h|h
  ·rw[h]
   split
   ·rename_i c;right;show D1 r (if J5 s f=true then s else f)∈_;rw[h,if_pos c];exact LI
   ·exact .inl rfl
  ·exact .inr (LG _ h)
theorem Ar{s f:Sd}(h:J5 s f=true):f.1*s.2.2.1≤s.1*f.2.2.1:=by
 unfold J5 at h
 split at h
 ·omega
 ·have:=of_decide_eq_true h;omega
theorem As{s f:Sd}(h:¬ J5 s f=true):s.1*f.2.2.1≤f.1*s.2.2.1:=by
 unfold J5 at h
 split at h
 ·omega
 ·have:¬ 0<s.1*f.2.2.1 - f.1*s.2.2.1:=fun z=>h (decide_eq_true z)
  omega
theorem GA{a b c x y z:Int}(hy:0<y)(hx:0<x)(hz:0<z)(h1:a*y≤b*x)(h2:b*z≤c*y):a*z≤c*x:=by
 have e1:=NI h1 (Pu hz)
 have e2:=NI h2 (Pu hx)
 have e3:0≤y*(c*x - a*z):=by
  have:y*(c*x - a*z)=c*y*x - a*y*z:=by grind
  have e4:b*x*z=b*z*x:=by grind
  omega
 have:=Y3 hy e3
 omega
theorem qj:∀(ss:List Sd) (f:Sd) (t:Sd),(∀ s∈ss,0<s.2.2.1)→0<f.2.2.1→0<t.2.2.1→(t∈ss∨t.1*f.2.2.1≤f.1*t.2.2.1)→t.1*(D1 ss f).2.2.1≤(D1 ss f).1*t.2.2.1
 | [],f,t,_,_,_,h=>by
  rcases h with h|h
  ·cases h
  ·exact h
 | s :: r,f,t,hp,hf,ht,h=>by
  have hs:=hp s LI
  show t.1*(D1 r (if J5 s f=true then s else f)).2.2.1≤(D1 r (if J5 s f=true then s else f)).1*t.2.2.1
  refine qj r _ t (fun s hs=>hp s (LG _ hs)) (by split<;>assumption) ht ?_
  rcases h with h|h
  ·rcases LB.mp h with rfl|h
   ·right
    split
    ·omega
    ·rename_i c;exact As c
   ·exact .inl h
  ·right
   split
   ·rename_i c
    exact GA hf ht hs h (Ar c)
   ·exact h
theorem mw{α:Type}{p q:α→Bool}{x:α}:∀{l:List α},(∀ y∈l,q y=true→p y=true)→x∈l→p x=true→q x=false→(l.filter q).length<(l.filter p).length
 | [],_,h,_,_=>nomatch h
 | y :: l,h1,h2,h3,h4=>by
  have le:∀(l:List α),(∀ y∈l,q y=true→p y=true)→(l.filter q).length≤(l.filter p).length:=fun l=>by
   induction l with
   | nil=>intro _;exact LQ _
   | cons a l ih =>
    intro h
    have:=ih fun y hy=>h y (LG _ hy)
    by_cases qa:q a=true
    ·rw[Mh qa,Mh (h a LI qa),Me,Me];omega
    ·rw[Mx qa]
     by_cases pa:p a=true
     ·rw[Mh pa,Me];omega
     ·rw[Mx pa];exact this
  have hl:=le l fun y hy=>h1 y (LG _ hy)
  rcases LB.mp h2 with rfl|h2
  ·rw[Mh h3,Mx (by rw[h4];decide),Me];omega
  ·have ih:=mw (fun y hy=>h1 y (LG _ hy)) h2 h3 h4
   by_cases qa:q y=true
   ·rw[Mh qa,Mh (h1 y LI qa),Me,Me];omega
   ·rw[Mx qa]
    by_cases pa:p y=true
    ·rw[Mh pa,Me];omega
    ·rw[Mx pa];exact ih
noncomputable def rS(h0:Sd)(ss:List Sd)(h:Sd):Nat:=(ss.filter fun s=>decide (0<veZ h s) && decide (0<veZ h0 s)).length
theorem xc(h0:Sd)(ss:List Sd)(h:Sd):rS h0 ss h≤ss.length:=Nh _ _
theorem aL{h0 h f:Sd}{ss:List Sd}(hp:∀ s∈ss,0<s.2.2.1)(e:J1 h ss=some f)(h1:h=h0∨0<veZ h0 h)(h2:0<veZ h0 f):rS h0 ss f<rS h0 ss h:=by
 obtain⟨m,v,_⟩:=G3 hp e
 unfold rS
 refine mw (x:=f) (fun s _ hq=>?_) m (by rw[decide_eq_true v,decide_eq_true h2];rfl) ?_
 ·rw[MB,decide_eq_true_eq,decide_eq_true_eq]at hq ⊢
  refine⟨?_,hq.2⟩
  rcases h1 with rfl|h1
  ·exact hq.2
  ·have i:=HX h0 h f s
   have a1:=MV h1 hq.1
   have a2:=MV hq.2 v
   exact lV h2 (by omega)
 ·have:veZ f f=0:=by unfold veZ;grind
  rw[this];rfl
theorem zr{h0:Sd}{ss:List Sd}(hp:∀ s∈ss,0<s.2.2.1)(sy:∀ s∈ss,j0 s∈ss)(m0:h0∈ss){z0:Rat × Rat}(s0:Sup (ss.map tri) z0)(t0:dt (tri h0) z0=(tri h0).2.2):∀(k:Nat) (a:Sd) (z:Rat × Rat),a∈ss→Sup (ss.map tri) z→dt (tri a) z=(tri a).2.2 →
  (a=h0∨0<veZ h0 a)→(a=h0→∃ f,J1 h0 ss=some f)→(∀ f,J1 a ss=some f→0<veZ h0 f→rS h0 ss f<k) →
  ∀ ab∈(a :: Q6 h0 ss k (J1 a ss)).zip (Q6 h0 ss k (J1 a ss)++[j0 h0]),ab.1∈ss∧ab.2∈ss∧0<veZ ab.1 ab.2∧Sup (ss.map tri) (ry (tri ab.1) (tri ab.2)):=by
 have syT:∀ s∈ss.map tri,ng s∈ss.map tri:=fun s hs=>by
  obtain⟨t,ht,rfl⟩:=LM.mp hs
  rw[← G8];exact LM.mpr ⟨_,sy t ht,rfl⟩
 intro k
 induction k with
 | zero =>
  intro a z ha hz ta h1 h2 h3 ab hab
  cases e:J1 a ss with
  | none =>
   exfalso
   rcases h1 with rfl|h1
   ·obtain⟨f,hf⟩:=h2 rfl;rw[e]at hf;cases hf
   ·have:=(cx (h:=a) hp).no e (j0 h0) (sy h0 m0)
    exact this (by rw[show veZ a (j0 h0)=veZ h0 a by unfold veZ j0;grind];exact h1)
  | some f =>
   obtain⟨mf,vf,ef⟩:=G3 hp e
   by_cases c:0<veZ h0 f
   ·exact absurd (h3 f e c) (PQ _)
   ·rw[e]at hab
    have hab:ab∈[(a,j0 h0)]:=hab
    rw[Mk.mp hab]
    have hv:0<veZ h0 a:=by
     rcases h1 with rfl|h1
     ·exact absurd vf c
     ·exact h1
    have ev:veZ a (j0 h0)=veZ h0 a:=by unfold veZ j0;grind
    refine⟨ha,sy h0 m0,by show 0<veZ a (j0 h0);rw[ev];exact hv,?_⟩
    show Sup _ (ry (tri a) (tri (j0 h0)))
    rw[G8]
    exact Cv syT (LM.mpr ⟨h0,m0,rfl⟩) (LM.mpr ⟨a,ha,rfl⟩) s0 t0 hz ta ef (by rw[D4];exact D3.mpr hv) (by rw[D4];have:=D3 (n:=veZ h0 f);grind)
 | succ k ih =>
  intro a z ha hz ta h1 h2 h3 ab hab
  cases e:J1 a ss with
  | none =>
   exfalso
   rcases h1 with rfl|h1
   ·obtain⟨f,hf⟩:=h2 rfl;rw[e]at hf;cases hf
   ·have:=(cx (h:=a) hp).no e (j0 h0) (sy h0 m0)
    exact this (by rw[show veZ a (j0 h0)=veZ h0 a by unfold veZ j0;grind];exact h1)
  | some f =>
   obtain⟨mf,vf,ef⟩:=G3 hp e
   rw[e]at hab
   by_cases c:0<veZ h0 f
   ·have er:Q6 h0 ss (k+1) (some f)=f :: Q6 h0 ss k (J1 f ss):=if_pos c
    rw[er]at hab
    have sf:=kP hz ta ef
    rcases LB.mp hab with rfl|hab
    ·exact⟨ha,mf,vf,sf⟩
    ·refine ih f (ry (tri a) (tri f)) mf sf (zo (J2 ef.ve)) (.inr c) (fun z=>?_) (fun g hg hc=>?_) ab hab
     ·subst z
      have:veZ f f=0:=by unfold veZ;grind
      omega
     ·have:=aL hp hg (.inr c) hc
      have:=h3 f e c
      omega
   ·have er:Q6 h0 ss (k+1) (some f)=[]:=if_neg c
    rw[er]at hab
    have hab:ab∈[(a,j0 h0)]:=hab
    rw[Mk.mp hab]
    have hv:0<veZ h0 a:=by
     rcases h1 with rfl|h1
     ·exact absurd vf c
     ·exact h1
    have ev:veZ a (j0 h0)=veZ h0 a:=by unfold veZ j0;grind
    refine⟨ha,sy h0 m0,by show 0<veZ a (j0 h0);rw[ev];exact hv,?_⟩
    show Sup _ (ry (tri a) (tri (j0 h0)))
    rw[G8]
    exact Cv syT (LM.mpr ⟨h0,m0,rfl⟩) (LM.mpr ⟨a,ha,rfl⟩) s0 t0 hz ta ef (by rw[D4];exact D3.mpr hv) (by rw[D4];have:=D3 (n:=veZ h0 f);grind)
noncomputable def v9(c d:Nat):Nat:=c / MH c d*d
theorem P4(c d:Nat):v9 c d=Qb c d:=by
 unfold v9 Qb
 rw[Nj,← Nat.mul_div_assoc _ (Nat.gcd_dvd_left c d),Nj]
noncomputable def cbL(l:T3):Nat:=v9 (v9 (v9 1 l.1.den) l.2.1.den) l.2.2.den
theorem jF(l:T3):cbL l=Qb (Qb l.1.den l.2.1.den) l.2.2.den:=by
 unfold cbL
 rw[P4,P4,P4,Nat.lcm_one_left]
theorem AL(l:T3):0<cbL l:=by
 rw[jF]
 exact Ov (Ov l.1.den_pos l.2.1.den_pos) l.2.2.den_pos
theorem Hq(l:T3):l.1.den ∣ cbL l:=by rw[jF];exact Nat.dvd_trans (NL _ _) (NL _ _)
theorem Ho(l:T3):l.2.1.den ∣ cbL l:=by rw[jF];exact Nat.dvd_trans (Oj _ _) (NL _ _)
theorem Hn(l:T3):l.2.2.den ∣ cbL l:=by rw[jF];exact Oj _ _
noncomputable def L9(q:Rat)(c:Nat):Int:=q.num*((c / q.den:Nat):Int)
theorem Z2{q:Rat}{c:Nat}(h:q.den ∣ c):(L9 q c:Rat)=q*(c:Rat):=by
 obtain⟨k,rfl⟩:=h
 unfold L9
 rw[Nat.mul_div_cancel_left _ q.den_pos,Mb,← G1 q,Rat.natCast_mul,MQ]
 grind
noncomputable def m6(l:T3)(i:Nat):Sd:=(L9 l.1 (cbL l),L9 l.2.1 (cbL l),L9 l.2.2 (cbL l),(i:Int),(cbL l:Int))
noncomputable def J8:Nat→List T3→List Sd
 | _,[]=>[]
 | i,l :: r=>m6 l i :: j0 (m6 l i) :: J8 (i+1) r
noncomputable abbrev f8(ls:List T3):List Sd:=J8 0 ls
theorem Q9(l:T3)(i:Nat):tri (m6 l i)=(l.1*(cbL l:Rat),l.2.1*(cbL l:Rat),l.2.2*(cbL l:Rat)):=by
 unfold tri m6
 rw[Z2 (Hq l),Z2 (Ho l),Z2 (Hn l)]
theorem qu(s:Sd):j0 (j0 s)=s:=by
 obtain⟨a,b,c,d,e⟩:=s
 unfold j0
 show(- -a,- -b,c,d,- -e)=_
 rw[PR,PR,PR]
theorem N4{s:Sd}:∀{ls:List T3} {i:Nat},s∈J8 i ls→∃ l∈ls,∃ j,s=m6 l j∨s=j0 (m6 l j)
 | [],_,h=>nomatch h
 | l :: r,i,h=>by
  rcases LB.mp h with h|h
  ·exact⟨l,LI,i,.inl h⟩
  ·rcases LB.mp h with h|h
   ·exact⟨l,LI,i,.inr h⟩
   ·obtain⟨l',h1,j,h2⟩:=N4 h
    exact⟨l',LG _ h1,j,h2⟩
theorem qb{l:T3}:∀{ls:List T3} {i:Nat},l∈ls→∃ j,m6 l j∈J8 i ls∧j0 (m6 l j)∈J8 i ls
 | [],_,h=>nomatch h
 | m :: r,i,h=>by
  rcases LB.mp h with rfl|h
  ·exact⟨i,LI,LG _ LI⟩
  ·obtain⟨j,h1,h2⟩:=qb (i:=i+1) h
   exact⟨j,LG _ (LG _ h1),LG _ (LG _ h2)⟩
theorem mY:∀{ls:List T3} {i:Nat},∀ s∈J8 i ls,j0 s∈J8 i ls
 | [],_,_,h=>nomatch h
 | l :: r,i,s,h=>by
  rcases LB.mp h with rfl|h
  ·exact LG _ LI
  ·rcases LB.mp h with rfl|h
   ·rw[qu];exact LI
   ·exact LG _ (LG _ (mY s h))
structure LineOk(l:T3):Prop where
 ne:¬ (l.1=0∧l.2.1=0)
 pos:0<l.2.2
theorem aM(l:T3):(0:Rat)<(cbL l:Rat):=by
 exact Rat.natCast_pos.mpr (AL l)
theorem pZ{ls:List T3}(h:∀ l∈ls,LineOk l){i:Nat}:∀ s∈J8 i ls,0<s.2.2.1:=fun s hs=>by
 obtain⟨l,hl,j,e⟩:=N4 hs
 have hr:s.2.2.1=(m6 l j).2.2.1:=by rcases e with rfl|rfl<;>rfl
 rw[hr]
 have e2:((m6 l j).2.2.1:Rat)=l.2.2*(cbL l:Rat):=congrArg (fun t:T3=>t.2.2) (Q9 l j)
 refine D3.mp ?_
 rw[e2]
 exact Ot (h l hl).pos (aM l)
theorem S8(l:T3)(y u:Rat):L3 l y u=true↔l.1*y+l.2.1*u≤l.2.2∧-(l.1*y+l.2.1*u)≤l.2.2:=by
 unfold L3 u9
 rw[decide_eq_true_iff]
 split<;>grind
theorem aB{c x r:Rat}(hc:0<c):x*c≤r*c↔x≤r:=by
 constructor
 ·intro h
  have:0≤c*(r - x):=by grind
  have:=P2 hc this
  grind
 ·intro h
  have:0≤(r - x)*c:=Mc (by grind) (aA hc)
  grind
theorem jz(l:T3)(j:Nat)(z:Rat × Rat):dt (tri (m6 l j)) z=(l.1*z.1+l.2.1*z.2)*(cbL l:Rat):=by
 rw[Q9];unfold dt;grind
theorem wJ(s:Sd)(z:Rat × Rat):dt (tri (j0 s)) z = -dt (tri s) z:=by rw[G8];unfold dt ng;grind
theorem yS(ls:List T3)(z:Rat × Rat):Sup ((f8 ls).map tri) z↔L1 ls z.1 z.2=true:=by
 unfold L1
 rw[Oy]
 constructor
 ·intro h l hl
  obtain⟨j,h1,h2⟩:=qb (i:=0) hl
  have a1:=h _ (LM.mpr ⟨_,h1,rfl⟩)
  have a2:=h _ (LM.mpr ⟨_,h2,rfl⟩)
  rw[wJ]at a2
  have e:(tri (j0 (m6 l j))).2.2=(tri (m6 l j)).2.2:=rfl
  rw[e]at a2
  rw[jz,Q9]at a1 a2
  rw[S8]
  refine⟨(aB (aM l)).mp a1,(aB (aM l)).mp ?_⟩
  rw[Rat.neg_mul];exact a2
 ·intro h s hs
  obtain⟨t,ht,rfl⟩:=LM.mp hs
  obtain⟨l,hl,j,e⟩:=N4 ht
  obtain⟨b1,b2⟩:=(S8 l z.1 z.2).mp (h l hl)
  rcases e with rfl|rfl
  ·rw[jz,Q9];exact(aB (aM l)).mpr b1
  ·rw[wJ]
   show -dt (tri (m6 l j)) z≤(tri (m6 l j)).2.2
   rw[jz,Q9,← Rat.neg_mul]
   exact(aB (aM l)).mpr b2
theorem V2{ls:List T3}(hok:∀ l∈ls,LineOk l)(hne:ls≠[]):∃ h0 l,B8 (f8 ls)=h0 :: l∧h0∈f8 ls ∧
  ((l=[]∧∀ s∈f8 ls,veZ h0 s=0)∨(l≠[]∧Rim ((f8 ls).map tri) (tri h0) (l.map tri)∧∀ ab∈(h0 :: l).zip (l++[j0 h0]),ab.1∈f8 ls∧ab.2∈f8 ls∧0<veZ ab.1 ab.2)):=by
 have hp:∀ s∈f8 ls,0<s.2.2.1:=pZ hok (i:=0)
 have sy:∀ s∈f8 ls,j0 s∈f8 ls:=mY (ls:=ls) (i:=0)
 have nn:f8 ls≠[]:=by
  cases ls with
  | nil=>exact absurd rfl hne
  | cons a b=>exact fun z=>nomatch z
 generalize f8 ls=ss at *
 obtain⟨s1,r,rfl⟩:∃ s1 r,ss=s1 :: r:=by
  cases ss with
  | nil=>exact absurd rfl nn
  | cons a b=>exact⟨_,_,rfl⟩
 refine⟨D1 (s1 :: r) s1,_,rfl,?_⟩
 have m0:D1 (s1 :: r) s1∈s1 :: r:=by
  rcases ay (s1 :: r) s1 with h|h
  ·rw[h];exact LI
  ·exact h
 have le:=fun t ht=>qj (s1 :: r) s1 t hp (hp s1 LI) (hp t ht) (.inl ht)
 generalize D1 (s1 :: r) s1=h0 at *
 generalize s1 :: r=ss at *
 refine⟨m0,?_⟩
 cases e:J1 h0 ss with
 | none =>
  left
  have no:=(cx (h:=h0) hp).no e
  refine⟨by cases ss.length<;>rfl,fun s hs=>?_⟩
  have a1:=no s hs
  have a2:=no _ (sy s hs)
  have:veZ h0 (j0 s) = -veZ h0 s:=by unfold veZ j0;grind
  omega
 | some f =>
  right
  obtain⟨mf,vf,ef⟩:=G3 hp e
  have hl:ss.length≠0:=fun z=>by rw[NM z]at m0;cases m0
  have r0:=hp h0 m0
  have p0:0<h0.1:=by
   rcases Pt 0 h0.1 with z|z
   ·exact z
   ·exfalso
    have bq:∀ s∈ss,s.1=0:=fun s hs=>by
     have q1:=le s hs
     have q2:=le _ (sy s hs)
     have rs:=hp s hs
     have q2:-s.1*h0.2.2.1≤h0.1*s.2.2.1:=q2
     have q3:0 ≤ -h0.1*s.2.2.1:=NF (by omega) (by omega)
     rw[Int.neg_mul]at q2 q3
     have q4:s.1*h0.2.2.1=0:=by omega
     exact(NZ.mp q4).resolve_right (by omega)
    have:veZ h0 f=0:=by
     unfold veZ;rw[bq h0 m0,bq f mf,OM,Int.mul_zero];rfl
    omega
  have p0R:(0:Rat)<(h0.1:Rat):=D3.mpr p0
  have s0:Sup (ss.map tri) ((h0.2.2.1:Rat) / (h0.1:Rat),0):=fun s hs=>by
   obtain⟨t,ht,rfl⟩:=LM.mp hs
   have q:=le t ht
   have q':((t.1*h0.2.2.1:Int):Rat)≤((h0.1*t.2.2.1:Int):Rat):=OE.mpr q
   rw[Mb,Mb]at q'
   unfold dt tri
   show(t.1:Rat)*((h0.2.2.1:Rat) / (h0.1:Rat))+(t.2.1:Rat)*0≤(t.2.2.1:Rat)
   have e1:(h0.1:Rat)*((h0.2.2.1:Rat) / (h0.1:Rat))=(h0.2.2.1:Rat):=by rw[Nt,MA (J2 p0R)]
   have:0≤(h0.1:Rat)*((t.2.2.1:Rat) - (t.1:Rat)*((h0.2.2.1:Rat) / (h0.1:Rat))):=by
    generalize (h0.2.2.1:Rat) / (h0.1:Rat)=w at *
    generalize (h0.1:Rat)=A at *
    generalize (h0.2.2.1:Rat)=B at *
    generalize (t.1:Rat)=C at *
    generalize (t.2.2.1:Rat)=E at *
    subst e1
    clear le hp sy
    grind
   have:=P2 p0R this
   rw[ON,OO]
   generalize (t.1:Rat)*((h0.2.2.1:Rat) / (h0.1:Rat))=w at *
   generalize (t.2.2.1:Rat)=E at *
   clear le hp sy
   grind
  have t0:dt (tri h0) ((h0.2.2.1:Rat) / (h0.1:Rat),0)=(tri h0).2.2:=by
   unfold dt tri
   show(h0.1:Rat)*((h0.2.2.1:Rat) / (h0.1:Rat))+(h0.2.1:Rat)*0=(h0.2.2.1:Rat)
   rw[Nt,MA (J2 p0R),ON,OO]
  have all:=zr hp sy m0 s0 t0 ss.length h0 _ m0 s0 t0 (.inl rfl) (fun _=>⟨f,e⟩) (fun g hg hv=>Lz (aL hp hg (.inl rfl) hv) (xc h0 ss h0))
  rw[e]at all
  refine⟨?_,⟨?_,fun s hs=>?_,fun s hs=>?_,fun ab hab=>?_⟩,fun ab hab=>?_⟩
  ·obtain⟨k,hk⟩:∃ k,ss.length=k+1:=⟨ss.length - 1,by omega⟩
   rw[hk]
   show(if 0<veZ h0 f then _ else _)≠[]
   rw[if_pos vf];exact fun z=>nomatch z
  ·obtain⟨k,hk⟩:∃ k,ss.length=k+1:=⟨ss.length - 1,by omega⟩
   rw[hk]
   show(if 0<veZ h0 f then _ else _:List Sd).map tri≠[]
   rw[if_pos vf];exact fun z=>nomatch z
  ·obtain⟨t,ht,rfl⟩:=LM.mp hs
   rw[← G8];exact LM.mpr ⟨_,sy t ht,rfl⟩
  ·obtain⟨t,ht,rfl⟩:=LM.mp hs
   exact D3.mpr (hp t ht)
  ·have em:ab∈((h0 :: Q6 h0 ss ss.length (some f)).map tri).zip ((Q6 h0 ss ss.length (some f)++[j0 h0]).map tri):=by
    rw[LX,Mv,Mv,Nq,G8];exact hab
   rw[K7]at em
   obtain⟨cd,hcd,rfl⟩:=LM.mp em
   obtain⟨q1,q2,q3,q4⟩:=all cd hcd
   exact⟨LM.mpr ⟨_,q1,rfl⟩,LM.mpr ⟨_,q2,rfl⟩,by show 0<ve (tri cd.1) (tri cd.2);rw[D4];exact D3.mpr q3,q4⟩
  ·obtain⟨q1,q2,q3,q4⟩:=all ab hab
   exact⟨q1,q2,q3⟩
theorem C3{a b:Sd}:sdD a=sdD b↔a=b:=by
 constructor
 ·intro h
  unfold sdD at h
  injection h with h
  injection h with h1 h
  injection h with h2 h
  injection h with h3 h
  injection h with h4 h
  injection h with h5 h
  injection h1 with h1;injection h2 with h2;injection h3 with h3;injection h4 with h4;injection h5 with h5
  exact Prod.ext h1 (Prod.ext h2 (Prod.ext h3 (Prod.ext h4 h5)))
 ·rintro rfl;rfl
theorem B3{xs ys:List Sd}:xs.map sdD=ys.map sdD↔xs=ys:=Mz (fun _ _ h=>C3.mp h)
theorem G6{a b:Rat × Rat}:rD a=rD b↔a=b:=by
 constructor
 ·intro h
  unfold rD p9 at h
  injection h with h
  injection h with h1 h
  injection h with h2 h
  exact Prod.ext (i0.mp h1) (i0.mp h2)
 ·rintro rfl;rfl
theorem E4{xs ys:List (Rat × Rat)}:xs.map rD=ys.map rD↔xs=ys:=Mz (fun _ _ h=>G6.mp h)
structure SzS(s:Sd):Prop where
 p:s.1.natAbs<2 ^ 1200
 q:s.2.1.natAbs<2 ^ 1200
 r:s.2.2.1.natAbs<2 ^ 1200
noncomputable def lG:Option Sd→D
 | none=>.non
 | some s=>sdD s
structure LnOk(l:T3):Prop extends LineOk l where
 p:sz l.1≤1300
 q:sz l.2.1≤1300
 r:sz l.2.2≤1300
 s:SzS (m6 l 0)
def xy(ls:List T3):Prop:=ls.length≤12∧∀ l∈ls,LnOk l
local macro_rules|`(tactic| walk_at "inj")=>`(tactic| (rename_i e h;simp only[List.cons.injEq,GM.C3,GM.B3,GM.G6,GM.E4,and_true,true_and,GM.i0,GM.i7,GM.h6,GM.i9,GM.h7,D.tup.injEq,D.ref.injEq,D.int.injEq,D.str.injEq,D.bl.injEq,D.vl.injEq,Ma,and_assoc]at e;(repeat(obtain⟨e1,e⟩:=e;subst e1));subst e;exact h))
local macro_rules|`(tactic| walk_at "injs")=>`(tactic| (rename_i e o h;rcases o with o|o<;>(subst o;first|(exfalso;simp only[D.tup.injEq,List.cons.injEq,reduceCtorEq,false_and,and_false]at e;done)|(simp only[List.cons.injEq,GM.C3,GM.B3,GM.G6,GM.E4,and_true,true_and,GM.i0,GM.i7,GM.h6,GM.i9,GM.h7,D.tup.injEq,D.ref.injEq,D.int.injEq,D.str.injEq,D.bl.injEq,D.vl.injEq,Ma,and_assoc]at e;(repeat(obtain⟨e1,e⟩:=e;subst e1));subst e;exact h))))
abbrev iQ(l:T3)(M:Mem)(R:DK)(Y:DXK):Prop:=LnOk l∧R (.int ((cbL l:Nat):Int)) M
def Dq:DSp:=fun ds M R Y=>∃(l:T3),ds=[f9 l]∧iQ l M R Y
theorem sG{l:T3}{M:Mem}{R:DK}{Y:DXK}:Dq [f9 l] M R Y=(iQ l M R Y):=propext ⟨fun z=>by obtain⟨_,_,_⟩:=z;walk_at "inj",fun h=>⟨l,rfl,h⟩⟩
abbrev aa(l:T3)(c:Int)(M:Mem)(R:DK)(Y:DXK):Prop:=(LnOk l∧c=((cbL l:Nat):Int))∧R (.vl [.int (m6 l 0).1,.int (m6 l 0).2.1,.int (m6 l 0).2.2.1]) M
def nv:DSp:=fun ds M R Y=>∃(l:T3) (c:Int),ds=[f9 l,.int c]∧aa l c M R Y
theorem jY{l:T3}{c:Int}{M:Mem}{R:DK}{Y:DXK}:nv [f9 l,.int c] M R Y=(aa l c M R Y):=propext ⟨fun z=>by obtain⟨_,_,_,_⟩:=z;walk_at "inj",fun h=>⟨l,c,rfl,h⟩⟩
abbrev S3(ls:List T3)(M:Mem)(R:DK)(Y:DXK):Prop:=xy ls∧R (.vl ((f8 ls).map sdD)) M
def iD:DSp:=fun ds M R Y=>∃(x0:D) (ls:List T3),ds=[x0]∧(x0 = .vl (ls.map f9)∨x0 = .tup (ls.map f9))∧S3 ls M R Y
theorem kc{ls:List T3}{M:Mem}{R:DK}{Y:DXK}:iD [.vl (ls.map f9)] M R Y=(S3 ls M R Y):=propext ⟨fun z=>by obtain⟨_,_,_,_,_⟩:=z;walk_at "injs",fun h=>⟨_,ls,rfl,.inl rfl,h⟩⟩
theorem cC{ls:List T3}{M:Mem}{R:DK}{Y:DXK}:iD [.tup (ls.map f9)] M R Y=(S3 ls M R Y):=propext ⟨fun z=>by obtain⟨_,_,_,_,_⟩:=z;walk_at "injs",fun h=>⟨_,ls,rfl,.inr rfl,h⟩⟩
abbrev iM(a:Sd)(M:Mem)(R:DK)(Y:DXK):Prop:=R (sdD (j0 a)) M
def zk:DSp:=fun ds M R Y=>∃(a:Sd),ds=[sdD a]∧iM a M R Y
theorem sF{a:Sd}{M:Mem}{R:DK}{Y:DXK}:zk [sdD a] M R Y=(iM a M R Y):=propext ⟨fun z=>by obtain⟨_,_,_⟩:=z;walk_at "inj",fun h=>⟨a,rfl,h⟩⟩
abbrev cf(a b:Sd)(M:Mem)(R:DK)(Y:DXK):Prop:=(SzS a∧SzS b)∧R (.int (veZ a b)) M
def dh:DSp:=fun ds M R Y=>∃(a b:Sd),ds=[sdD a,sdD b]∧cf a b M R Y
theorem oO{a b:Sd}{M:Mem}{R:DK}{Y:DXK}:dh [sdD a,sdD b] M R Y=(cf a b M R Y):=propext ⟨fun z=>by obtain⟨_,_,_,_⟩:=z;walk_at "inj",fun h=>⟨a,b,rfl,h⟩⟩
abbrev cj(a b c:Sd)(M:Mem)(R:DK)(Y:DXK):Prop:=(SzS a∧SzS b∧SzS c)∧R (.int (tnZ a b c)) M
def uJ:DSp:=fun ds M R Y=>∃(a b c:Sd),ds=[sdD a,sdD b,sdD c]∧cj a b c M R Y
theorem oQ{a b c:Sd}{M:Mem}{R:DK}{Y:DXK}:uJ [sdD a,sdD b,sdD c] M R Y=(cj a b c M R Y):=propext ⟨fun z=>by obtain⟨_,_,_,_,_⟩:=z;walk_at "inj",fun h=>⟨a,b,c,rfl,h⟩⟩
abbrev cw(a b:Sd)(M:Mem)(R:DK)(Y:DXK):Prop:=(SzS a∧SzS b)∧R (.bl (J5 a b)) M
def uP:DSp:=fun ds M R Y=>∃(a b:Sd),ds=[sdD a,sdD b]∧cw a b M R Y
theorem oX{a b:Sd}{M:Mem}{R:DK}{Y:DXK}:uP [sdD a,sdD b] M R Y=(cw a b M R Y):=propext ⟨fun z=>by obtain⟨_,_,_,_⟩:=z;walk_at "inj",fun h=>⟨a,b,rfl,h⟩⟩
abbrev cm(ss:List Sd)(M:Mem)(R:DK)(Y:DXK):Prop:=(∃ s r,ss=s :: r)∧(∀ s∈ss,SzS s)∧R (sdD (D1 ss (ss.headD (0,0,0,0,0)))) M
def uL:DSp:=fun ds M R Y=>∃(ss:List Sd),ds=[.vl (ss.map sdD)]∧cm ss M R Y
theorem oS{ss:List Sd}{M:Mem}{R:DK}{Y:DXK}:uL [.vl (ss.map sdD)] M R Y=(cm ss M R Y):=propext ⟨fun z=>by obtain⟨_,_,_⟩:=z;walk_at "inj",fun h=>⟨ss,rfl,h⟩⟩
abbrev iG(ss:List Sd)(g:Sd)(M:Mem)(R:DK)(Y:DXK):Prop:=(SzS g∧∀ s∈ss,SzS s)∧R (lG (J1 g ss)) M
def Dm:DSp:=fun ds M R Y=>∃(ss:List Sd) (g:Sd),ds=[.vl (ss.map sdD),sdD g]∧iG ss g M R Y
theorem sD{ss:List Sd}{g:Sd}{M:Mem}{R:DK}{Y:DXK}:Dm [.vl (ss.map sdD),sdD g] M R Y=(iG ss g M R Y):=propext ⟨fun z=>by obtain⟨_,_,_,_⟩:=z;walk_at "inj",fun h=>⟨ss,g,rfl,h⟩⟩
abbrev ao(ls:List T3)(M:Mem)(R:DK)(Y:DXK):Prop:=xy ls∧R (.vl ((B8 (f8 ls)).map sdD)) M
def qe:DSp:=fun ds M R Y=>∃(x0:D) (ls:List T3),ds=[x0]∧(x0 = .vl (ls.map f9)∨x0 = .tup (ls.map f9))∧ao ls M R Y
theorem oY{ls:List T3}{M:Mem}{R:DK}{Y:DXK}:qe [.vl (ls.map f9)] M R Y=(ao ls M R Y):=propext ⟨fun z=>by obtain⟨_,_,_,_,_⟩:=z;walk_at "injs",fun h=>⟨_,ls,rfl,.inl rfl,h⟩⟩
theorem fq{ls:List T3}{M:Mem}{R:DK}{Y:DXK}:qe [.tup (ls.map f9)] M R Y=(ao ls M R Y):=propext ⟨fun z=>by obtain⟨_,_,_,_,_⟩:=z;walk_at "injs",fun h=>⟨_,ls,rfl,.inr rfl,h⟩⟩
abbrev iH(a b:Sd)(M:Mem)(R:DK)(Y:DXK):Prop:=(SzS a∧SzS b∧veZ a b≠0)∧R (rD (ry (tri a) (tri b))) M
def Dn:DSp:=fun ds M R Y=>∃(a b:Sd),ds=[sdD a,sdD b]∧iH a b M R Y
theorem sE{a b:Sd}{M:Mem}{R:DK}{Y:DXK}:Dn [sdD a,sdD b] M R Y=(iH a b M R Y):=propext ⟨fun z=>by obtain⟨_,_,_,_⟩:=z;walk_at "inj",fun h=>⟨a,b,rfl,h⟩⟩
theorem sx{a:Sd}{M:Mem}{R:DK}:gIx (sdD a) (.int 0) M R=R (.int a.1) M:=W3
theorem sv{a:Sd}{M:Mem}{R:DK}:gIx (sdD a) (.int 1) M R=R (.int a.2.1) M:=W2
theorem su{a:Sd}{M:Mem}{R:DK}:gIx (sdD a) (.int 2) M R=R (.int a.2.2.1) M:=gM
theorem sC{a:Rat × Rat}{M:Mem}{R:DK}:gIx (rD a) (.int 0) M R=R (e7 a.1) M:=W3
theorem sA{a:Rat × Rat}{M:Mem}{R:DK}:gIx (rD a) (.int 1) M R=R (e7 a.2) M:=W2
theorem SzS.ve{a b:Sd}(ha:SzS a)(hb:SzS b):(veZ a b).natAbs<2 ^ 2401:=by
 have h1:=A2 ha.p hb.q
 have h2:=A2 ha.q hb.p
 unfold veZ
 have:=Nm (a.1*b.2.1) (a.2.1*b.1)
 rw[show 2401=1200+1200+1 from rfl,MC]
 omega
theorem A9(c d:Nat):v9 c d≤c*d:=by
 unfold v9
 exact Mo _ (Nf _ _)
theorem jE:∀(xs:List Rat) (c m:Nat),(∀ x∈xs,sz x≤1300)→c<2 ^ m→xs.foldl (fun c q=>v9 c q.den) c<2 ^ (m+1300*xs.length)
 | [],c,m,_,h=>by simpa using h
 | x :: xs,c,m,hx,h=>by
  have h1:v9 c x.den<2 ^ (m+1300):=LR (A9 c x.den) (dE h (j9 x (hx x LI)))
  have:=jE xs _ _ (fun y hy=>hx y (LG _ hy)) h1
  rw[PV,Me]
  rwa [show m+1300*(xs.length+1)=m+1300+1300*xs.length by omega]
theorem LnOk.all{l:T3}(h:LnOk l):∀ x∈[l.1,l.2.1,l.2.2],sz x≤1300:=fun x hx=>by
 simp only[LB,LK,or_false]at hx
 rcases hx with rfl|rfl|rfl
 ·exact h.p
 ·exact h.q
 ·exact h.r
theorem LnOk.cb{l:T3}(h:LnOk l):cbL l<2 ^ 3901:=jE [l.1,l.2.1,l.2.2] 1 1 h.all (by decide)
theorem qY{ls:List T3}(h:xy ls){i:Nat}:∀ s∈J8 i ls,SzS s:=fun s hs=>by
 obtain⟨l,hl,j,e⟩:=N4 hs
 obtain⟨a,b,c⟩:=(h.2 l hl).s
 rcases e with rfl|rfl
 ·exact⟨a,b,c⟩
 ·exact⟨by show(-(m6 l j).1).natAbs<_;rw[MD];exact a,by show(-(m6 l j).2.1).natAbs<_;rw[MD];exact b,c⟩
theorem kX:∀(ls:List T3) (i j:Nat) (l:T3),ls[j]? = some l→J8 i (ls.take (j+1))=J8 i (ls.take j)++[m6 l (i+j),j0 (m6 l (i+j))]
 | [],_,_,_,h=>nomatch h
 | a :: r,i,0,l,h=>by
  obtain rfl:=Option.some.inj h
  rfl
 | a :: r,i,j+1,l,h=>by
  have:=kX r (i+1) j l h
  rw[NX,NX]
  show _ :: _ :: J8 (i+1) (r.take (j+1))=_ :: _ :: (J8 (i+1) (r.take j)++_)
  rw[this,show i+1+j=i+(j+1)by omega]
theorem bX:∀(ls:List T3) (i:Nat),(J8 i ls).length=2*ls.length
 | [],_=>rfl
 | a :: r,i=>by
  show(J8 (i+1) r).length+1+1=2*(r.length+1)
  rw[bX r (i+1)];omega
theorem u7(a b:Int):LW a b=(a:Rat) / (b:Rat):=Po a b
theorem uS(a b:Sd):(LW (a.2.2.1*b.2.1 - b.2.2.1*a.2.1) (veZ a b),LW (a.1*b.2.2.1 - b.1*a.2.2.1) (veZ a b))=ry (tri a) (tri b):=by
 unfold ry
 rw[D4,u7,u7,Nk,Nk,Mb,Mb,Mb,Mb]
 rfl
theorem FX{n:Nat}{a b:Sd}(ha:a.1.natAbs<2 ^ n∧a.2.1.natAbs<2 ^ n∧a.2.2.1.natAbs<2 ^ n)(hb:b.1.natAbs<2 ^ n∧b.2.1.natAbs<2 ^ n∧b.2.2.1.natAbs<2 ^ n)(hv:veZ a b≠0):sz (ry (tri a) (tri b)).1≤2*n+1∧sz (ry (tri a) (tri b)).2≤2*n+1:=by
 have sub:∀{x y z w:Int},x.natAbs<2 ^ n→y.natAbs<2 ^ n→z.natAbs<2 ^ n→w.natAbs<2 ^ n→(x*y - z*w).natAbs<2 ^ (2*n+1):=fun{x y z w} h1 h2 h3 h4=>by
  have e1:=A2 h1 h2
  have e2:=A2 h3 h4
  have:=Nm (x*y) (z*w)
  rw[show 2*n+1=n+n+1 by omega,MC]
  omega
 rw[← uS]
 have hve:(veZ a b).natAbs<2 ^ (2*n+1):=sub ha.1 hb.2.1 ha.2.1 hb.1
 exact⟨G9 (by omega) (sub ha.2.2 hb.2.1 hb.2.2 ha.2.1) hve hv,G9 (by omega) (sub ha.1 hb.2.2 hb.1 ha.2.2) hve hv⟩
theorem wj{ls:List T3}(hok:∀ l∈ls,LineOk l):(B8 (f8 ls)).length≤2*ls.length+1:=by
 have:∀(h0:Sd) (ss:List Sd) (k:Nat) (o:Option Sd),(Q6 h0 ss k o).length≤k:=fun h0 ss k=>by
  induction k with
  | zero=>intro o;exact LQ _
  | succ k ih =>
   intro o
   cases o with
   | none=>exact Ms _
   | some h =>
    show(if 0<veZ h0 h then h :: Q6 h0 ss k (J1 h ss)else[]).length≤k+1
    split
    ·rw[Me];have:=ih (J1 h ss);omega
    ·exact Ms _
 have e:=bX ls 0
 unfold f8
 cases es:J8 0 ls with
 | nil=>exact Ms _
 | cons s r =>
  rw[es]at e
  show(Q6 _ _ _ _).length+1≤_
  have:=this (D1 (s :: r) s) (s :: r) (s :: r).length (J1 (D1 (s :: r) s) (s :: r))
  omega
theorem AK{ds:List D}{n:Nat}:DL.Y5 ds (some (n:Int)) none=ds.drop n:=by
 unfold DL.Y5 HT.sIx
 have h1:¬ ((n:Int)<0):=by omega
 simp only[h1,if_false]
 rw[show((n:Int)).toNat=n from rfl]
 by_cases h:n≤ds.length
 ·rw[Nat.min_eq_left h,MS (by rw[MI];exact LQ _)]
 ·rw[Nat.min_eq_right (by omega),OF (LQ _),OF (by omega)]
  simp
theorem sk:∀(a b:List Sd),aT (a.map sdD) (b.map sdD)=(a.zip b).map fun ab=>D.tup [sdD ab.1,sdD ab.2]
 | [],_=>rfl
 | _ :: _,[]=>rfl
 | x :: a,y :: b=>by
  show D.tup [sdD x,sdD y] :: aT (a.map sdD) (b.map sdD)=_
  rw[sk a b];rfl
end GM
namespace GM
open PySem PySem.Spec L2 DL
open RM (sz)
theorem GX{a q:Rat}(h:q≠0):a / q*q=a:=MA h
theorem Rim.neg{ss:List T3}{h0:T3}{l:List T3}{z:Rat × Rat}(h:z∈ou h0 l):ngZ z∈ou h0 l:=by
 have nn:∀ z:Rat × Rat,ngZ (ngZ z)=z:=fun z=>by
  unfold ngZ;exact Prod.ext (by show - -z.1=z.1;grind) (by show - -z.2=z.2;grind)
 rcases Md.mp h with h|h
 ·obtain⟨ab,hab,rfl⟩:=LM.mp h
  exact LZ _ (LM.mpr ⟨ab,hab,rfl⟩)
 ·obtain⟨ab,hab,rfl⟩:=LM.mp h
  rw[nn]
  exact ME _ (LM.mpr ⟨ab,hab,rfl⟩)
theorem above{ls:List T3}{h0:T3}{r:List T3}(R:Rim ((f8 ls).map tri) h0 r)(hok:∀ l∈ls,LineOk l):∃ z∈ou h0 r,0<z.1:=by
 have eps:∀(l:List T3),(∀ x∈l,LineOk x)→∃ e:Rat,0<e∧∀ x∈l,L3 x e 0=true:=fun l=>by
  induction l with
  | nil=>exact fun _=>⟨1,by decide,fun _ h=>nomatch h⟩
  | cons x l ih =>
   intro h
   obtain⟨e,e0,he⟩:=ih fun y hy=>h y (LG _ hy)
   have hr:=(h x LI).pos
   have small:∀{y:T3} {e e':Rat},L3 y e 0=true→0≤e'→e'≤e→0<e→L3 y e' 0=true:=fun{y e e'} k z1 z2 z3=>by
    rw[S8]at k ⊢
    rw[ON,OO]at k ⊢
    obtain⟨k1,k2⟩:=k
    have m1:0≤e'*(y.2.2 - y.1*e):=Mc z1 (by grind)
    have m2:0≤e'*(y.2.2+y.1*e):=Mc z1 (by grind)
    have r0:0≤y.2.2:=by grind
    have m3:0≤y.2.2*(e - e'):=Mc r0 (by grind)
    have u1:0≤e*(y.2.2 - y.1*e'):=by grind
    have u2:=P2 z3 u1
    have u3:0≤e*(y.2.2+y.1*e'):=by grind
    have u4:=P2 z3 u3
    exact⟨by grind,by grind⟩
   by_cases p0:x.1=0
   ·refine⟨e,e0,fun y hy=>?_⟩
    rcases LB.mp hy with rfl|hy
    ·rw[S8,p0];exact⟨by grind,by grind⟩
    ·exact he y hy
   ·have ap:0<u9 x.1:=AY p0
    have dd:=GX (a:=x.2.2) (J2 ap)
    have t0:0<x.2.2 / u9 x.1:=by
     rcases tot (x.2.2 / u9 x.1) 0 with z|z
     ·have:=Mc (show 0 ≤ -(x.2.2 / u9 x.1)by grind) (aA ap)
      grind
     ·by_cases z0:x.2.2 / u9 x.1=0
      ·rw[z0]at dd;grind
      ·grind
    have lx:L3 x (x.2.2 / u9 x.1) 0=true:=by
     rw[S8,ON,OO]
     generalize x.2.2 / u9 x.1=t at *
     unfold u9 at dd
     have x0:0≤x.2.2:=by grind
     split at dd
     ·exact⟨by grind,by grind⟩
     ·exact⟨by grind,by grind⟩
    by_cases c:x.2.2 / u9 x.1≤e
    ·refine⟨_,t0,fun y hy=>?_⟩
     rcases LB.mp hy with rfl|hy
     ·exact lx
     ·exact small (he y hy) (aA t0) c e0
    ·refine⟨e,e0,fun y hy=>?_⟩
     rcases LB.mp hy with rfl|hy
     ·exact small lx (aA e0) (by grind) t0
     ·exact he y hy
 obtain⟨e,e0,he⟩:=eps ls hok
 obtain⟨c,hc,_,hm⟩:=R.most (1,0,0) (fun z=>by have:=z.1;revert this;decide)
 have:=hm (e,0) ((yS ls (e,0)).mpr (by unfold L1;rw[Oy];exact he))
 unfold dt at this
 exact⟨c,hc,by grind⟩
def xI(n:Nat)(s:Sd):Prop:=s.1.natAbs<2 ^ n∧s.2.1.natAbs<2 ^ n∧s.2.2.1.natAbs<2 ^ n
theorem fZ{xs ys:List Rat}:xs.map e7=ys.map e7↔xs=ys:=Mz (fun _ _ h=>i0.mp h)
local macro_rules|`(tactic| walk_at "inj")=>`(tactic| (rename_i e h;simp only[List.cons.injEq,GM.fZ,and_true,true_and,GM.i0,GM.i7,GM.h6,GM.i9,GM.h7,D.tup.injEq,D.ref.injEq,D.int.injEq,D.str.injEq,D.bl.injEq,D.vl.injEq,Ma,and_assoc]at e;(repeat(obtain⟨e1,e⟩:=e;subst e1));subst e;exact h))
local macro_rules|`(tactic| walk_at "injs")=>`(tactic| (rename_i e o h;rcases o with o|o<;>(subst o;first|(exfalso;simp only[D.tup.injEq,List.cons.injEq,reduceCtorEq,false_and,and_false]at e;done)|(simp only[List.cons.injEq,GM.fZ,and_true,true_and,GM.i0,GM.i7,GM.h6,GM.i9,GM.h7,D.tup.injEq,D.ref.injEq,D.int.injEq,D.str.injEq,D.bl.injEq,D.vl.injEq,Ma,and_assoc]at e;(repeat(obtain⟨e1,e⟩:=e;subst e1));subst e;exact h))))
theorem rJ{a b:Nat × Rat × Rat × Rat}:lW a=lW b↔a=b:=by
 constructor
 ·intro h
  unfold lW at h
  injection h with h
  injection h with h1 h
  injection h with h2 h
  injection h with h3 h
  injection h with h4 h
  injection h1 with h1
  exact Prod.ext (by omega) (Prod.ext (i0.mp h2) (Prod.ext (i0.mp h3) (i0.mp h4)))
 ·rintro rfl;rfl
theorem dG{xs ys:List (Nat × Rat × Rat × Rat)}:xs.map lW=ys.map lW↔xs=ys:=Mz (fun _ _ h=>rJ.mp h)
end GM
namespace GM
open PySem PySem.Spec L2 DL
open RM (sz)
local macro_rules|`(tactic| walk_at "inj")=>`(tactic| (rename_i e h;simp only[List.cons.injEq,GM.dG,and_true,true_and,GM.i0,GM.i7,GM.h6,GM.i9,GM.h7,D.tup.injEq,D.ref.injEq,D.int.injEq,D.str.injEq,D.bl.injEq,D.vl.injEq,Ma,and_assoc]at e;(repeat(obtain⟨e1,e⟩:=e;subst e1));subst e;exact h))
local macro_rules|`(tactic| walk_at "injs")=>`(tactic| (rename_i e o h;rcases o with o|o<;>(subst o;first|(exfalso;simp only[D.tup.injEq,List.cons.injEq,reduceCtorEq,false_and,and_false]at e;done)|(simp only[List.cons.injEq,GM.dG,and_true,true_and,GM.i0,GM.i7,GM.h6,GM.i9,GM.h7,D.tup.injEq,D.ref.injEq,D.int.injEq,D.str.injEq,D.bl.injEq,D.vl.injEq,Ma,and_assoc]at e;(repeat(obtain⟨e1,e⟩:=e;subst e1));subst e;exact h))))
end GM
namespace L2
open PySem PySem.Spec PyProof.Rows
section
variable {X:Cx} {pins:List (Addr × Obj)} {σ:St} {H:Hp} {s:Shared} {h':Heap}
theorem Inv.keptL{t':Nat}(I:Inv X pins σ H s)(k:∀ b o,b≠X.env.locals→s.heap.get? b=some o→h'.get? b=some o)(ns:∀ m,s.heap.Ns X.env.locals m→h'.Ns X.env.locals m):Inv X pins σ H { s with heap:=h',toks:=t' }:=by
 have ne:∀{b:Addr} {o:Obj},X.s₀.heap.get? b=some o→b≠X.env.locals:=fun{b o} e z=>by
  have h1:=LH e
  rw[z]at h1
  exact absurd h1 (Nat.not_lt.mpr I.ok.above)
 have nL:∀{b:Addr} {u:HO},H b=some u→b≠X.env.locals:=fun{b u} e z=>by rw[z,I.free]at e;cases e
 obtain⟨m,hn,hl⟩:=I.loc
 have cel:∀{c:Addr} {v:Option Value},s.heap.IsCell c v→h'.IsCell c v:=fun{c v} d=>by
  obtain⟨o,e1,e2⟩:=d
  refine⟨o,k c o (fun z=>?_) e1,e2⟩
  obtain⟨o2,es,ep,e3,e4,_⟩:=hn
  rw[← z,e1]at e3
  cases e3
  rw[e2]at e4;cases e4
 refine⟨I.ok,I.os,I.bare,⟨fun b o q n hb hx=>k b o (ne q) (I.base.keep b o q n hb hx),fun b o q n hb hx=>?_,I.base.free,fun b o q hx=>?_,I.base.tups,I.base.frzs,I.base.tbls⟩,⟨m,ns m hn,fun i x v e1 e2 e3=>?_⟩,fun x c e=>?_,I.free,I.freeC,fun p hp=>?_,fun b u e=>?_,I.len⟩
 ·obtain⟨sl,z⟩:=I.base.slot b o q n hb hx
  exact⟨sl,k b _ (ne q) z⟩
 ·obtain⟨o',z⟩:=I.base.there b o q hx
  exact⟨o',k b _ (ne q) z⟩
 ·obtain⟨u,r,lk⟩:=hl i x v e1 e2 e3
  exact⟨u,r,lk.imp id fun⟨a,c,b,d⟩=>⟨a,c,b,cel d⟩⟩
 ·obtain⟨v,d⟩:=I.cell x c e
  exact⟨v,cel d⟩
 ·obtain⟨a,b,c,d⟩:=I.pin p hp
  exact⟨k _ _ c a,b,c,d⟩
 ·refine(I.hok b u e).stay (fun c v hc q=>k c v ?_ q) (fun _ q=>q) fun _ _ q=>q
  rcases hc with rfl|hc
  ·exact nL e
  ·exact nL hc
theorem dB{P:Program}{w:World}{h:Heap}{a:Addr}{o:HO}(x:A0 P w H h a o):∃ u,h.get? a=some u:=DL.gm x
theorem Inv.laidL{t':Nat}{a:Addr}{o:HO}(I:Inv X pins σ H s)(k:∀ b o,b≠X.env.locals→s.heap.get? b=some o→h'.get? b=some o)(ns:∀ m,s.heap.Ns X.env.locals m→h'.Ns X.env.locals m)(hn:s.heap.get? a=none)(hL:a≠X.env.locals)(nt:∀ xs,o ≠ .tup xs)(new:A0 X.prog X.w (upd H a o) h' a o):Inv X pins σ (upd H a o) { s with heap:=h',toks:=t' }:=by
 have J:=I.keptL (t':=t') k ns
 have nH:H a=none:=by
  cases e:H a with
  | none=>rfl
  | some u=>obtain⟨x,hx⟩:=dB (I.hok a u e);rw[hn]at hx;cases hx
 have ne:∀{b:Addr} {u:HO},H b=some u→b≠a:=fun{b u} e z=>by rw[z,nH]at e;cases e
 refine⟨J.ok,J.os,J.bare,⟨J.base.keep,J.base.slot,fun b o' q n hx=>?_,J.base.there,fun b xs q=>?_,fun b o' u q=>?_,fun b ps q=>?_⟩,J.loc,J.cell,?_,fun x c e=>?_,fun p hp=>?_,fun b u e=>?_,J.len⟩
 ·have hb:b≠a:=fun z=>by
   obtain⟨o2,e2⟩:=I.base.there b o' q hx
   rw[z,hn]at e2;cases e2
  rw[g7 hb];exact J.base.free b o' q n hx
 ·have:=J.base.tups b xs q
  rw[g7 (ne this)];exact this
 ·have:=J.base.frzs b o' u q
  rw[g7 (ne this)];exact this
 ·obtain⟨more,this⟩:=J.base.tbls b ps q
  exact⟨more,by rw[g7 (ne this)];exact this⟩
 ·rw[g7 (Ne.symm hL)];exact J.free
 ·have hb:c≠a:=fun z=>by
   obtain⟨v,o2,e2,_⟩:=I.cell x c e
   rw[z,hn]at e2;cases e2
  rw[g7 hb];exact J.freeC x c e
 ·obtain⟨p1,p2,p3⟩:=J.pin p hp
  have hb:p.1≠a:=fun z=>by
   have:=(I.pin p hp).1
   rw[z,hn]at this;cases this
  exact⟨p1,by rw[g7 hb];exact p2,p3⟩
 ·by_cases hb:b=a
  ·subst hb
   rw[i3]at e
   cases e
   exact new
  ·rw[g7 hb]at e
   refine(J.hok b u e).stay (fun _ _ _ q=>q) (fun c q=>?_) fun c xs q=>?_
   ·rw[g7 (ne q)];exact q
   ·rw[g7 (ne q)];exact q
theorem Aq{prog:Program}{w:World}{A:Around}{κ:SortKind}{vs:List Value}{G:Array Nat→Shared→Prop}{s:Shared}(h:wpAny (model prog w) A (keyLt' κ (vs.getD 1 Value.none) (vs.getD 0 Value.none)) (fun b s'=>(b=true→G #[1,0] s')∧(b=false→G #[0,1] s')) (fun _ _=>False) s) :
  (PySem.W.kas_sort 2).kasWp (PySem.W.kas_ask prog w A κ vs) G s:=by
 show PySem.W.kas_ask prog w A κ vs 1 0 (fun b s'=>PySem.W.KasT.kasWp (PySem.W.kas_ask prog w A κ vs) _ G s') s
 unfold PySem.W.kas_ask
 refine wpAny_mono h (fun b s' hb=>?_) fun _ _ z=>z
 cases b with
 | true=>exact hb.1 rfl
 | false=>exact hb.2 rfl
theorem oo:t6 X (.builtin "sorted") (fun xs H Q=>∃ l a b i j xa xb,xs=[.ref l]∧SqL X.K H l [.ref a,.ref b]∧SqT X.K H a (.int i :: xa)∧SqT X.K H b (.int j :: xb)∧i≠j ∧
  ∀ p,H p=none→Q (.ref p) (upd H p (.lst (if j<i then[.ref b,.ref a]else[.ref a,.ref b])))):=by
 intro pins s σ H xs us Q I rv h
 obtain⟨l,a,b,i,j,xa,xb,rfl,hl,ha,hb,ne,q⟩:=h
 obtain⟨u,rfl,ru⟩:=h8.one rv
 obtain rfl:u=Value.ref l:=ru
 obtain⟨its,rl,isl,_⟩:=I.list hl
 obtain⟨ia,ra,⟨oa,ha1,ha2,na,ha3⟩,_⟩:=I.tuple ha
 obtain⟨ib,rb,⟨ob,hb1,hb2,nb,hb3⟩,_⟩:=I.tuple hb
 obtain rfl:its=[Value.ref a,Value.ref b]:=by
  obtain⟨u1,u2,e,r1,r2⟩:=h8.two rl
  rw[e,show u1=Value.ref a from r1,show u2=Value.ref b from r2]
 cases ra with
 | cons ra1 ra2 =>
 cases rb with
 | cons rb1 rb2 =>
 obtain⟨ta,rfl⟩:=ra1
 obtain⟨tb,rfl⟩:=rb1
 rename_i va vb
 obtain⟨m,F⟩:=I.fr
 obtain⟨ol,nl,hl1,hl2,_,hl3⟩:=isl
 refine PySem.W.kat_sorted (vs:=[Value.ref a,Value.ref b]) F (vN (g:=X.base)) ⟨ol,hl1,hl2,nl,hl3⟩ (by show 2≤2;decide) (by show 2<64;decide) fun Dl e1 h1 F1 N1 lt1=>?_
 have keep:∀ c o,c≠X.env.locals→s.heap.get? c=some o→h1.get? c=some o:=fun c o n e=>by
  cases q:X.base.get? c with
  | some u =>
   have:=I.bk c u q
   rw[e]at this;cases this
   exact F1.keep c _ q
  | none=>exact(N1 (c,o) (.tail _ (S6 n q e))).1
 have nL:∀{c:Addr} {o:Obj},s.heap.get? c=some o→o.cls = .type "tuple" → (∃ xs n,o.data = .seq xs n)→c≠X.env.locals:=fun{c o} e1 _ ⟨xs,n,e2⟩ z=>by
  obtain⟨o2,es,ep,e3,e4,_⟩:=F.ns
  rw[← z,e1]at e3
  cases e3
  rw[e2]at e4;cases e4
 have nLa:a≠X.env.locals:=nL ha1 ha2 ⟨_,_,ha3⟩
 have nLb:b≠X.env.locals:=nL hb1 hb2 ⟨_,_,hb3⟩
 have ha4:=keep a oa nLa ha1
 have hb4:=keep b ob nLb hb1
 refine PySem.W.kat_kind (fs:=[.int i ta,.int j tb]) (T:=.type "int") (.cons ha4 ha2 ha3 rfl (.cons hb4 hb2 hb3 rfl .nil)) (by show 0<2;decide) (fun v hv=>?_) rfl ?_
 ·simp only[LB,LK,or_false]at hv
  rcases hv with rfl|rfl
  ·exact .now
  ·exact .now
 ·refine Aq (PySem.W.kat_lt hb4 hb3 ha4 ha3 (PySem.W.kat_cons (wpAny_eqBool_int ?_)))
  rw[show(j == i)=false from beq_eq_false_iff_ne.mpr (Ne.symm ne)]
  refine PySem.W.kat_no (oneLt_int ?_)
  have fin:∀(vs':List Value) (xs':List V),h8 xs' vs'→xs'=(if j<i then[V.ref b,V.ref a]else[V.ref a,V.ref b])→PySem.W.KasFin X.base X.env.locals m Dl e1 vs' (fun s3=>EP X pins σ Q (Value.ref Dl) s3) { s with heap:=h1 }:=fun vs' xs' rv' ex=>by
   have hD0:=N1 (Dl,seqObj "list" #[] e1) (.head _)
   have hDn:s.heap.get? Dl=none:=by
    cases e:s.heap.get? Dl with
    | none=>rfl
    | some u=>exact absurd (lt1 (Dl,u) (S6 hD0.2.1 hD0.2.2 e)) (MT _)
   refine PySem.W.KasFin.intro F1 N1 (.head fun p hp=>LV (lt1 p hp)) fun h2 c2 F2 N2=>?_
   have keep2:∀ c o,c≠X.env.locals→s.heap.get? c=some o→h2.get? c=some o:=fun c o n e=>by
    cases q:X.base.get? c with
    | some u =>
     have:=I.bk c u q
     rw[e]at this;cases this
     exact F2.keep c _ q
    | none=>exact(N2 (c,o) (.tail _ (S6 n q e))).1
   have hD2:=N2 (Dl,PySem.W.listOf (List.toArray vs') c2) (.head _)
   have I2:Inv X pins σ (upd H Dl (.lst xs')) { s with heap:=h2,toks:=s.toks }:=I.laidL keep2 (fun m' hm=>by
    obtain⟨o1,es1,ep1,a1,a2,_,a4⟩:=hm
    obtain⟨o2,es2,ep2,b1,b2,_,b4⟩:=F.ns
    rw[a1]at b1;cases b1
    rw[a2]at b2;cases b2
    have:m'=m:=funext fun x=>(a4 x).symm.trans (b4 x)
    rw[this];exact F2.ns) hDn hD0.2.1 (fun _ z=>nomatch z) ⟨?_,vs',c2,rv',hD2.1⟩
   ·refine⟨.ref Dl,_,I2,rfl,?_⟩
    rw[ex]
    exact q Dl (by
     cases e:H Dl with
     | none=>rfl
     | some u=>obtain⟨x,hx⟩:=dB (I.hok Dl u e);rw[hDn]at hx;cases hx)
   ·have:xs'.length≤2:=by rw[ex];split<;>exact LQ _
    exact LL this (by decide)
  refine⟨fun z=>fin _ [V.ref b,V.ref a] (.cons rfl (.cons rfl .nil)) (by rw[if_pos (of_decide_eq_true z)]),fun z=>fin _ [V.ref a,V.ref b] (.cons rfl (.cons rfl .nil)) (by rw[if_neg (of_decide_eq_false z)])⟩
end
section
variable {prog:Program} {w:World} {A:Around} {E:Value→Shared→Prop} {s:Shared}
theorem uw{a:Addr}{ws:List Value}{k:Nat}{P:PySem.Fin→Shared→Prop}(there:s.heap.get? a=some (seqObj "list" ws.toArray k))(few:ws.length<2)
  (go:P (.done (.ret .none)) { s with heap:=sortedHeap s.heap a ws ws.toArray }):wpAny (model prog w) A (Builtin.«list.sort» ⟨[.ref a],[]⟩) P E s:=by
 have inb:=LH there
 obtain⟨ep,bare⟩:∃ ep,(s.heap.update a (Obj.mapSeq fun _=>#[])).get? a=some (seqObj "list" #[] ep):=⟨_,get?_update_seq there _⟩
 have bare2:(((s.heap.update a (Obj.mapSeq fun _=>#[])).push (seqObj "tuple" ws.toArray 0)).push (seqObj "list" #[] 0)).get? a=some (seqObj "list" #[] ep) :=
  Lx _ (Lx _ bare)
 have small:ws.toArray.size<2:=by rw[LN];exact few
 have line:ws.length≤sizeLine:=LL (MF few) (by decide)
 rw[list_sort_plain]
 refine Lw (listItems_at there rfl
  (Lw (listUpdate_at there rfl
   (Lw (seqEpoch_at bare rfl
    (Lw (wpAny_newTuple
     (Lw (wpAny_newList
      (wpAny_holding ?_) (Ms _))) line)))) (by rw[LN];omega) (Ms _))))
 show wpAny (model prog w) A _ P E { s with heap:=((s.heap.update a (Obj.mapSeq fun _=>#[])).push (seqObj "tuple" ws.toArray 0)).push (seqObj "list" #[] 0) }
 dsimp only
 rw[if_pos small]
 refine Lw (LA ?_)
 rw[if_pos small,StateT.run_pure]
 refine Lw (LA ?_)
 have same:Array.map (fun x=>x.snd) (ws.toArray.zip ws.toArray)=ws.toArray:=by
  match ws,few with
  | [],_=>simp
  | [_],_=>simp
 show wpAny (model prog w) A (do
  let __do_lift ← seqEpoch a
  Builtin.List.listUpdate (Value.ref a) fun _=>Array.map (fun x=>x.snd) (ws.toArray.zip ws.toArray)
  if (__do_lift != ep)=true then _ else ret Value.none) P E _
 rw[same]
 refine Lw (seqEpoch_at bare2 rfl
  (Lw (listUpdate_at bare2 rfl ?_ (Ms _) (by rw[LN];omega))))
 rw[bne_self_eq_false,if_neg LO]
 exact LA go
theorem mX{l:Addr}{ws:List Value}{Q:Value→Shared→Prop}(hl:s.heap.IsList l ws.toArray)(few:ws.length<2)
  (go:Q (.ref (s.heap.objs.size+1)) { s with heap:=sortedAll s.heap ws ws.toArray }):wpAny (model prog w) A (call (.builtin "sorted") [.ref l]) Q E s:=by
 have line:ws.length≤sizeLine:=LL (MF few) (by decide)
 refine Calls.call_function_entry kind_sorted plain_sorted entry_sorted (args_sorted1 _) ?_
 unfold Builtin.«sorted»
 refine Lw (m:=checkCount "sorted" 1 1 _) (LA (Lw (collect_list hl (Lw (wpAny_newList ?_ line)) line)))
 have sz:((s.heap.push (seqObj "list" #[] 0)).update s.heap.objs.size (Obj.mapSeq (· ++ ws.toArray))).objs.size=s.heap.objs.size+1:=by rw[Oz,size_push']
 have at1:(((s.heap.push (seqObj "list" #[] 0)).update s.heap.objs.size (Obj.mapSeq (· ++ ws.toArray))).push (seqObj "list" ws.toArray 0)).get? (s.heap.objs.size+1)=some (seqObj "list" ws.toArray 0):=by
  rw[← sz]
  exact LC _ rfl
 show wpAny _ _ _ _ _ { s with heap:=((s.heap.push (seqObj "list" #[] 0)).update s.heap.objs.size (Obj.mapSeq (· ++ ws.toArray))).push (seqObj "list" ws.toArray 0) }
 rw[sz]
 exact Lw (wpAny_holding (wpAny_call_entry slot_list_sort ⟨_,at1,rfl⟩ entry_list_sort
  (uw at1 few ⟨_,rfl,LA ⟨_,rfl,go⟩⟩) (args_list_sort _)))
end
theorem bO{h:Heap}{ws:List Value}{out:Array Value}:∀ b o,h.get? b=some o→(sortedAll h ws out).get? b=some o:=fun b o e=>by
 have hb:=LH e
 have sz:((h.push (seqObj "list" #[] 0)).update h.objs.size (Obj.mapSeq (· ++ ws.toArray))).objs.size=h.objs.size+1:=by rw[Oz,size_push']
 have e1:(((h.push (seqObj "list" #[] 0)).update h.objs.size (Obj.mapSeq (· ++ ws.toArray))).push (seqObj "list" ws.toArray 0)).get? b=some o :=
  Lx _ (by rw[Na _ _ _ _ (LV hb)];exact Lx _ e)
 unfold sortedAll sortedHeap
 have nb:b≠h.objs.size+1:=LV (Ol hb)
 rw[Na _ _ _ _ nb]
 refine Lx _ (Lx _ ?_)
 rw[Na _ _ _ _ nb]
 exact e1
theorem dS{h:Heap}{ws:List Value}{out:Array Value}:∃ n,(sortedAll h ws out).get? (h.objs.size+1)=some (seqObj "list" out n):=by
 have sz:((h.push (seqObj "list" #[] 0)).update h.objs.size (Obj.mapSeq (· ++ ws.toArray))).objs.size=h.objs.size+1:=by rw[Oz,size_push']
 have at1:(((h.push (seqObj "list" #[] 0)).update h.objs.size (Obj.mapSeq (· ++ ws.toArray))).push (seqObj "list" ws.toArray 0)).get? (h.objs.size+1)=some (seqObj "list" ws.toArray 0):=by
  rw[← sz]
  exact LC _ rfl
 obtain⟨ep,bare⟩:∃ ep,((((h.push (seqObj "list" #[] 0)).update h.objs.size (Obj.mapSeq (· ++ ws.toArray))).push (seqObj "list" ws.toArray 0)).update (h.objs.size+1) (Obj.mapSeq fun _=>#[])).get? (h.objs.size+1)=some (seqObj "list" #[] ep):=⟨_,get?_update_seq at1 _⟩
 unfold sortedAll sortedHeap
 exact⟨_,get?_update_seq (Lx _ (Lx _ bare)) _⟩
theorem oq{X:Cx}:t6 X (.builtin "sorted") (fun xs H Q=>∃ l ys,xs=[.ref l]∧SqL X.K H l ys∧ys.length<2∧∀ p,H p=none→Q (.ref p) (upd H p (.lst ys))):=by
 intro pins s σ H xs us Q I rv h
 obtain⟨l,ys,rfl,hl,few,q⟩:=h
 obtain⟨u,rfl,ru⟩:=h8.one rv
 obtain rfl:u=Value.ref l:=ru
 obtain⟨its,rl,⟨ol,nl,hl1,hl2,_,hl3⟩,hz⟩:=I.list hl
 refine mX (ws:=its) ⟨ol,hl1,hl2,nl,hl3⟩ (by rw[← rl.length];exact few) ?_
 obtain⟨n,hn⟩:=dS (h:=s.heap) (ws:=its) (out:=its.toArray)
 exact⟨.ref (s.heap.objs.size+1),_,I.laid (t':=s.toks) (o:=.lst ys) bO (ND _) ⟨hz,its,n,rl,hn⟩,rfl,q _ (I.hok.fresh (ND _))⟩
end L2
namespace DL
open PySem PySem.Spec L2
open PyProof.Rows hiding St
def GN:DRC:=fun ds M R=>∃ x xs,ds=[x]∧F4 M x=some xs∧((xs.length<2∧∀ p,M p=none→R (.ref p) (v7 M p (.lst xs))) ∨
 ∃ i j ra rb,xs=[.tup (.int i :: ra),.tup (.int j :: rb)]∧i≠j∧∀ p,M p=none→R (.ref p) (v7 M p (.lst (if j<i then[.tup (.int j :: rb),.tup (.int i :: ra)]else[.tup (.int i :: ra),.tup (.int j :: rb)]))))
theorem xl{X:Cx}:Q4 X (.builtin "sorted") GN:=t6.imp (t6.or oq oo) fun xs H Q ⟨ds,M,R,hl,am,⟨x,ys,z,hi,h⟩,f⟩=>by
 subst z
 obtain⟨v,rfl,hv⟩:=hl.one
 obtain⟨a,us,rfl,sq,lx⟩:=u8 am hv hi
 rcases h with⟨few,r⟩|⟨i,j,ra,rb,rfl,ne,r⟩
 ·refine .inl ⟨a,us,rfl,sq,by rw[lx.length];exact few,fun p hp=>f _ _ (r p (am.fresh hp)) _ _ (KT.alloc hp) (am.new hp lx) (.ref p)⟩
 ·cases lx with
  | cons h1 t1 =>
  cases t1 with
  | cons h2 t2 =>
  cases t2
  cases h1 with
  | tup s1 l1 =>
  cases h2 with
  | tup s2 l2 =>
  rename_i a1 x1 a2 x2
  cases l1 with
  | cons g1 l1 =>
  cases l2 with
  | cons g2 l2 =>
  cases g1
  cases g2
  refine .inr ⟨a,a1,a2,i,j,_,_,rfl,sq,s1,s2,ne,fun p hp=>?_⟩
  have rr:=r p (am.fresh hp)
  have t1:Has X.K H (.ref a1) (.tup (.int i :: ra)):=.tup s1 (.cons (.int i) l1)
  have t2:Has X.K H (.ref a2) (.tup (.int j :: rb)):=.tup s2 (.cons (.int j) l2)
  by_cases hji:j<i
  ·rw[if_pos hji]at rr ⊢
   exact f _ _ rr _ _ (KT.alloc hp) (am.new hp (.cons t2 (.cons t1 .nil))) (.ref p)
  ·rw[if_neg hji]at rr ⊢
   exact f _ _ rr _ _ (KT.alloc hp) (am.new hp (.cons t1 (.cons t2 .nil))) (.ref p)
theorem gE:bootBuiltins "sorted" = some (.builtin "sorted"):=by decide +kernel
end DL
namespace L2
open PySem PySem.Spec PyProof.Rows
noncomputable def v8(led:Bool)(p:Array Nat):SetTable:={ mask:=7,place:=p,dummies:=#[],finger:=0,led:=led,moves:=0,plain:=true }
theorem L7(i j:Nat):SetTable.below #[i] j=if i<j then 1 else 0:=by
 unfold SetTable.below
 show SetTable.below.go #[i] j 1 0 1=_
 unfold SetTable.below.go
 show(if 0<1 then(let mid:=(0+1) / 2;if (#[i]:Array Nat).getD mid j<j then SetTable.below.go #[i] j 0 (mid+1) 1 else SetTable.below.go #[i] j 0 0 mid)else 0)=_
 rw[if_pos (by decide)]
 show(if i<j then _ else _)=_
 split
 ·rfl
 ·rfl
theorem bp(i k j:Nat)(h:i<k):SetTable.below #[i,k] j=if k<j then 2 else if i<j then 1 else 0:=by
 unfold SetTable.below
 show SetTable.below.go #[i,k] j 2 0 2=_
 unfold SetTable.below.go
 show(if 0<2 then(if k<j then SetTable.below.go #[i,k] j 1 2 2 else SetTable.below.go #[i,k] j 1 0 1)else 0)=_
 rw[if_pos (by decide)]
 by_cases h1:k<j
 ·rw[if_pos h1,if_pos h1];rfl
 ·rw[if_neg h1,if_neg h1]
  unfold SetTable.below.go
  show(if 0<1 then(if i<j then SetTable.below.go #[i,k] j 0 1 1 else SetTable.below.go #[i,k] j 0 0 0)else 0)=_
  rw[if_pos (by decide)]
  split<;>rfl
theorem kT(led:Bool)(i j:Nat):(v8 led #[i]).slot j=if j=i then .live 0 else .empty:=by
 unfold SetTable.slot
 show(let n:=SetTable.below #[i] j;if ((#[i]:Array Nat)[n]? == some j)=true then SetTable.Slot.live n else if SetTable.has #[] j=true then .dummy else .empty)=_
 simp only[L7]
 have hn:SetTable.has #[] j=false:=rfl
 by_cases h:i<j
 ·rw[if_pos h]
  have:¬ j=i:=by omega
  rw[if_neg this,hn]
  rfl
 ·rw[if_neg h]
  by_cases h2:j=i
  ·subst h2
   rw[if_pos rfl]
   simp
  ·rw[if_neg h2,hn]
   have:((#[i]:Array Nat)[0]? == some j)=false:=by simp;omega
   rw[this]
   rfl
theorem gg(led:Bool)(j:Nat)(h g:Int)(hg:g≠h)(hj:j<8):∀(k fuel:Nat) (p:SetTable.Probe),p.perturb<32 ^ k→k+2≤fuel→p.more=0→p.dummy=none→p.j=p.i→p.i<8 →
  ∃ i,i≠j∧i<8∧SetTable.probe.go (v8 led #[j]) (fun _=>g) h fuel p=some (.empty i none)
 | k,0,_,_,hf,_,_,_,_=>by omega
 | k,fuel+1,p,hp,hf,hm,hd,hji,hi=>by
  unfold SetTable.probe.go
  rw[kT]
  by_cases e:p.j=j
  ·rw[if_pos e]
   show ∃ i,i≠j∧i<8∧(if (g == h)=true then _ else _)=_
   rw[if_neg (by simpa using hg)]
   have ha:(v8 led #[j]).advance p = { p with j:=(p.i*5+1+p.perturb / 32) % 8,more:=0,i:=(p.i*5+1+p.perturb / 32) % 8,perturb:=p.perturb / 32 }:=by
    unfold SetTable.advance
    rw[if_neg (by omega)]
    show(({ p with j:=_,more:=SetTable.runEnd 7 ((p.i*5+1+p.perturb / 32) % 8) - ((p.i*5+1+p.perturb / 32) % 8),i:=_,perturb:=_ }):SetTable.Probe)=_
    have:SetTable.runEnd 7 ((p.i*5+1+p.perturb / 32) % 8)=(p.i*5+1+p.perturb / 32) % 8:=by
     unfold SetTable.runEnd
     rw[if_neg (by omega)]
    rw[this,Nat.sub_self]
    rfl
   rw[ha]
   have lt:(p.i*5+1+p.perturb / 32) % 8<8:=NR _ (by decide)
   cases k with
   | zero =>
    have p0:p.perturb=0:=by simp at hp;omega
    obtain⟨f2,rfl⟩:∃ f2,fuel=f2+1:=⟨fuel - 1,by omega⟩
    refine⟨(p.i*5+1) % 8,by omega,by omega,?_⟩
    unfold SetTable.probe.go
    rw[kT]
    show(match (if (p.i*5+1+p.perturb / 32) % 8=j then SetTable.Slot.live 0 else .empty)with|.empty=>_|.dummy=>_|.live i=>_)=_
    rw[p0,if_neg (by omega)]
    show some (SetTable.Met.empty ((p.i*5+1+0 / 32) % 8) p.dummy)=_
    rw[hd]
   | succ k=>exact gg led j h g hg hj k fuel _ (by
     show p.perturb / 32<32 ^ k
     rw[Nat.div_lt_iff_lt_mul (by decide)]
     rw[MC]at hp;exact hp) (by omega) rfl hd rfl lt
  ·rw[if_neg e]
   exact⟨p.j,e,by omega,by show some (SetTable.Met.empty p.j p.dummy)=_;rw[hd]⟩
theorem AQ(h:Int):SetTable.bits h<32 ^ 13:=by
 unfold SetTable.bits
 have:=MU h (show(0:Int)<2 ^ 64 by decide)
 have:=Ni h (show(2 ^ 64:Int)≠0 by decide)
 have:(32:Nat) ^ 13=2 ^ 65:=by decide
 omega
theorem kQ(led:Bool)(p:Array Nat)(h:Int):(v8 led p).probeStart h = { j:=SetTable.bits h % 8,more:=0,i:=SetTable.bits h % 8,perturb:=SetTable.bits h,dummy:=none }:=by
 unfold SetTable.probeStart
 show(({ j:=SetTable.bits h % 8,more:=SetTable.runEnd 7 (SetTable.bits h % 8) - SetTable.bits h % 8,i:=_,perturb:=_,dummy:=_ }):SetTable.Probe)=_
 have:SetTable.runEnd 7 (SetTable.bits h % 8)=SetTable.bits h % 8:=by
  unfold SetTable.runEnd
  have:=NR (SetTable.bits h) (show 0<8 by decide)
  rw[if_neg (by omega)]
 rw[this,Nat.sub_self]
 rfl
theorem wB(led:Bool)(h:Int):(v8 led #[]).freeSlot h=some (SetTable.bits h % 8,false):=by
 unfold SetTable.freeSlot
 rw[kQ]
 rfl
theorem wA(led:Bool)(j:Nat)(hj:j<8)(h:Int):∃ i,i≠j∧i<8∧(v8 led #[j]).freeSlot h=some (i,false):=by
 obtain⟨i,h1,h2,h3⟩:=gg led j h (h+1) (by omega) hj 13 220 { j:=SetTable.bits h % 8,more:=0,i:=SetTable.bits h % 8,perturb:=SetTable.bits h,dummy:=none } (AQ h) (by decide) rfl rfl rfl (NR _ (by decide))
 refine⟨i,h1,h2,?_⟩
 unfold SetTable.freeSlot
 rw[kQ]
 show(match SetTable.probe.go (v8 led #[j]) (fun _=>h+1) h 220 _ with|some (.empty j d)=>some (d.getD j,d.isSome)|_=>none)=_
 rw[h3]
 rfl
theorem Ap(led:Bool)(h:Int)(x:Value):∃ i,i<8∧layNew (v8 led #[]) #[] h x=(#[(h,x)],v8 led #[i],false,false):=by
 refine⟨SetTable.bits h % 8,NR _ (by decide),?_⟩
 unfold layNew
 rw[wB]
 rfl
theorem Ao(led:Bool)(j:Nat)(hj:j<8)(e:Int × Value)(h:Int)(x:Value):∃ i k e1 e2,i<k∧(e1=e∧e2=(h,x)∨e1=(h,x)∧e2=e)∧layNew (v8 led #[j]) #[e] h x=(#[e1,e2],v8 led #[i,k],false,false):=by
 obtain⟨i,h1,h2,h3⟩:=wA led j hj h
 by_cases c:j<i
 ·have hb:SetTable.below #[j] i=1:=by rw[L7,if_pos c]
  have hp:(v8 led #[j]).put i=(v8 led #[j,i],1):=by
   unfold SetTable.put
   show(({ (v8 led #[j])with place:=SetTable.insertAt #[j] (SetTable.below #[j] i) i,dummies:=#[] }:SetTable),SetTable.below #[j] i)=_
   rw[hb];rfl
  refine⟨j,i,e,(h,x),c,.inl ⟨rfl,rfl⟩,?_⟩
  unfold layNew
  simp only[h3,hp]
  rfl
 ·have hb:SetTable.below #[j] i=0:=by rw[L7,if_neg c]
  have hp:(v8 led #[j]).put i=(v8 led #[i,j],0):=by
   unfold SetTable.put
   show(({ (v8 led #[j])with place:=SetTable.insertAt #[j] (SetTable.below #[j] i) i,dummies:=#[] }:SetTable),SetTable.below #[j] i)=_
   rw[hb];rfl
  refine⟨i,j,(h,x),e,by omega,.inr ⟨rfl,rfl⟩,?_⟩
  unfold layNew
  simp only[h3,hp]
  rfl
def D9(led:Bool)(es:Array (Int × Value))(t:SetTable):Prop:=(es = #[]∧t=v8 led #[])∨(∃ e j,j<8∧es = #[e]∧t=v8 led #[j])∨(∃ e1 e2 i k,i<k∧es = #[e1,e2]∧t=v8 led #[i,k])
theorem D9.fits{led:Bool}{es:Array (Int × Value)}{t:SetTable}(h:D9 led es t):t.fits es.size=true:=by
 rcases h with⟨rfl,rfl⟩|⟨e,j,_,rfl,rfl⟩|⟨e1,e2,i,k,_,rfl,rfl⟩<;>rfl
theorem D9.plain{led:Bool}{es:Array (Int × Value)}{t:SetTable}(h:D9 led es t):t.plain=true:=by
 rcases h with⟨rfl,rfl⟩|⟨e,j,_,rfl,rfl⟩|⟨e1,e2,i,k,_,rfl,rfl⟩<;>rfl
theorem D9.led{led:Bool}{es:Array (Int × Value)}{t:SetTable}(h:D9 led es t):t.led=led:=by
 rcases h with⟨rfl,rfl⟩|⟨e,j,_,rfl,rfl⟩|⟨e1,e2,i,k,_,rfl,rfl⟩<;>rfl
theorem D9.size{led:Bool}{es:Array (Int × Value)}{t:SetTable}(h:D9 led es t):es.size≤2:=by
 rcases h with⟨rfl,rfl⟩|⟨e,j,_,rfl,rfl⟩|⟨e1,e2,i,k,_,rfl,rfl⟩<;>simp
noncomputable def B5(b:Bool)(ord:Nat→Nat)(es:Array (Int × Value))(t:SetTable)(slot given:Nat):Option (Value × Nat) :=
 if b=true then((pickOrder ord es)[given]?).map fun e=>(e.2,slot)
 else match es[SetTable.below t.place slot]?,t.place[SetTable.below t.place slot]? with
  | some (_,x),some j=>some (x,j+1)
  | _,_=>none
theorem vh(ord:Nat→Nat):pickOrder ord (#[]:Array (Int × Value)) = #[]:=rfl
theorem vg(ord:Nat→Nat)(e:Int × Value):pickOrder ord #[e] = #[e]:=by
 unfold pickOrder
 show pickOrder.go ord 1 0 [e] #[]=_
 unfold pickOrder.go
 rw[show ord 0 % ([e]:List (Int × Value)).length=0 from Nat.mod_one _]
 rfl
theorem vd(ord:Nat→Nat)(e f:Int × Value):pickOrder ord #[e,f] = #[e,f]∨pickOrder ord #[e,f] = #[f,e]:=by
 unfold pickOrder
 show pickOrder.go ord 2 0 [e,f] #[]=_∨pickOrder.go ord 2 0 [e,f] #[]=_
 have h1:∀(x:Int × Value) (out:Array (Int × Value)),pickOrder.go ord 1 1 [x] out=out.push x:=fun x out=>by
  unfold pickOrder.go
  rw[show ord 1 % ([x]:List (Int × Value)).length=0 from Nat.mod_one _]
  rfl
 have hm:ord 0 % ([e,f]:List (Int × Value)).length=0∨ord 0 % ([e,f]:List (Int × Value)).length=1:=by
  show ord 0 % 2=0∨ord 0 % 2=1
  omega
 unfold pickOrder.go
 rcases hm with z|z
 ·rw[z]
  exact .inl (h1 f #[e])
 ·rw[z]
  exact .inr (h1 e #[f])
theorem tZ{led b:Bool}{es:Array (Int × Value)}{t:SetTable}(h:D9 led es t)(ord:Nat→Nat):∃ vs:List Value,vs.Perm (es.toList.map (·.2))∧∃ sl:Nat→Nat,sl 0=0 ∧
  (∀ i v,vs[i]? = some v→B5 b ord es t (sl i) i=some (v,sl (i+1)))∧B5 b ord es t (sl es.size) es.size=none:=by
 cases b with
 | true =>
  have key:∀ out:Array (Int × Value),pickOrder ord es=out→out.size=es.size→out.toList.Perm es.toList→∃ vs:List Value,vs.Perm (es.toList.map (·.2))∧∃ sl:Nat→Nat,sl 0=0 ∧
    (∀ i v,vs[i]? = some v→B5 true ord es t (sl i) i=some (v,sl (i+1)))∧B5 true ord es t (sl es.size) es.size=none:=fun out ho hz hp=>by
   refine⟨out.toList.map (·.2),hp.map _,fun _=>0,rfl,fun i v hv=>?_,?_⟩
   ·unfold B5
    rw[if_pos rfl,ho]
    rw[LY,Array.getElem?_toList]at hv
    cases e:out[i]? with
    | none=>rw[e]at hv;cases hv
    | some x=>rw[e]at hv;cases hv;rfl
   ·unfold B5
    rw[if_pos rfl,ho,Array.getElem?_eq_none (by omega)]
    rfl
  rcases h with⟨rfl,rfl⟩|⟨e,j,_,rfl,rfl⟩|⟨e1,e2,i,k,_,rfl,rfl⟩
  ·exact key _ (vh ord) rfl (.refl _)
  ·exact key _ (vg ord e) rfl (.refl _)
  ·rcases vd ord e1 e2 with q|q
   ·exact key _ q rfl (.refl _)
   ·exact key _ q rfl (.swap _ _ _)
 | false =>
  rcases h with⟨rfl,rfl⟩|⟨e,j,_,rfl,rfl⟩|⟨e1,e2,i,k,hik,rfl,rfl⟩
  ·exact⟨[],.refl _,fun _=>0,rfl,fun i v hv=>by simp at hv,rfl⟩
  ·refine⟨[e.2],.refl _,fun n=>if n=0 then 0 else j+1,rfl,fun i v hv=>?_,?_⟩
   ·match i,hv with
    | 0,hv =>
     cases hv
     show B5 false ord #[e] (v8 led #[j]) 0 0=some (e.2,j+1)
     unfold B5
     rw[if_neg LO]
     show(match (#[e]:Array (Int × Value))[SetTable.below #[j] 0]?,(#[j]:Array Nat)[SetTable.below #[j] 0]? with|some (_,x),some j=>some (x,j+1)|_,_=>none)=_
     rw[L7,if_neg (by omega)]
     rfl
    | i+1,hv=>simp at hv
   ·show B5 false ord #[e] (v8 led #[j]) (j+1) 1=none
    unfold B5
    rw[if_neg LO]
    show(match (#[e]:Array (Int × Value))[SetTable.below #[j] (j+1)]?,(#[j]:Array Nat)[SetTable.below #[j] (j+1)]? with|some (_,x),some j=>some (x,j+1)|_,_=>none)=_
    rw[L7,if_pos (by omega)]
    rfl
  ·have st:∀ sl n,B5 false ord #[e1,e2] (v8 led #[i,k]) sl n=(match (#[e1,e2]:Array (Int × Value))[SetTable.below #[i,k] sl]?,(#[i,k]:Array Nat)[SetTable.below #[i,k] sl]? with|some (_,x),some j=>some (x,j+1)|_,_=>none):=fun sl n=>by
    unfold B5
    rw[if_neg LO]
    rfl
   refine⟨[e1.2,e2.2],.refl _,fun n=>if n=0 then 0 else if n=1 then i+1 else k+1,rfl,fun n v hv=>?_,?_⟩
   ·match n,hv with
    | 0,hv =>
     cases hv
     show B5 false ord #[e1,e2] (v8 led #[i,k]) 0 0=some (e1.2,i+1)
     rw[st,bp _ _ _ hik,if_neg (by omega),if_neg (by omega)]
     rfl
    | 1,hv =>
     cases hv
     show B5 false ord #[e1,e2] (v8 led #[i,k]) (i+1) 1=some (e2.2,k+1)
     rw[st,bp _ _ _ hik,if_neg (by omega),if_pos (by omega)]
     rfl
    | n+2,hv=>simp at hv
   ·show B5 false ord #[e1,e2] (v8 led #[i,k]) (k+1) 2=none
    rw[st,bp _ _ _ hik,if_pos (by omega)]
    rfl
noncomputable def B1(w:World):Bool:=w.params.followText "set-order"
theorem K9:Slot "set_iterator" "__next__" "set_iterator.__next__" := .of (owner := "set_iterator") (n := "__next__")
 (by rw[typeLookup_type,builtinLookup_eq_fast];kernel_rfl) (by decide +kernel) (by decide +kernel) (by decide +kernel)
 (by first|exact .inl (by decide +kernel)|exact .inr (by decide +kernel)) (by rw[isSubtype_type];kernel_rfl)
theorem kY:entryFor table "set_iterator.__next__" = some Builtin.«set_iterator.__next__»:=entryFor_of_tree (by kernel_rfl)
theorem kR:Manifest.owners.lookup (String.ofList ['r','o','t','a','r','e','t','i','_','t','e','s'].reverse)=some Manifest.sig_set_iterator:=by kernel_rfl
theorem lA(a:Value):argsOk "set_iterator.__next__" ⟨[a],[]⟩:=by
 unfold argsOk
 rw[signature?_of (id := "set_iterator.__next__") (n:=['_','_','t','x','e','n','_','_']) (o:=['r','o','t','a','r','e','t','i','_','t','e','s']) (by kernel_rfl) kR]
 kernel_rfl
theorem kU:Slot "set_iterator" "__iter__" "set_iterator.__iter__" := .of (owner := "set_iterator") (n := "__iter__")
 (by rw[typeLookup_type,builtinLookup_eq_fast];kernel_rfl) (by decide +kernel) (by decide +kernel) (by decide +kernel)
 (by first|exact .inl (by decide +kernel)|exact .inr (by decide +kernel)) (by rw[isSubtype_type];kernel_rfl)
theorem uG(a:Value):argsOk "set_iterator.__iter__" ⟨[a],[]⟩:=by
 unfold argsOk
 rw[signature?_of (id := "set_iterator.__iter__") (n:=['_','_','r','e','t','i','_','_']) (o:=['r','o','t','a','r','e','t','i','_','t','e','s']) (by kernel_rfl) kR]
 kernel_rfl
theorem uy:entryFor table "set_iterator.__iter__" = some Builtin.«dict_keyiterator.__iter__»:=entryFor_alias (id' := "dict_keyiterator.__iter__")
 (by kernel_rfl) (by first|rfl|decide +kernel|(unfold String.splitOn;simp +decide [String.splitOnAux])) (by decide +kernel) (by kernel_rfl)
theorem qZ:entryFor table "set.__iter__" = some Builtin.«frozenset.__iter__»:=entryFor_alias (id' := "frozenset.__iter__")
 (by kernel_rfl) (by first|rfl|decide +kernel|(unfold String.splitOn;simp +decide [String.splitOnAux])) (by decide +kernel) (by kernel_rfl)
noncomputable def R1(slot i:Nat)(a:Addr)(n ep:Nat):Obj:={ cls:=.type "set_iterator",data:=.fields #[rawInt slot,rawInt i,.ref a,rawInt n,rawInt ep] }
def T4(h:Heap)(it:Addr)(slot i:Nat)(a:Addr)(n ep:Nat):Prop:=∃ o,h.get? it=some o∧o.cls = .type "set_iterator" ∧ o.data = .fields #[rawInt slot,rawInt i,.ref a,rawInt n,rawInt ep]
theorem T4.typeIs{s:Shared}{it a:Addr}{slot i n ep:Nat}(x:T4 s.heap it slot i a n ep):s.TypeIs (.ref it) "set_iterator" := let ⟨o,ho,hc,_⟩:=x;⟨o,ho,hc⟩
theorem T4.at{h h':Heap}{it a:Addr}{slot i n ep:Nat}(x:T4 h it slot i a n ep)(e:∀ o,h.get? it=some o→h'.get? it=some o):T4 h' it slot i a n ep:=let ⟨o,ho,r⟩:=x;⟨o,e _ ho,r⟩
def F9(b:Bool)(h:Heap)(a:Addr)(es:Array (Int × Value))(ep:Nat):Prop:=∃ o t,h.get? a=some o∧o.ExactSet∧o.data = .set es ep t∧D9 (!b) es t
theorem F9.at{b:Bool}{h h':Heap}{a:Addr}{es:Array (Int × Value)}{ep:Nat}(x:F9 b h a es ep)(e:∀ o,h.get? a=some o→h'.get? a=some o):F9 b h' a es ep:=let ⟨o,t,ho,r⟩:=x;⟨o,t,e _ ho,r⟩
theorem F9.typeIs{s:Shared}{b:Bool}{a:Addr}{es:Array (Int × Value)}{ep:Nat}(x:F9 b s.heap a es ep):s.TypeIs (.ref a) "set" := let ⟨o,_,ho,hc,_⟩:=x;⟨o,ho,hc.1⟩
section
variable {prog:Program} {w:World} {A:Around} {E:Value→Shared→Prop} {s:Shared}
theorem bG{a:Addr}{o:Obj}{es:Array (Int × Value)}{ep:Nat}{t:SetTable}{slot i:Nat}{Q:Option (Value × Nat)→Shared→Prop}(ho:s.heap.get? a=some o)(hd:o.data = .set es ep t)(hf:D9 (!(B1 w)) es t)
  (h:Q (B5 (B1 w) (w.params.setOrder a ep) es t slot i) s):wpAny (model prog w) A (setNext a slot i ep) Q E s:=by
 unfold setNext
 refine Lw (wpAny_setState_of ho hd hf.fits ?_)
 dsimp only
 unfold setsByText
 refine Lw (Lw (wpAny_askSetting (LA ?_)))
 show wpAny _ _ (if B1 w=true then _ else _) _ _ s
 have hl:=hf.led
 have hp:=hf.plain
 unfold B5 at h
 cases hb:B1 w with
 | true =>
  rw[hb,if_pos rfl]at h
  rw[if_pos rfl]
  rw[if_neg (by rw[bne_self_eq_false];exact LO)]
  unfold setWalk
  refine Lw (Lw (wpAny_setState_of ho hd hf.fits ?_))
  dsimp only
  unfold setsByText
  refine Lw (Lw (wpAny_askSetting (LA ?_)))
  show wpAny _ _ (if B1 w=true then _ else _) _ _ s
  rw[hb,if_pos rfl]
  exact Lw (wpAny_askSetting (LA (LA h)))
 | false =>
  rw[hb]at h hl
  rw[if_neg LO]at h ⊢
  obtain⟨m,pl,du,fi,le,mo,pn⟩:=t
  dsimp only at hl hp
  subst hl
  subst hp
  show wpAny _ _ (if (false && decide (es.size > 1))=true then _ else _) _ _ s
  rw[Nn,if_neg LO]
  refine Lw (wpAny_of_eq (a:=()) rfl ?_)
  exact LA h
theorem vM{it a:Addr}{slot sl2 i n ep:Nat}{es:Array (Int × Value)}{v:Value}{Q:Option Value→Shared→Prop}(hit:T4 s.heap it slot i a n ep)(hs:F9 (B1 w) s.heap a es ep)(hz:n=es.size)
  (hx:∀ t,s.heap.get? a=some t→∀ tb,t.data = .set es ep tb→B5 (B1 w) (w.params.setOrder a ep) es tb slot i=some (v,sl2))
  (hQ:∀ h' t,T4 h' it sl2 (i+1) a n ep→Heap.SameBut it s.heap h'→Q (some v) { s with heap:=h',toks:=t }):wpAny (model prog w) A (pyNext (.ref it)) Q E s:=by
 obtain⟨o,ho,hc,hd⟩:=id hit
 obtain⟨os,tb,hos,hex,hds,hf⟩:=id hs
 unfold pyNext
 refine Lw (wpAny_attempt (wpAny_callSpecial?_slot (name:=Str.ofString "__next__") hit.typeIs K9
  (wpAny_call_entry K9 hit.typeIs kY ?_ (lA _))))
 unfold Builtin.«set_iterator.__next__»
 refine Lw (wpAny_of_eq (a:=(Value.ref it,[])) rfl ?_)
 refine Lw (wpAny_fieldsOf ho hd ?_)
 show wpAny _ _ (setEntries a >>= _) _ _ s
 refine Lw (wpAny_setEntries_of hos hds hf.fits ?_)
 rw[if_neg (by rw[hz];simp)]
 show wpAny _ _ (setNext a (slot:Int).toNat (i:Int).toNat (ep:Int).toNat >>= _) _ _ s
 rw[Mp,Mp,Mp]
 refine Lw (bG hos hds hf ?_)
 rw[hx os hos tb hds]
 dsimp only
 refine Lw (wpAny_setField ho hd (by simp) ?_)
 have g1:=Mu (Obj.mapFields (·.setIfInBounds 0 (rawInt sl2))) ho (Obj.isFreed_of_fields (Obj.data_mapFields hd _))
 have d1:(Obj.mapFields (·.setIfInBounds 0 (rawInt sl2)) o).data = .fields (#[rawInt slot,rawInt i,.ref a,rawInt n,rawInt ep].setIfInBounds 0 (rawInt sl2)):=Obj.data_mapFields hd _
 refine Lw (wpAny_setField g1 d1 (by simp) ?_)
 refine LA ⟨v,rfl,LA (hQ _ _ ?_ ((Heap.SameBut.update ..).trans (Heap.SameBut.update ..)))⟩
 exact⟨_,Mu _ g1 (Obj.isFreed_of_fields (Obj.data_mapFields d1 _)),(Obj.cls_mapFields ..).trans ((Obj.cls_mapFields ..).trans hc),by
  rw[Obj.data_mapFields d1]
  simp⟩
theorem uq{it a:Addr}{slot n ep:Nat}{es:Array (Int × Value)}{Q:Option Value→Shared→Prop}(hh:A.handled=none)(hit:T4 s.heap it slot n a n ep)(hs:F9 (B1 w) s.heap a es ep)(hz:n=es.size)
  (hx:∀ t,s.heap.get? a=some t→∀ tb,t.data = .set es ep tb→B5 (B1 w) (w.params.setOrder a ep) es tb slot n=none)
  (hQ:∀ h',Heap.ExtBut it s.heap h'→Q none { s with heap:=h' }):wpAny (model prog w) A (pyNext (.ref it)) Q E s:=by
 obtain⟨o,ho,hc,hd⟩:=id hit
 obtain⟨os,tb,hos,hex,hds,hf⟩:=id hs
 unfold pyNext
 refine Lw (wpAny_attempt (wpAny_callSpecial?_slot (name:=Str.ofString "__next__") hit.typeIs K9
  (wpAny_call_entry K9 hit.typeIs kY ?_ (lA _))))
 unfold Builtin.«set_iterator.__next__»
 refine Lw (wpAny_of_eq (a:=(Value.ref it,[])) rfl ?_)
 refine Lw (wpAny_fieldsOf ho hd ?_)
 show wpAny _ _ (setEntries a >>= _) _ _ s
 refine Lw (wpAny_setEntries_of hos hds hf.fits ?_)
 rw[if_neg (by rw[hz];simp)]
 show wpAny _ _ (setNext a (slot:Int).toNat (n:Int).toNat (ep:Int).toNat >>= _) _ _ s
 rw[Mp,Mp,Mp]
 refine Lw (bG hos hds hf ?_)
 rw[hx os hos tb hds]
 dsimp only
 refine Lw (wpAny_setField ho hd (by simp) ?_)
 refine Lw ?_
 simp only[newExc,newTuple]
 refine Lw (wpAny_newObj_type ?_ (by size_fits))
 refine Lw (m:=firstArgMember _ _) (wpAny_of_eq (a:=Value.none) (by first|rfl|(simp only[firstArgMember];rfl)) ?_)
 refine wpAny_newObj_type ?_ (by size_fits)
 simp only[raiseNew]
 refine Lw (wpAny_handled ?_)
 rw[show A.in1.handled=none from hh]
 refine Lw (LA (wpAny_throw ?_))
 refine Lw (wpAny_isInstance (T := "StopIteration") (b:=true) ⟨_,LC _ rfl,rfl⟩ isSubtype_stop ?_)
 refine LA (hQ _ ((Heap.ExtBut.push (Heap.ExtBut.push ?_ _) _)))
 exact fun b o hb e=>by
  rw[MR _ _ (Ne.symm hb)];exact e
theorem uz{it a:Addr}{slot i n ep:Nat}{Q:Value→Shared→Prop}(hit:T4 s.heap it slot i a n ep)(h:Q (.ref it) s):wpAny (model prog w) A (pyIter (.ref it)) Q E s:=by
 refine wpAny_pyIter_slot hit.typeIs kU (wpAny_call_entry kU hit.typeIs uy ?_ (uG _))
 show wpAny _ _ (ret (.ref it)) _ _ s
 exact LA ⟨_,rfl, "set_iterator",_,hit.typeIs,K9.lookup,h⟩
theorem wb{a:Addr}{es:Array (Int × Value)}{ep:Nat}{Q:Value→Shared→Prop}(hs:F9 (B1 w) s.heap a es ep)
  (h:Q (.ref s.heap.objs.size) { s with heap:=s.heap.push (R1 0 0 a es.size ep) }):wpAny (model prog w) A (pyIter (.ref a)) Q E s:=by
 obtain⟨os,tb,hos,hex,hds,hf⟩:=id hs
 refine wpAny_pyIter_slot hs.typeIs F.slot_set_iter (wpAny_call_entry F.slot_set_iter hs.typeIs qZ ?_ (F.args_set_iter_1 _))
 unfold Builtin.«frozenset.__iter__»
 refine Lw (wpAny_of_eq (a:=a) rfl ?_)
 unfold Builtin.Frozenset.sizeOf
 refine Lw (Lw (wpAny_setEntries_of hos hds hf.fits (LA ?_)))
 unfold setDrawn
 refine Lw (Lw (wpAny_setState_of hos hds hf.fits ?_))
 dsimp only
 unfold setsByText
 refine Lw (Lw (wpAny_askSetting (LA ?_)))
 have hp:=hf.plain
 refine LA ?_
 obtain⟨m,pl,du,fi,le,mo,pn⟩:=tb
 dsimp only at hp
 subst hp
 show wpAny _ _ (if (!(B1 w) && (false && decide (es.size > 1)))=true then _ else _) _ _ s
 rw[Nn,MN,if_neg LO]
 refine Lw (LA ?_)
 refine Lw (wpAny_setEpoch_of hos hds hf.fits ?_)
 unfold newFields
 refine Lw (wpAny_newObj_type ?_)
 refine LA ⟨_,rfl, "set_iterator",_,⟨_,LC _ rfl,rfl⟩,K9.lookup,?_⟩
 exact h
theorem qR(hh:A.handled=none)(I a:Addr)(hne:a≠I)(es:Array (Int × Value))(ep:Nat)(vs:List Value)(sl:Nat→Nat)(tb:SetTable)
  (h1:∀ i v,vs[i]? = some v→B5 (B1 w) (w.params.setOrder a ep) es tb (sl i) i=some (v,sl (i+1))) (h2:B5 (B1 w) (w.params.setOrder a ep) es tb (sl es.size) es.size=none) (hf:D9 (!(B1 w)) es tb) (hl:vs.length=es.size) :
  Walks prog w A I [I,a] [I] es.size (fun i v=>vs[i]? = some v) (fun i h=>i≤es.size∧T4 h I (sl i) i a es.size ep∧∃ o,h.get? a=some o∧o.ExactSet∧o.data = .set es ep tb) where
 sub:=fun b hb=>by simp at hb;simp[hb]
 frame:=fun _ _ _ x hk=>⟨x.1,x.2.1.at fun o e=>hk I (by simp) o e,let ⟨o,ho,r⟩:=x.2.2;⟨o,hk a (by simp) o ho,r⟩⟩
 item:=fun i s Q E hi x hQ=>by
  obtain⟨_,hit,o,ho,hex,hd⟩:=x
  have hv:vs[i]? = some (vs[i]'(by omega)):=LU (by omega)
  refine vM (v:=vs[i]'(by omega)) (sl2:=sl (i+1)) hit ⟨o,tb,ho,hex,hd,hf⟩ rfl (fun t ht tb' hd'=>?_) fun h' t hit' hs'=>?_
  ·rw[ht]at ho
   cases ho
   rw[hd']at hd
   cases hd
   exact h1 i _ hv
  ·exact hQ _ h' t hv ⟨hi,hit',o,(hs'.2 a hne).trans ho,hex,hd⟩ fun b o hb eo=>hs'.extBut b o (fun h=>hb (by simp[h])) eo
 done:=fun s Q E x hQ=>by
  obtain⟨_,hit,o,ho,hex,hd⟩:=x
  refine uq hh hit ⟨o,tb,ho,hex,hd,hf⟩ rfl (fun t ht tb' hd'=>?_) fun h' he'=>hQ h' s.toks fun b o hb eo=>he' b o (fun h=>hb (by simp[h])) eo
  rw[ht]at ho
  cases ho
  rw[hd']at hd
  cases hd
  exact h2
 self:=fun _ _ _ _ x hQ=>uz x.2.1 hQ
theorem we{a:Addr}{Q:Bool→Shared→Prop}(hT:s.TypeIs (.ref a) "set")(h:Q false s):wpAny (model prog w) A (Builtin.List.listLengthHint (.ref a)) Q E s:=by
 unfold Builtin.List.listLengthHint
 refine Lw (wpAny_specialOf hT F.slot_set_len.lookup ?_)
 generalize hv:("set.__len__" : String)=nm
 wp_delta
 rw[show splitId nm=some ("set","__len__")by subst hv;decide +kernel]
 subst hv
 refine Lw (wpAny_isInstance (T := "set") (b:=true) hT (by rw[isSubtype_type];kernel_rfl) ?_)
 refine wpAny_ite_split (fun z=>absurd z (by decide)) (fun _=>?_)
 refine wpAny_ite_split (fun _=>?_) (fun z=>absurd (by decide +kernel) z)
 refine Lw (wpAny_typeOf hT ?_)
 exact LA h
theorem wF{R:Result→Shared→Prop}{a S:Addr}{rv:Value}{es:Array (Int × Value)}{ep c₀:Nat}(hh:A.handled=none)(hs:F9 (B1 w) s.heap a es ep)(hj:S≠a)
  (hS:s.heap.get? S=some { cls:=.type "list",data:=.seq #[] c₀ })
  (fin:∀ h' tk acc c1,(∀ b o,b≠S→s.heap.get? b=some o→h'.get? b=some o)→h'.get? S=some { cls:=.type "list",dict:=none,data:=.seq acc c1,slots:=#[] }→acc.toList.Perm (es.toList.map (·.2))→R (.ok (.ret rv)) { s with heap:=h',toks:=tk }) :
  wpAny (model prog w) A.in1 (Builtin.List.listExtendWith (.ref S) (.ref a) rv) (Iz prog w A R) (fun e s'=>R (.error e) s') s:=by
 obtain⟨os,tb,hos,hex,hds,hf⟩:=id hs
 obtain⟨vs,hp,sl,sl0,w1,w2⟩:=tZ (b:=B1 w) hf (w.params.setOrder a ep)
 have hl:vs.length=es.size:=by rw[hp.length_eq,LF,Array.length_toList]
 have hz:es.size≤sizeLine:=LL hf.size (by decide)
 have lta:a<s.heap.objs.size:=LH hos
 have ltS:S<s.heap.objs.size:=LH hS
 have V:=(qR (prog:=prog) (w:=w) (A:=A.in1) hh s.heap.objs.size a (LV lta) es ep vs sl tb w1 w2 hf hl).toS
 have nf:S∉[s.heap.objs.size,a]:=fun q=>by
  rcases LB.mp q with q|q
  ·exact LV ltS q
  ·exact hj (Mk.mp q)
 unfold Builtin.List.listExtendWith
 refine Lw (wpAny_typeOf hs.typeIs ?_)
 have n1:Builtin.List.listSameRef (.ref S) (.ref a)=false:=by simp[Builtin.List.listSameRef,hj]
 have n2:(Value.type "set" == Value.type "list")=false:=by decide
 have n3:(Value.type "set" == Value.type "tuple")=false:=by decide
 simp only[n1,n2,n3,Bool.or_false,Nc,if_false]
 refine Lw (wb hs (Lw (wpAny_holding (we (s:={ s with heap:=s.heap.push (R1 0 0 a es.size ep) }) (F9.typeIs (s:={ s with heap:=s.heap.push (R1 0 0 a es.size ep) }) (hs.at fun o e=>Lx _ e)) ?_))))
 have gS:(s.heap.push (R1 0 0 a es.size ep)).get? S=some { cls:=.type "list",data:=.seq #[] c₀ }:=Lx _ hS
 have ga:(s.heap.push (R1 0 0 a es.size ep)).get? a=some os:=Lx _ hos
 have gi:T4 (s.heap.push (R1 0 0 a es.size ep)) s.heap.objs.size (sl 0) 0 a es.size ep:=by
  rw[sl0]
  exact⟨_,LC _ rfl,rfl,rfl⟩
 have up:∀ b o,s.heap.get? b=some o→(s.heap.push (R1 0 0 a es.size ep)).get? b=some o:=fun b o e=>Lx _ e
 generalize s.heap.push (R1 0 0 a es.size ep)=h1 at *
 refine wpAny_ite_split (fun _=>?_) (fun z=>absurd (by decide +kernel) z)
 refine Lw (wpAny_rule ?_)
 refine Lw ?_
 show wpAny _ A.in1 (updateSeq S (·.push .none) >>= fun _=>updateSeq S (·.pop)) _ _ _
 refine Lw (wpAny_updateSeq gS rfl ?_)
 have g2:=Mu (Obj.mapSeq (·.push Value.none)) gS rfl
 refine wpAny_updateSeq (hz:=by seq_fits) g2 rfl ?_
 have g3:=Mu (Obj.mapSeq (·.pop)) g2 rfl
 have oth:∀ b o,b≠S→h1.get? b=some o→((h1.update S (Obj.mapSeq (·.push Value.none))).update S (Obj.mapSeq (·.pop))).get? b=some o :=
  fun b o q1 q2=>(MR _ _ (Ne.symm q1)).trans ((MR _ _ (Ne.symm q1)).trans q2)
 refine LA ⟨plainId_quiet F.plain_extend_loop _,?_⟩
 refine codeAny_extend_loopS V hz S nf rv es.size 0 _ #[] _ rfl (Ms _) ⟨Ms _,gi.at fun o e=>oth _ o (Ne.symm (LV ltS)) e,os,oth a os (Ne.symm hj) ga,hex,hds⟩ g3 (ItemsOf.nil _) fun s2 acc c1 mv g1 g2=>?_
 rw[Moved.eq_with mv]
 refine fin s2.heap s2.toks acc c1 (fun b o q1 q3=>mv.heap b o (fun q=>(LB.mp q).elim q1 fun q'=>LV (LH q3) (Mk.mp q')) (oth b o q1 (up b o q3))) g1 ?_
 have:acc.toList=vs:=by
  refine List.ext_getElem? fun i=>?_
  by_cases hi:i<es.size
  ·have hv:acc[i]? = some (acc[i]'(by rw[g2.1];exact hi)):=Array.getElem?_eq_getElem _
   rw[Array.getElem?_toList,g2.2 i _ hv,hv]
  ·rw[OP (by rw[Array.length_toList,g2.1];omega),OP (by omega)]
 rw[this]
 exact hp
theorem wd{R:Result→Shared→Prop}{a S:Addr}{es:Array (Int × Value)}{ep c₀:Nat}(hh:A.handled=none)(hs:F9 (B1 w) s.heap a es ep)(hj:S≠a)
  (hS:s.heap.get? S=some { cls:=.type "list",data:=.seq #[] c₀ })
  (fin:∀ h' tk acc c1,(∀ b o,b≠S→s.heap.get? b=some o→h'.get? b=some o)→h'.get? S=some { cls:=.type "list",dict:=none,data:=.seq acc c1,slots:=#[] }→acc.toList.Perm (es.toList.map (·.2))→R (.ok (.ret (.ref S))) { s with heap:=h',toks:=tk }) :
  codeAny (model prog w) A (.builtin "list.__iadd__" ⟨[.ref S,.ref a],[]⟩) R s:=by
 refine codeAny_builtin F.entry_list_iadd ?_
 rw[Around.under_plainId F.plain_list_iadd _]
 exact wF (rv:=.ref S) hh hs hj hS fin
theorem my{a:Addr}{es:Array (Int × Value)}{ep:Nat}{Q:List Value→Shared→Prop}(hh:A.handled=none)(hs:F9 (B1 w) s.heap a es ep)
  (fin:∀ h' tk vs,(∀ b o,s.heap.get? b=some o→h'.get? b=some o)→vs.Perm (es.toList.map (·.2))→Q vs { s with heap:=h',toks:=tk }):wpAny (model prog w) A (collect (.ref a)) Q E s:=by
 obtain⟨os,tb,hos,_⟩:=id hs
 have i2:s.heap.objs.size≠a:=Mm (LH hos)
 unfold collect
 refine Lw (wpAny_runValue (codeAny_builtin F.entry_proto_collect ?_));rw[Around.under_plainId F.plain_proto_collect _]
 show wpAny _ A.in1 (newList [] >>= fun S=>again (.builtin "list.__iadd__" ⟨[S,.ref a],[]⟩)) _ _ s
 have up:∀ b o,s.heap.get? b=some o→(s.heap.push { cls:=.type "list",data:=.seq ([]:List Value).toArray }).get? b=some o:=fun b o e=>Lx _ e
 have gS:(s.heap.push { cls:=.type "list",data:=.seq ([]:List Value).toArray }).get? s.heap.objs.size=some { cls:=.type "list",data:=.seq #[] }:=LC _ rfl
 refine Lw (wpAny_newObj_type (LA ⟨plainId_quiet F.plain_list_iadd _,wd (s:={ s with heap:=s.heap.push { cls:=.type "list",data:=.seq ([]:List Value).toArray } }) hh (hs.at fun o e=>up a o e) i2 gS fun h' tk acc c1 q1 q2 q3=>?_⟩))
 show wpAny _ A (load s.heap.objs.size >>= _) _ _ _
 refine Lw (wpAny_load q2 (LA (fin h' tk acc.toList (fun b o e=>q1 b o (LV (LH e)) (up b o e)) q3)))
end
noncomputable def cU(es:Array (Int × Value)):List Value:=es.toList.map (·.2)
def gL(es:Array (Int × Value))(ms:List Int):Prop:=IntsAre (cU es) ms∧∀ e∈es.toList,∃ m t,e=(hashInt m,Value.int m t)
theorem gy:∀{vs:List Value} {ms:List Int} {k:Int} {t:Tok},IntsAre vs ms→IntsAre (vs++[.int k t]) (ms++[k])
 | _,_,_,_,.nil=>.cons _ _ .nil
 | _,_,_,_,.cons n t hr=>.cons n t (gy hr)
theorem gz{vs ws:List Value}(h:vs.Perm ws):∀{ms:List Int},IntsAre ws ms→∃ ms',IntsAre vs ms'∧ms'.Perm ms:=by
 induction h with
 | nil=>exact fun h=>⟨_,h,.refl _⟩
 | cons x p ih =>
  intro ms h
  cases h with
  | cons n t hr =>
   obtain⟨ms',a,b⟩:=ih hr
   exact⟨n :: ms',.cons n t a,b.cons n⟩
 | swap x y l =>
  intro ms h
  cases h with
  | cons n t hr =>
   cases hr with
   | cons m u hr=>exact⟨m :: n :: _,.cons m u (.cons n t hr),.swap _ _ _⟩
 | trans p q ih1 ih2 =>
  intro ms h
  obtain⟨m1,a,b⟩:=ih2 h
  obtain⟨m2,c,d⟩:=ih1 a
  exact⟨m2,c,d.trans b⟩
section
variable {prog:Program} {w:World} {A:Around} {E:Value→Shared→Prop} {s:Shared}
theorem gL.elems{es:Array (Int × Value)}{ms:List Int}(h:gL es ms):ElemsOf (intKind prog w) es.toList:=fun e he=>by
 obtain⟨m,t,rfl⟩:=h.2 e he
 exact⟨⟨m,intKind_is _ _ _ _,rfl⟩,rfl⟩
theorem gA{k:Int}:∀{l:List (Int × Value)} {ms:List Int},IntsAre (l.map (·.2)) ms→((l.findIdx? fun e=>(intKind prog w).is k e.2).isSome=true↔k∈ms)
 | [],ms,h=>by cases h;simp
 | (hh,x) :: l,ms,h=>by
  cases h with
  | cons n t hr =>
   have ih:=gA (k:=k) hr
   rw[List.findIdx?_cons]
   have e:(intKind prog w).is k (Value.int n t)=(n == k):=by
    show Value.isInt k (Value.int n t)=_
    unfold Value.isInt
    rfl
   show(if (intKind prog w).is k (Value.int n t)=true then some 0 else _).isSome=true↔_
   rw[e]
   by_cases c:n=k
   ·subst c;simp
   ·have:(n == k)=false:=by simpa using c
    rw[this,if_neg LO,Option.isSome_map,ih,LB]
    exact⟨.inr,fun z=>z.elim (fun q=>absurd q.symm c) id⟩
theorem AX{a:Addr}{es:Array (Int × Value)}{ep:Nat}{ms:List Int}{k:Int}{tk:Tok}{Q:Bool→Shared→Prop}(hs:F9 (B1 w) s.heap a es ep)(hi:gL es ms)(h1:es.size≤1)
  (fin:∀ b h' es' ep' ms',Heap.SameBut a s.heap h'→F9 (B1 w) h' a es' ep'→gL es' ms'→ms'.Perm (if k∈ms then ms else ms++[k])→Q b { s with heap:=h' }) :
  wpAny (model prog w) A (setAddHashed a (.int k tk) (hashInt k)) Q E s:=by
 obtain⟨o,t,ho,hex,hd,hf⟩:=id hs
 have hel:ElemsOf (intKind prog w) es.toList:=hi.elems
 have room:es.size<scanBound:=LR h1 (by decide)
 unfold setAddHashed setAddHashedIn
 refine wpAny_holding (Lw (wpAny_setState_of ho hd hf.fits ?_))
 show wpAny _ _ (if byScan (Value.int k tk) es=true then _ else _) _ _ s
 rw[byScan_of rfl room hel,if_pos rfl]
 unfold setAddByScan
 refine Lw (Lw (wpAny_rule (Lw (wpAny_setScan_of (knd:=intKind prog w) (k:=k) (intKind_is _ _ _ _) ho hd hf.fits hel ?_))))
 have fi:=gA (prog:=prog) (w:=w) (k:=k) hi.1
 cases hr:List.findIdx? (fun e=>(intKind prog w).is k e.2) es.toList with
 | some j =>
  rw[hr]at fi
  have hk:k∈ms:=fi.mp rfl
  refine LA (LA ?_)
  have:=fin false s.heap es ep ms (Heap.SameBut.refl a s.heap) hs hi (by rw[if_pos hk])
  exact this
 | none =>
  rw[hr]at fi
  have hk:¬ k∈ms:=fun z=>by have:=fi.mpr z;cases this
  have lay:∃ es' t' ,layNew t es (hashInt k) (Value.int k tk)=(es',t',false,false)∧D9 (!(B1 w)) es' t'∧es'.toList.Perm (es.toList++[(hashInt k,Value.int k tk)])∧t'.tooFull=false:=by
   rcases hf with⟨rfl,rfl⟩|⟨e,j,hj,rfl,rfl⟩|⟨e1,e2,i,k,_,rfl,rfl⟩
   ·obtain⟨i,i8,e⟩:=Ap (!(B1 w)) (hashInt k) (Value.int k tk)
    exact⟨_,_,e,.inr (.inl ⟨_,i,i8,rfl,rfl⟩),.refl _,rfl⟩
   ·obtain⟨i,k',e1,e2,lt,he,q⟩:=Ao (!(B1 w)) j hj e (hashInt k) (Value.int k tk)
    refine⟨_,_,q,.inr (.inr ⟨e1,e2,i,k',lt,rfl,rfl⟩),?_,rfl⟩
    rcases he with⟨rfl,rfl⟩|⟨rfl,rfl⟩
    ·exact .refl _
    ·exact .swap _ _ _
   ·simp at h1
  obtain⟨es',t',el,f',p',tf⟩:=lay
  have hpl:=f'.plain
  have hsz:es'.size≤sizeLine:=LL f'.size (by decide)
  dsimp only
  rw[el]
  dsimp only
  refine Lw (wpAny_of_eq (a:=()) rfl ?_)
  rw[if_pos hpl,hashByValue_scannable 8 rfl]
  refine Lw (LA ?_)
  show wpAny _ _ (storeSet a es' t' >>= _) _ _ s
  refine Lw (wpAny_storeSet_of ho hd ?_ hsz)
  show wpAny _ _ (if (!false && t'.tooFull)=true then _ else _) _ _ _
  rw[tf,MN,if_neg LO]
  refine LA (LA ?_)
  have g:(s.heap.update a (Obj.putSet es' t')).get? a=some { o with data:=.set es' (ep+1) t' }:=by
   have:=Mu (Obj.putSet es' t') ho (by rw[putSet_of es' t' hd];rfl)
   rw[putSet_of es' t' hd]at this
   exact this
  have hp2:(cU es').Perm (cU es++[Value.int k tk]):=by
   have:=p'.map (·.2)
   rw[LX]at this
   exact this
  obtain⟨ms',m1,m2⟩:∃ ms',IntsAre (cU es') ms'∧ms'.Perm (ms++[k]):=gz hp2 (gy hi.1)
  refine fin true _ es' (ep+1) ms' (Heap.SameBut.update ..) ⟨_,t',g,hex,rfl,f'⟩ ⟨m1,fun e he=>?_⟩ (by rw[if_neg hk];exact m2)
  rcases Md.mp (p'.mem_iff.mp he)with z|z
  ·exact hi.2 e z
  ·rw[Mk]at z
   exact⟨k,tk,z⟩
end
section
variable {prog:Program} {w:World} {A:Around} {E:Value→Shared→Prop} {s:Shared}
noncomputable def N5(b:Bool):Obj:={ cls:=.type "set",dict:=none,data:=.set #[] 0 (v8 (!b) #[]) }
theorem Ai(x:Value){Q:Value→Shared→Prop}(fin:Q (.ref s.heap.objs.size) { s with heap:=s.heap.push (N5 (B1 w)) }) :
  codeAny (model prog w) A (.call (.builtin "set.__new__") ⟨[.type "set",x],[]⟩) (wants Q E) s:=by
 refine codeAny_of_tree ?_
 show wpAny _ A.in1 (checkBuiltinCall "set.__new__" ⟨[.type "set",x],[]⟩ >>= fun _=>again (.builtin "set.__new__" ⟨[.type "set",x],[]⟩)) _ _ s
 refine Lw (wpAny_of_eq (F.newCall_set_1 x) (LA ⟨plainId_quiet F.plain_set_new _,?_⟩))
 refine codeAny_builtin F.entry_set_new ?_
 rw[Around.under_plainId F.plain_set_new _]
 have sub:=sub_set_self
 unfold Builtin.«set.__new__» Builtin.Frozenset.newClass
 obtain⟨hp,g,d,tk,os⟩:=s
 dsimp only
 wp_walk
 refine wpAny_askSetting (LA ?_)
 dsimp only
 simp only[newObj]
 exact Lw (wpAny_alloc (LA (LA fin)))
variable {R:Result→Shared→Prop} {I:Addr} {fp wr:List Addr} {G:Array GenState→Array GenState→Prop} {n:Nat} {P:Nat→Value→Prop} {St:Nat→Shared→Prop}
def bN(w:World)(h:Heap)(S:Addr)(val:Nat→Int)(i:Nat):Prop:=∃ es ep ms,F9 (B1 w) h S es ep∧gL es ms∧ms.Perm (firstMet val i)
theorem bN.at{h h':Heap}{S:Addr}{val:Nat→Int}{i:Nat}(x:bN w h S val i)(e:∀ o,h.get? S=some o→h'.get? S=some o):bN w h' S val i:=let ⟨es,ep,ms,f,r⟩:=x;⟨es,ep,ms,f.at e,r⟩
theorem vO(V:WalksS prog w A.in1 I fp wr G n P St)(S:Addr)(out:S∉fp)(val:Nat→Int)(isv:∀ i v,P i v→∃ t,v = .int (val i) t)(h2:n≤2) :
  ∀(k i:Nat) (s:Shared),n - i=k→i≤n→St i s→bN w s.heap S val i→(∀ s',Moved (S :: wr) G s s'→bN w s'.heap S val n→R (.ok (.ret .none)) s') →
   codeAny (model prog w) A (.builtin "set.update.loop" ⟨[.ref S,.ref I],[]⟩) R s:=by
 have nw:S∉wr:=fun z=>out (V.sub _ z)
 have sub:∀ b∈wr,b∈S :: wr:=fun b z=>.tail _ z
 intro k
 induction k with
 | zero =>
  intro i s e1 e2 st fw r
  obtain rfl:i=n:=by omega
  refine codeAny_builtin PyProof.Rows.F.entry_set_update_loop ?_
  rw[Around.under_plainId PyProof.Rows.F.plain_set_update_loop _]
  show wpAny _ A.in1 (pyNext (.ref I) >>= _) _ _ s
  refine Lw (V.done s _ _ st fun s' mv=>?_)
  exact LA (r s' (mv.mono sub) (fw.at fun o e=>mv.heap S _ nw e))
 | succ k ih =>
  intro i s e1 e2 st fw r
  have lt:i<n:=by omega
  refine codeAny_builtin PyProof.Rows.F.entry_set_update_loop ?_
  rw[Around.under_plainId PyProof.Rows.F.plain_set_update_loop _]
  show wpAny _ A.in1 (pyNext (.ref I) >>= _) _ _ s
  refine Lw (V.item i s _ _ lt st fun v s' pv st' mv=>?_)
  obtain⟨t,rfl⟩:=isv i v pv
  obtain⟨es,ep,ms,fw1,fw2,fw3⟩:bN w s'.heap S val i:=fw.at fun o e=>mv.heap S _ nw e
  show wpAny _ A.in1 (holding [Value.int (val i) t] (setAdd S (.int (val i) t)) >>= _) _ _ s'
  refine Lw (wpAny_holding ?_)
  unfold setAdd
  refine wpAny_holding (Lw ((intKind prog w).pyHash (k:=val i) (intKind_is _ _ _ _) ?_))
  have len:es.size=ms.length:=by
   have:=fw2.1.length
   unfold cU at this
   rw[LF,Array.length_toList]at this
   exact this
  have few:es.size≤1:=by
   have a1:=firstMet_length_le val i
   have a2:=fw3.length_eq
   omega
  refine AX (s:={ s' with toks:=s'.toks+1 }) fw1 fw2 few fun b h' es' ep' ms' sb g1 g2 g3=>?_
  have g4:ms'.Perm (firstMet val (i+1)):=by
   rw[firstMet_succ]
   unfold step_dedup
   refine g3.trans ?_
   by_cases c:val i∈ms
   ·have c2:(firstMet val i).any (· == val i)=true:=OA.mpr ⟨val i,fw3.mem_iff.mp c,by simp⟩
    rw[if_pos c,if_pos c2]
    exact fw3
   ·have c2:¬ (firstMet val i).any (· == val i)=true:=fun z=>by
     obtain⟨y,y1,y2⟩:=OA.mp z
     rw[beq_iff_eq]at y2
     subst y2
     exact c (fw3.mem_iff.mpr y1)
    rw[if_neg c,if_neg c2]
    exact fw3.append_right _
  refine LA ⟨plainId_quiet PyProof.Rows.F.plain_set_update_loop _,ih (i+1) _ (by omega) lt (V.frame _ s' _ _ st' (ND _) fun b hb o e=>?_) ⟨es',ep',ms',g1,g2,g4⟩ fun s2 mv2 f2=>?_⟩
  ·rw[sb.2 b fun z=>out (by rw[← z];exact hb)]
   exact e
  ·refine r s2 (Moved.trans V.gtrans ((mv.mono sub).then_heap (ND _) fun b o hb e=>?_) mv2) f2
   rw[sb.2 b fun z=>hb (by rw[z];exact LI)]
   exact e
set_option maxHeartbeats 3200000 in
theorem jI{l:Addr}{items:Array Value}{ns:List Int}{Q:Value→Shared→Prop}(hh:A.handled=none)(hl:s.heap.IsList l items)(hi:IntsAre items.toList ns)(h2:items.size≤2)
  (fin:∀ h' tk,bN w h' s.heap.objs.size (fun i=>ns.getD i 0) items.size→(∀ b o,s.heap.get? b=some o→h'.get? b=some o)→Q (.ref s.heap.objs.size) { s with heap:=h',toks:=tk }) :
  wpAny (model prog w) A (call (.type "set") [.ref l]) Q E s:=by
 obtain⟨c,tl,hmro⟩:=F.called_set.mro
 have hmade:=F.called_set.made
 have hsub:=F.called_set.sub
 refine wpAny_call (codeAny_of_tree ?_)
 show wpAny _ _ (callAny (.type "set") _) _ _ _
 refine LA ⟨Code.quiet_builtin _ (by decide +kernel),codeAny_builtin F.entry_type_call ?_⟩
 rw[Around.under_plain (weight_type_call_type "set" [.ref l] []) rfl]
 have h1:=F.called_set.notType
 have h2':=F.called_set.canCreate
 have hct:=F.typeCall_set_1 (.ref l)
 repeat(any_goals (first|assumption|wp_step))
 refine codeAny_mono (Ai (.ref l) (E:=E) (Q:=fun v z=>v = .ref s.heap.objs.size∧z = { s with heap:=s.heap.push (N5 (B1 w)) }) ⟨rfl,rfl⟩) fun r z hr=>?_
 cases r with
 | error e=>exact hr
 | ok fl =>
 cases fl with
 | ret obj =>
  obtain⟨rfl,rfl⟩:=hr
  have gS:(s.heap.push (N5 (B1 w))).get? s.heap.objs.size=some (N5 (B1 w)):=LC _ rfl
  have hT:Shared.TypeIs { s with heap:=s.heap.push (N5 (B1 w)) } (.ref s.heap.objs.size) "set" := ⟨_,gS,rfl⟩
  have up:∀ b o,s.heap.get? b=some o→(s.heap.push (N5 (B1 w))).get? b=some o:=fun b o e=>Lx _ e
  have sz:(s.heap.push (N5 (B1 w))).objs.size=s.heap.objs.size+1:=size_push' _ _
  have hli:=F.called_set.init.lookup
  have hbi:=F.called_set.init.bind (.ref s.heap.objs.size)
  repeat(any_goals (first|assumption|wp_step))
  refine codeAny_mono (codeAny_call_builtin (R:=wants (fun r z=>r = .none∧∃ h' tk,z = { s with heap:=h',toks:=tk }∧bN w h' s.heap.objs.size (fun i=>ns.getD i 0) items.size∧∀ b o,s.heap.get? b=some o→h'.get? b=some o) E)
   F.called_set.init.plain F.entry_set_init (check_set_init_1 hT ?_)) fun r z hr=>?_
  ·have ltl:l<s.heap.objs.size:=let ⟨o,e,_⟩:=hl;LH e
   have hl1:(s.heap.push (N5 (B1 w))).IsList l items:=hl.at fun o e=>up l o e
   obtain⟨ol,hol,hcl,nl,hdl⟩:=id hl1
   have hTl:Shared.TypeIs { s with heap:=s.heap.push (N5 (B1 w)) } (.ref l) "list" := ⟨_,hol,hcl⟩
   have y1:=F.sub_list_set
   have y2:=F.sub_list_frozenset
   have y3:(Value.type "list" == Value.type "dict")=false:=by decide
   obtain⟨ocls,odict,odata,oslots⟩:=ol
   dsimp only at hcl hdl
   subst hcl
   subst hdl
   unfold Builtin.«set.__init__» noKeywords Builtin.Frozenset.updateFrom
   generalize hPI:pyIter=PI
   wp_walk
   subst hPI
   refine wpAny_pyIter_list hl1 (Lw (wpAny_runValue ?_))
   have h3:A.in1.in1.in1.handled=none:=by simp[hh]
   refine vO ((Walks.list h3 _ l (by rw[sz];exact LV (Ol ltl)) items).toS) s.heap.objs.size ?out (fun i=>ns.getD i 0) (fun i v hv=>hi.int_at i v (by rw[Array.getElem?_toList];exact hv)) h2 (items.size - 0) 0 _ (by omega) (Ms _)
    ⟨⟨_,LC _ rfl,rfl,rfl⟩,hl1.push _⟩ ?start ?fin
   case out =>
    rw[sz]
    simp only[LB,LK,or_false,not_or]
    exact⟨LV (Ow _),Mm ltl⟩
   case start=>exact⟨#[],0,[],⟨_,_,Lx _ gS,⟨rfl,rfl,rfl⟩,rfl,.inl ⟨rfl,rfl⟩⟩,⟨.nil,fun e he=>by simp at he⟩,.refl _⟩
   case fin =>
    intro s' mv fw
    obtain⟨h',g',d',tk',os'⟩:=s'
    have eg:g'=s.gens:=mv.gens
    have ed:d'=s.drawn:=mv.drawn
    have eo:os'=s.os:=mv.os
    subst eg;subst ed;subst eo
    show wpAny _ _ _ _ _ _
    refine LA ?_
    show wpAny _ _ (ret Value.none) _ _ _
    refine LA ⟨rfl,h',tk',rfl,fw,fun b o e=>?_⟩
    have lb:=LH e
    refine mv.heap b o ?_ (Lx _ (up b o e))
    rw[sz]
    simp only[LB,LK,or_false,not_or]
    exact⟨LV lb,LV (Ol lb)⟩
  ·cases r with
   | error e=>exact hr
   | ok fl2 =>
   cases fl2 with
   | ret r =>
    obtain⟨rfl,h',tk,rfl,f1,f2⟩:=hr
    repeat(any_goals (first|assumption|wp_step))
    exact fin _ _ f1 f2
   | _=>exact hr.elim
 | _=>exact hr.elim
end
noncomputable def sd2:List Int→List Int
 | [a,b]=>if a=b then[a]else if a<b then[a,b]else[b,a]
 | ns=>ns
theorem Di{ns ms ks:List Int}(h2:ns.length≤2)(p:ms.Perm (firstMet (fun i=>ns.getD i 0) ns.length))(q:ks.Perm ms)(r:ks.Pairwise (· ≤ ·)):ks=sd2 ns:=by
 have p:=q.trans p
 match ns,h2 with
 | [],_=>exact p.eq_nil
 | [a],_ =>
  have:ks.Perm [a]:=p
  exact Pc.mp this
 | [a,b],_ =>
  have e:firstMet (fun i=>([a,b]:List Int).getD i 0) ([a,b]:List Int).length=if a=b then[a]else[a,b]:=by
   show step_dedup (step_dedup [] a) b=_
   show(if ([a]:List Int).any (· == b)=true then[a]else[a]++[b])=_
   by_cases c:a=b
   ·rw[if_pos c,if_pos (by simp[c])]
   ·rw[if_neg c,if_neg (by simpa using c)];rfl
  rw[e]at p
  show ks=if a=b then[a]else if a<b then[a,b]else[b,a]
  by_cases c:a=b
  ·rw[if_pos c]at p ⊢
   exact Pc.mp p
  ·rw[if_neg c]at p ⊢
   have l:=p.length_eq
   match ks,l with
   | [x,y],_ =>
    have m1:x∈[a,b]:=p.mem_iff.mp (by simp)
    have m2:y∈[a,b]:=p.mem_iff.mp (by simp)
    have m3:a∈[x,y]:=p.mem_iff.mpr (by simp)
    have m4:b∈[x,y]:=p.mem_iff.mpr (by simp)
    have le:x≤y:=by
     have:=List.pairwise_cons.mp r
     exact this.1 y (by simp)
    simp only[LB,LK,or_false]at m1 m2 m3 m4
    by_cases d:a<b
    ·rw[if_pos d]
     have:x=a:=by omega
     have:y=b:=by omega
     subst x;subst y;rfl
    ·rw[if_neg d]
     have:x=b:=by omega
     have:y=a:=by omega
     subst x;subst y;rfl
section
variable {prog:Program} {w:World} {A:Around} {E:Value→Shared→Prop} {s:Shared}
theorem kS{a:Addr}{es:Array (Int × Value)}{ep:Nat}{ms:List Int}{Q:Value→Shared→Prop}(hh:A.handled=none)(hs:F9 (B1 w) s.heap a es ep)(hi:gL es ms)
  (fin:∀ h' tk p out c ks,(∀ b o,s.heap.get? b=some o→h'.get? b=some o)→s.heap.get? p=none→h'.get? p=some (seqObj "list" out c)→IntsAre out.toList ks→ks.Perm ms→ks.Pairwise (· ≤ ·)→Q (.ref p) { s with heap:=h',toks:=tk }) :
  wpAny (model prog w) A (call (.builtin "sorted") [.ref a]) Q E s:=by
 obtain⟨o1,t1,_,_,_,hf⟩:=id hs
 refine Calls.call_function_entry kind_sorted plain_sorted entry_sorted (args_sorted1 _) ?_
 unfold Builtin.«sorted»
 refine Lw (m:=checkCount "sorted" 1 1 _) (LA (Lw (my (A:=A.in1) hh hs fun h1 tk vs k1 p1=>?_)))
 obtain⟨ns,i1,i2⟩:=gz p1 hi.1
 have len:vs.length≤2:=by
  rw[p1.length_eq,LF,Array.length_toList]
  exact hf.size
 refine Lw (wpAny_newList ?_ (LL len (by decide)))
 have at1:(h1.push (seqObj "list" vs.toArray 0)).get? h1.objs.size=some (seqObj "list" vs.toArray 0):=LC _ rfl
 have up:∀ b o,s.heap.get? b=some o→b≠h1.objs.size∧(h1.push (seqObj "list" vs.toArray 0)).get? b=some o:=fun b o e=>⟨LV (LH (k1 b o e)),Lx _ (k1 b o e)⟩
 show wpAny _ _ _ _ _ { s with heap:=h1.push (seqObj "list" vs.toArray 0),toks:=tk }
 generalize hp:h1.objs.size=p at *
 generalize h1.push (seqObj "list" vs.toArray 0)=h2 at *
 refine Lw (wpAny_holding (wpAny_call_entry (s:={ s with heap:=h2,toks:=tk }) slot_list_sort ⟨_,at1,rfl⟩ entry_list_sort (list_sort_tree (s:={ s with heap:=h2,toks:=tk }) at1 i1 (by omega) fun out ks a1 a2 a3=>⟨_,rfl,?_⟩) (args_list_sort _)))
 refine LA ⟨_,rfl,?_⟩
 obtain⟨e0,b0⟩:∃ n,(h2.update p (Obj.mapSeq fun _=>#[])).get? p=some (seqObj "list" #[] n):=⟨_,get?_update_seq at1 _⟩
 refine fin (sortedHeap h2 p vs out) tk p out _ ks (fun b o e=>?_) ?_ (get?_update_seq (Lx _ (Lx _ b0)) _) a1 (a2.trans i2) a3
 ·obtain⟨nb,eb⟩:=up b o e
  unfold sortedHeap
  rw[Na _ _ _ _ nb]
  refine Lx _ (Lx _ ?_)
  rw[Na _ _ _ _ nb]
  exact eb
 ·cases e:s.heap.get? p with
  | none=>rfl
  | some o=>exact absurd rfl (up p o e).1
end
theorem gx:∀{vs:List Value} {ns:List Int},h8 (ns.map V.int) vs→IntsAre vs ns
 | [],[],_=>.nil
 | _ :: _,[],h=>by cases h
 | [],_ :: _,h=>by cases h
 | _ :: _,n :: ns,h=>by
  cases h with
  | cons r t =>
   obtain⟨tk,rfl⟩:=r
   exact .cons n tk (gx t)
def tSs(K:Ly)(ta:TA):TE:=fun σ H Q=>ta σ H fun vs H1=>∃ l ns,vs=[.ref l]∧SqL K H1 l (ns.map V.int)∧ns.length≤2∧∀ p,H1 p=none→Q (.ref p) (upd H1 p (.lst ((sd2 ns).map V.int)))
theorem yV{ns:List Int}(h:ns.length≤2):(sd2 ns).length≤2:=by
 match ns,h with
 | [],_=>decide
 | [a],_=>exact ND 1
 | [a,b],_ =>
  show(if a=b then[a]else if a<b then[a,b]else[b,a]).length≤2
  by_cases c:a=b
  ·rw[if_pos c];exact ND 1
  ·rw[if_neg c]
   by_cases d:a<b
   ·rw[if_pos d];exact LQ 2
   ·rw[if_neg d];exact LQ 2
theorem nO{X:Cx}{a:Expr}{ta:TA}{p1 p2 pos1 pos2:Pos}(hc:X.calm=true)(g1:Gl X "sorted")(n1:X.mg "sorted" = none)(v1:bootBuiltins "sorted" = some (.builtin "sorted"))(g2:Gl X "set")(n2:X.mg "set" = none)(v2:bootBuiltins "set" = some (.type "set"))(ha:PA X [a] ta)
  (hs:starEach [a] X.env=[(false,eval a X.env)]:=by rfl) (hs3:starEach [.Call (.Name "set" p2) [a] [] pos2] X.env=[(false,eval (.Call (.Name "set" p2) [a] [] pos2) X.env)]:=by rfl) :
  PE X (.Call (.Name "sorted" p1) [.Call (.Name "set" p2) [a] [] pos2] [] pos1) (tSs X.K ta):=by
 intro pins s σ H Q I h
 refine wpAny_Call_Name_kw (K2 I g1 n1 v1 ?_ (by decide) (by decide))
 refine PyProof.Rows.callWith_builtin1 ?_ (by rw[hs3];rfl) (by rfl)
 rw[hs3]
 show wpAny _ _ (spliced ((false,eval (.Call (.Name "set" p2) [a] [] pos2) X.env) :: backTo pos1 (starEach [] X.env))) _ _ s
 refine Calls.spliced_cons ?_
 refine wpAny_Call_Name_kw (K2 I g2 n2 v2 (PyProof.Rows.callWith_type1 (thn (ha pos2 pins s σ H _ I h) fun us s1 ⟨vs,H1,I1,r1,q1⟩=>?_) (by rw[hs];rfl) (by rfl)) (by decide) (by decide))
 obtain⟨l,ns,rfl,hl,h2,q⟩:=q1
 obtain⟨u,rfl,ru⟩:=h8.one r1
 obtain rfl:u=Value.ref l:=ru
 obtain⟨its,rl,⟨ol,nl,hl1,hl2,_,hl3⟩,hz⟩:=I1.list hl
 have ii:=gx rl
 have il:=ii.length
 refine jI (items:=its.toArray) (ns:=ns) (I1.ok.hd hc) ⟨ol,hl1,hl2,nl,hl3⟩ (by simpa using ii) (by rw[LN];omega) fun h1 tk fw k1=>?_
 rw[show its.toArray.size=ns.length from LN.trans il]at fw
 obtain⟨es,ep,ms,f1,f2,f3⟩:=fw
 refine Calls.spliced_nil ?_
 refine kS (s:={ s1 with heap:=h1,toks:=tk }) (I1.ok.hd hc) f1 f2 fun h' tk' p out c ks kk hn hp o1 o2 o3=>?_
 have k2:∀ b o,s1.heap.get? b=some o→h'.get? b=some o:=fun b o e=>kk b o (k1 b o e)
 have pn:s1.heap.get? p=none:=by
  cases e:s1.heap.get? p with
  | none=>rfl
  | some o =>
   have:=k1 p o e
   have hn':h1.get? p=none:=hn
   rw[hn']at this
   cases this
 obtain rfl:=Di h2 f3 o2 o3
 obtain⟨m,F⟩:=I1.fr
 have nL:p≠X.env.locals:=fun z=>by
  obtain⟨o2,es,ep,e3,_⟩:=F.ns
  rw[z,e3]at pn
  cases pn
 have I2:Inv X pins σ (upd H1 p (.lst ((sd2 ns).map V.int))) { s1 with heap:=h',toks:=tk' }:=I1.laidL (fun b o _ e=>k2 b o e) (fun m hm=>hm.at' fun o e=>k2 _ o e) pn nL (fun _ z=>nomatch z) ⟨by rw[LF];exact LL (yV h2) (by decide),out.toList,c,aU o1,by rw[Array.toArray_toList];exact hp⟩
 refine⟨.ref p,_,I2,rfl,q p ?_⟩
 cases e:H1 p with
 | none=>rfl
 | some u =>
  obtain⟨x,hx⟩:=dB (I1.hok p u e)
  rw[pn]at hx
  cases hx
end L2
namespace DL
open PySem PySem.Spec L2
open PyProof.Rows hiding St
theorem me{K:Ly}{H:Hp}:∀{ns:List Int} {xs:List V},HasL K H xs (ns.map D.int)→xs=ns.map V.int
 | [],_,h=>by cases h;rfl
 | n :: ns,_,h=>by
  cases h with
  | cons a t =>
   cases a
   rw[me t]
   rfl
theorem lZ{K:Ly}{H:Hp}:∀(ns:List Int),HasL K H (ns.map V.int) (ns.map D.int)
 | []=>.nil
 | n :: ns=>.cons (.int n) (lZ ns)
def gSs(ds:List D)(M:Mem)(R:DK):Prop:=∃ x ns,ds=[x]∧F4 M x=some (ns.map D.int)∧ns.length≤2∧R (.vl ((sd2 ns).map D.int)) M
def wW(ta:DTA):DTE:=fun e M R=>ta e M fun ds M1=>gSs ds M1 R
theorem pJ{ta:DTA}{e:Ev}{M:Mem}{R:DK}:wW ta e M R=ta e M fun ds M1=>gSs ds M1 R:=rfl
theorem nX{X:Cx}{a:Expr}{ta:DTA}{p1 p2 pos1 pos2:Pos}(hc:X.calm=true)(g1:Gl X "sorted")(n1:X.mg "sorted" = none)(v1:bootBuiltins "sorted" = some (.builtin "sorted"))(g2:Gl X "set")(n2:X.mg "set" = none)(v2:bootBuiltins "set" = some (.type "set"))(h:JA X [a] ta)
  (hs:starEach [a] X.env=[(false,eval a X.env)]:=by rfl) (hs3:starEach [.Call (.Name "set" p2) [a] [] pos2] X.env=[(false,eval (.Call (.Name "set" p2) [a] [] pos2) X.env)]:=by rfl) :
  JE X (.Call (.Name "sorted" p1) [.Call (.Name "set" p2) [a] [] pos2] [] pos1) (wW ta):=⟨have h:=h.out;(aY (nO hc g1 n1 v1 g2 n2 v2 h hs hs3)).imp fun σ H Q ⟨e,M,R,ok,am,t,f⟩=>⟨e,M,_,ok,am,t,fun ds M1 ⟨x,ns,hd,hi,h2,r⟩ vs H1 k1 a1 r1=>by
  subst hd
  obtain⟨v,rfl,hv⟩:=r1.one
  obtain⟨l,us,rfl,sq,lx⟩:=u8 a1 hv hi
  obtain rfl:=me lx
  exact⟨l,ns,rfl,sq,h2,fun p hp=>aI f k1 a1 (lZ (sd2 ns)) r p hp⟩⟩⟩
theorem EC:bootBuiltins "set" = some (.type "set"):=by decide +kernel
end DL
namespace GM
open PySem PySem.Spec L2 DL
open RM (sz)
noncomputable abbrev Zr:=Rat × Rat
theorem mp{a b:Rat}(h1:0<a)(h2:0<b):0<a*b:=Ot h1 h2
theorem iW{v x:Rat}(hv:0<v)(h:0<v*x):0<x:=by
 rcases tot x 0 with z|z
 ·have:0≤v*(-x):=Mc (aA hv) (by grind)
  grind
 ·by_cases e:x=0
  ·rw[e]at h;grind
  ·grind
section
variable {ss:List T3} {A:Nat→T3} {k:Nat}
end
section
variable {ss:List T3} {A:Nat→T3} {k:Nat}
end
noncomputable def kp(s:Sd):Rat:=(s.1:Rat) / (s.2.2.1:Rat)
theorem eps:∀(xs:List (Rat × Rat)),(∀ x∈xs,0≤x.1∧(x.1=0→x.2=0))→∃ e:Rat,0<e∧∀ x∈xs,e*x.2≤x.1∧-(e*x.2)≤x.1
 | [],_=>⟨1,by decide,fun _ h=>nomatch h⟩
 | x :: xs,h=>by
  obtain⟨e,he,hx⟩:=eps xs fun y hy=>h y (LG _ hy)
  obtain⟨h1,h2⟩:=h x LI
  by_cases c:x.2=0
  ·refine⟨e,he,fun y hy=>?_⟩
   rcases LB.mp hy with rfl|hy
   ·rw[c];grind
   ·exact hx y hy
  ·have hp:0<x.1:=by
    by_cases z:x.1=0
    ·exact absurd (h2 z) c
    ·grind
   let m:Rat:=if 0<x.2 then x.2 else -x.2
   have hm:0<m:=by show 0<(if 0<x.2 then x.2 else -x.2);split<;>grind
   have hd:0<x.1 / m:=by
    have e1:x.1 / m*m=x.1:=MA (J2 hm)
    exact iW hm (by rw[Nt,e1];exact hp)
   have e1:x.1 / m*m=x.1:=MA (J2 hm)
   have mle:x.2≤m∧-x.2≤m:=by
    show x.2≤(if 0<x.2 then x.2 else -x.2)∧-x.2≤(if 0<x.2 then x.2 else -x.2)
    split<;>constructor<;>grind
   generalize m=w at *
   have small:∀ f:Rat,0<f→f≤x.1 / w→f*x.2≤x.1∧-(f*x.2)≤x.1:=fun f f0 f1=>by
    have a1:0≤f*(w - x.2):=Mc (aA f0) (by grind)
    have a2:0≤f*(w+x.2):=Mc (aA f0) (by grind)
    have a3:0≤(x.1 / w - f)*w:=Mc (by grind) (aA hm)
    constructor<;>grind
   have scale:∀ f:Rat,0<f→f≤e→∀ y∈xs,f*y.2≤y.1∧-(f*y.2)≤y.1:=fun f f0 f1 y hy=>by
    obtain⟨b1,b2⟩:=hx y hy
    have y0:=(h y (LG _ hy)).1
    rcases tot 0 y.2 with c|c
    ·have a1:0≤(e - f)*y.2:=Mc (by grind) c
     have a2:0≤f*y.2:=Mc (aA f0) c
     constructor<;>grind
    ·have a1:0≤(e - f) * -y.2:=Mc (by grind) (by grind)
     have a2:0≤f * -y.2:=Mc (aA f0) (by grind)
     constructor<;>grind
   rcases tot e (x.1 / w)with c2|c2
   ·refine⟨e,he,fun y hy=>?_⟩
    rcases LB.mp hy with rfl|hy
    ·exact small e he c2
    ·exact hx y hy
   ·refine⟨x.1 / w,hd,fun y hy=>?_⟩
    rcases LB.mp hy with rfl|hy
    ·exact small _ hd Ou
    ·exact scale _ hd c2 y hy
noncomputable def cb2(p q:Rat):Nat:=v9 (v9 1 p.den) q.den
theorem ow(p q:Rat):cb2 p q=Qb p.den q.den:=by
 unfold cb2;rw[P4,P4,Nat.lcm_comm 1,Nat.lcm_one_right]
theorem cz(p q:Rat):0<cb2 p q:=by rw[ow];exact Ov p.den_pos q.den_pos
theorem Hs(p q:Rat):p.den ∣ cb2 p q:=by rw[ow];exact NL _ _
theorem Hr(p q:Rat):q.den ∣ cb2 p q:=by rw[ow];exact Oj _ _
noncomputable def wtF(p q:Rat):Int × Int:=(L9 p (cb2 p q),L9 q (cb2 p q))
noncomputable def veW(a:Sd)(w:Int × Int):Int:=a.1*w.2 - a.2.1*w.1
noncomputable def wVe(w:Int × Int)(b:Sd):Int:=w.1*b.2.1 - w.2*b.1
noncomputable def bQ(half:List Sd):List Sd:=half++half.map j0
noncomputable def bV(xs:List Sd):List (Sd × Sd):=xs.zip (xs.drop 1++xs.take 1)
noncomputable def aP(w:Int × Int)(f:Option (Sd × Sd))(ab:Sd × Sd):Option (Sd × Sd):=if 0≤veW ab.1 w∧0<wVe w ab.2 then some ab else f
noncomputable def mH(half:List Sd)(w:Int × Int):Option (Sd × Sd):=(bV (bQ half)).foldl (aP w) none
theorem mG{w:Int × Int}:∀(l:List (Sd × Sd)) (f:Option (Sd × Sd)),(∀ ab,l.foldl (aP w) f=some ab→f=some ab∨(ab∈l∧0≤veW ab.1 w∧0<wVe w ab.2))∧((f≠none ∨ ∃ ab∈l,0≤veW ab.1 w∧0<wVe w ab.2)→l.foldl (aP w) f≠none)
 | [],f=>⟨fun ab h=>.inl h,fun h=>by
  rcases h with h|⟨ab,h,_⟩
  ·exact h
  ·cases h⟩
 | x :: l,f=>by
  obtain⟨i1,i2⟩:=mG (w:=w) l (aP w f x)
  rw[PV]
  refine⟨fun ab h=>?_,fun h=>i2 ?_⟩
  ·rcases i1 ab h with e|⟨m,c⟩
   ·unfold aP at e
    split at e
    ·rename_i c;cases e;exact .inr ⟨LI,c⟩
    ·exact .inl e
   ·exact .inr ⟨LG _ m,c⟩
  ·by_cases c:0≤veW x.1 w∧0<wVe w x.2
   ·left;unfold aP;rw[if_pos c];exact fun z=>nomatch z
   ·rcases h with h|⟨ab,hm,hc⟩
    ·left;unfold aP;rw[if_neg c];exact h
    ·rcases LB.mp hm with rfl|hm
     ·exact absurd hc c
     ·exact .inr ⟨ab,hm,hc⟩
theorem qO(l m:List Sd):(l.map j0).zip (m.map j0)=(l.zip m).map fun ab=>(j0 ab.1,j0 ab.2):=K7 j0 l m
theorem qE(h0:Sd)(l:List Sd):bV (bQ (h0 :: l))=(h0 :: l).zip (l++[j0 h0])++((h0 :: l).zip (l++[j0 h0])).map fun ab=>(j0 ab.1,j0 ab.2):=by
 unfold bV bQ
 have e1:(h0 :: l++(h0 :: l).map j0).drop 1++(h0 :: l++(h0 :: l).map j0).take 1=(l++[j0 h0])++(l++[j0 h0]).map j0:=by
  show(l++(j0 h0 :: l.map j0))++[h0]=_
  rw[LX,Mv,Nq,qu]
  simp
 rw[e1,List.zip_append (by rw[Me,Mi];rfl),qO]
theorem Rim.arnd{ss:List T3}{h0:T3}{l:List T3}(R:Rim ss h0 l)(w:T3)(hw:¬ (w.1=0∧w.2.1=0)) :
  ∃ ab∈eW h0 l,(0≤ve ab.1 w∧0<ve w ab.2)∨(0≤ve (ng ab.1) w∧0<ve w (ng ab.2)):=by
 have e0:ve w (ng h0)=ve h0 w:=by unfold ve ng;grind
 have e1:ve (ng h0) w = -ve h0 w:=by unfold ve ng;grind
 by_cases c1:0<ve h0 w
 ·obtain⟨ab,hm,k1,k2⟩:=mM h0 l (ng h0) (aA c1) (by rw[e0];exact c1)
  exact⟨ab,hm,.inl ⟨k1,k2⟩⟩
 by_cases c2:ve h0 w<0
 ·have e2:ve w h0 = -ve h0 w:=by unfold ve;grind
  obtain⟨ab,hm,k1,k2⟩:=mM (w:=w) (ng h0) (l.map ng) h0 (by rw[e1];grind) (by rw[e2];grind)
  have em:ab∈((h0 :: l).map ng).zip ((l++[ng h0]).map ng):=by
   rw[LX,Mv,Mv,Nq,Cb];exact hm
  rw[K7]at em
  obtain⟨cd,hcd,rfl⟩:=LM.mp em
  exact⟨cd,hcd,.inr ⟨k1,k2⟩⟩
 ·have c0:ve h0 w=0:=by grind
  cases l with
  | nil=>exact absurd rfl R.ne
  | cons x l =>
   have hm:(h0,x)∈eW h0 (x :: l):=LI
   obtain⟨q1,q2,q3,q4⟩:=R.all _ hm
   have q3:0<ve h0 x:=q3
   by_cases k:0<ve w x
   ·exact⟨_,hm,.inl ⟨by show 0≤ve h0 w;rw[c0];exact Ou,k⟩⟩
   ·refine⟨_,hm,.inr ⟨by show 0≤ve (ng h0) w;rw[e1,c0];exact Ou,?_⟩⟩
    show 0<ve w (ng x)
    have ex:ve w (ng x) = -ve w x:=by unfold ve ng;grind
    rw[ex]
    have hne:ve w x≠0:=fun z=>hw (by
     unfold ve at c0 z q3
     have i1:w.1*(h0.1*x.2.1 - h0.2.1*x.1)=0:=by
      have:w.1*(h0.1*x.2.1 - h0.2.1*x.1)=h0.1*(w.1*x.2.1 - w.2.1*x.1)+x.1*(h0.1*w.2.1 - h0.2.1*w.1):=by grind
      rw[this,z,c0];grind
     have i2:w.2.1*(h0.1*x.2.1 - h0.2.1*x.1)=0:=by
      have:w.2.1*(h0.1*x.2.1 - h0.2.1*x.1)=h0.2.1*(w.1*x.2.1 - w.2.1*x.1)+x.2.1*(h0.1*w.2.1 - h0.2.1*w.1):=by grind
      rw[this,z,c0];grind
     have hv:h0.1*x.2.1 - h0.2.1*x.1≠0:=by grind
     exact⟨by grind,by grind⟩)
    grind
noncomputable def wT(w:Int × Int):T3:=((w.1:Rat),(w.2:Rat),0)
theorem yP(a:Sd)(w:Int × Int):ve (tri a) (wT w)=(veW a w:Rat):=by
 unfold ve tri wT veW
 rw[Nk,Mb,Mb]
theorem yO(w:Int × Int)(b:Sd):ve (wT w) (tri b)=(wVe w b:Rat):=by
 unfold ve tri wT wVe
 rw[Nk,Mb,Mb]
structure Arn(ls:List T3)(w:Int × Int)(a b:Sd):Prop where
 ma:a∈f8 ls
 mb:b∈f8 ls
 ve:0<veZ a b
 sup:Sup ((f8 ls).map tri) (ry (tri a) (tri b))
 ka:0≤veW a w
 kb:0<wVe w b
theorem mF{ls:List T3}(hok:∀ l∈ls,LineOk l){h0 x:Sd}{l:List Sd}(e:B8 (f8 ls)=h0 :: x :: l){w:Int × Int}(hw:¬ (w.1=0∧w.2=0)):∃ a b,mH (h0 :: x :: l) w=some (a,b)∧Arn ls w a b:=by
 have sy:∀ s∈f8 ls,j0 s∈f8 ls:=mY (ls:=ls) (i:=0)
 have hne:ls≠[]:=fun z=>by rw[z]at e;cases e
 obtain⟨g0,m,e',m0,h⟩:=V2 hok hne
 rw[e]at e'
 cases e'
 rcases h with⟨z,_⟩|⟨_,R,hE⟩
 ·cases z
 generalize x :: l=L at *
 have ed:eW (tri h0) (L.map tri)=((h0 :: L).zip (L++[j0 h0])).map fun ab=>(tri ab.1,tri ab.2):=by
  unfold eW
  rw[← K7,Mv,LX,Mv,Nq,G8]
 have hw':¬ ((wT w).1=0∧(wT w).2.1=0):=fun⟨z1,z2⟩=>hw ⟨by have z1:(w.1:Rat)=0:=z1;exact_mod_cast z1,by have z2:(w.2:Rat)=0:=z2;exact_mod_cast z2⟩
 obtain⟨i1,i2⟩:=mG (w:=w) (bV (bQ (h0 :: L))) none
 have ex:∃ ab∈bV (bQ (h0 :: L)),0≤veW ab.1 w∧0<wVe w ab.2:=by
  obtain⟨ab,hm,hc⟩:=R.arnd (wT w) hw'
  rw[ed]at hm
  obtain⟨cd,hcd,rfl⟩:=LM.mp hm
  rw[qE]
  rcases hc with⟨k1,k2⟩|⟨k1,k2⟩
  ·refine⟨cd,ME _ hcd,?_,?_⟩
   ·have k1:0≤ve (tri cd.1) (wT w):=k1
    rw[yP]at k1;exact qG.mp k1
   ·have k2:0<ve (wT w) (tri cd.2):=k2
    rw[yO]at k2;exact D3.mp k2
  ·refine⟨(j0 cd.1,j0 cd.2),LZ _ (LM.mpr ⟨cd,hcd,rfl⟩),?_,?_⟩
   ·have k1:0≤ve (ng (tri cd.1)) (wT w):=k1
    rw[← G8,yP]at k1;exact qG.mp k1
   ·have k2:0<ve (wT w) (ng (tri cd.2)):=k2
    rw[← G8,yO]at k2;exact D3.mp k2
 obtain⟨⟨a,b⟩,eab⟩:=Option.ne_none_iff_exists'.mp (i2 (.inr ex))
 refine⟨a,b,eab,?_⟩
 rcases i1 _ eab with z|⟨hm,k1,k2⟩
 ·cases z
 rw[qE]at hm
 have supE:∀ ab∈(h0 :: L).zip (L++[j0 h0]),Sup ((f8 ls).map tri) (ry (tri ab.1) (tri ab.2)):=fun ab h=>by
  have hm:(tri ab.1,tri ab.2)∈eW (tri h0) (L.map tri):=by
   rw[ed];exact LM.mpr ⟨ab,h,rfl⟩
  exact(R.all _ hm).2.2.2
 clear i1 i2 eab ex
 rcases Md.mp hm with hm|hm
 ·have q:=hE (a,b) hm
  have sq:=supE (a,b) hm
  exact⟨q.1,q.2.1,q.2.2,sq,k1,k2⟩
 ·obtain⟨cd,hcd,ec⟩:=LM.mp hm
  obtain⟨q1,q2,q3⟩:=hE _ hcd
  have ea:a=j0 cd.1:=(congrArg Prod.fst ec).symm
  have eb:b=j0 cd.2:=(congrArg Prod.snd ec).symm
  subst ea eb
  refine⟨sy _ q1,sy _ q2,?_,?_,k1,k2⟩
  ·have:veZ (j0 cd.1) (j0 cd.2)=veZ cd.1 cd.2:=by unfold veZ j0;grind
   rw[this];exact q3
  ·rw[G8,G8,uR];exact mS R.sy (supE _ hcd)
inductive F6
 | free (z:Zr)
 | most (v:Rat) (z:Zr) (sh:List (Int × Rat))
noncomputable def shD(s:Int × Rat):D:=.tup [.int s.1,e7 s.2]
noncomputable def F6.toD:F6→D
 | .free z=>.tup [.str "free",rD z]
 | .most v z sh=>.tup [.str "most",e7 v,rD z,.vl (sh.map shD)]
noncomputable def mU:List (Int × Rat)→List (Int × Rat)
 | [x,y]=>if y.1<x.1 then[y,x]else[x,y]
 | l=>l
noncomputable def shF(a b:Sd)(w:Int × Int)(c:Nat):List (Int × Rat):=mU ([(a.2.2.2.1,LW (wVe w b*a.2.2.2.2) (c*veZ a b)),(b.2.2.2.1,LW (veW a w*b.2.2.2.2) (c*veZ a b))].filter fun s=>decide (s.2≠0))
noncomputable def vlF(a b:Sd)(w:Int × Int)(c:Nat):Rat:=LW (wVe w b*a.2.2.1+veW a w*b.2.2.1) (c*veZ a b)
noncomputable def xr(half:List Sd)(p q:Rat):F6:=match mH half (wtF p q)with
 | none=>.free (0,0)
 | some (a,b)=>.most (vlF a b (wtF p q) (cb2 p q)) (ry (tri a) (tri b)) (shF a b (wtF p q) (cb2 p q))
noncomputable def sqZ(p q:Rat):Rat:=p*p+q*q
noncomputable def Y8(l:T3)(n:Int)(p q:Rat):F6 :=
 if l.1*q - p*l.2.1<0 then .free (l.2.1,-l.1)else if 0<l.1*q - p*l.2.1 then .free (-l.2.1,l.1)else
 .most (u9 (if l.1=0 then q / l.2.1 else p / l.1)*l.2.2) (p*(u9 (if l.1=0 then q / l.2.1 else p / l.1)*l.2.2 / sqZ p q),q*(u9 (if l.1=0 then q / l.2.1 else p / l.1)*l.2.2 / sqZ p q)) [(n,if l.1=0 then q / l.2.1 else p / l.1)]
noncomputable def gr(ls:List T3)(p q:Rat):F6:=if p=0∧q=0 then .most 0 (0,0) []else match B8 (f8 ls)with
 | []=>.free (p,q)
 | [h]=>Y8 (ls.getD h.2.2.2.1.toNat (0,0,0)) h.2.2.2.1 p q
 | half=>xr half p q
theorem bY{s:Sd}:∀{ls:List T3} {i:Nat},s∈J8 i ls→∃ j l,ls[j]? = some l∧(s=m6 l (i+j)∨s=j0 (m6 l (i+j)))
 | [],_,h=>by cases h
 | a :: r,i,h=>by
  have h:s∈m6 a i :: j0 (m6 a i) :: J8 (i+1) r:=h
  rcases LB.mp h with rfl|h
  ·exact⟨0,a,rfl,.inl rfl⟩
  ·rcases LB.mp h with rfl|h
   ·exact⟨0,a,rfl,.inr rfl⟩
   ·obtain⟨j,l,e,q⟩:=bY h
    exact⟨j+1,l,e,by rw[show i+(j+1)=i+1+j by omega];exact q⟩
theorem Ah{ls:List T3}{a b:Sd}(ha:a∈f8 ls)(hb:b∈f8 ls)(hv:veZ a b≠0):a.2.2.2.1≠b.2.2.2.1:=fun e=>by
 obtain⟨i,l,e1,h1⟩:=bY (i:=0) ha
 obtain⟨j,m,e2,h2⟩:=bY (i:=0) hb
 have n1:a.2.2.2.1=((0+i:Nat):Int):=by rcases h1 with h|h<;>rw[h]<;>rfl
 have n2:b.2.2.2.1=((0+j:Nat):Int):=by rcases h2 with h|h<;>rw[h]<;>rfl
 obtain rfl:i=j:=by omega
 rw[e1]at e2
 cases e2
 refine hv ?_
 rcases h1 with h|h<;>rcases h2 with h'|h'<;>(rw[h,h'];unfold veZ;first|(unfold j0;grind)|grind)
theorem pS(p q:Rat):((wtF p q).1:Rat)=p*(cb2 p q:Rat)∧((wtF p q).2:Rat)=q*(cb2 p q:Rat):=⟨Z2 (Hs p q),Z2 (Hr p q)⟩
theorem BU{p q:Rat}(h:¬ (p=0∧q=0)):¬ ((wtF p q).1=0∧(wtF p q).2=0):=fun⟨z1,z2⟩=>by
 obtain⟨e1,e2⟩:=pS p q
 have c:(0:Rat)<(cb2 p q:Rat):=by exact_mod_cast cz p q
 rw[z1]at e1
 rw[z2]at e2
 have e1:(0:Rat)=p*(cb2 p q:Rat):=e1
 have e2:(0:Rat)=q*(cb2 p q:Rat):=e2
 generalize (cb2 p q:Rat)=k at *
 exact h ⟨by grind,by grind⟩
theorem AV{ls:List T3}{p q:Rat}{a b:Sd}(A:Arn ls (wtF p q) a b) :
  vlF a b (wtF p q) (cb2 p q)=p*(ry (tri a) (tri b)).1+q*(ry (tri a) (tri b)).2∧∀ z,Sup ((f8 ls).map tri) z→p*z.1+q*z.2≤p*(ry (tri a) (tri b)).1+q*(ry (tri a) (tri b)).2:=by
 obtain⟨e1,e2⟩:=pS p q
 have c:(0:Rat)<(cb2 p q:Rat):=by exact_mod_cast cz p q
 have V:(0:Rat)<ve (tri a) (tri b):=by rw[D4];exact D3.mpr A.ve
 have ka:(0:Rat)≤ve (tri a) (wT (wtF p q)):=by rw[yP];exact qG.mpr A.ka
 have kb:(0:Rat)<ve (wT (wtF p q)) (tri b):=by rw[yO];exact D3.mpr A.kb
 have dw:∀ z:Zr,dt (wT (wtF p q)) z=(p*z.1+q*z.2)*(cb2 p q:Rat):=fun z=>by
  unfold dt wT
  show((wtF p q).1:Rat)*z.1+((wtF p q).2:Rat)*z.2=_
  rw[e1,e2];grind
 have bt:=V6 (w:=wT (wtF p q)) V (ry (tri a) (tri b))
 rw[Dt (J2 V),zo (J2 V),dw]at bt
 constructor
 ·unfold vlF
  rw[u7,NY,Mb,Mb,Mb,MQ,← D4,← yO,← yP]
  have r1:(tri a).2.2=(a.2.2.1:Rat):=rfl
  have r2:(tri b).2.2=(b.2.2.1:Rat):=rfl
  rw[← r1,← r2,← bt]
  have hz:∀ v k m:Rat,0<v→0<k→v*(m*k) / (k*v)=m:=fun v k m h1 h2=>by
   have:v*(m*k)=m*(k*v):=by grind
   rw[this,Oc (J2 (Ot h2 h1))]
  exact hz _ _ _ V c
 ·intro z hz
  have b2:=V6 (w:=wT (wtF p q)) V z
  rw[dw]at b2
  have s1:=hz (tri a) (LM.mpr ⟨a,A.ma,rfl⟩)
  have s2:=hz (tri b) (LM.mpr ⟨b,A.mb,rfl⟩)
  have p1:0≤ve (wT (wtF p q)) (tri b)*((tri a).2.2 - dt (tri a) z):=Mc (aA kb) (by grind)
  have p2:0≤ve (tri a) (wT (wtF p q))*((tri b).2.2 - dt (tri b) z):=Mc ka (by grind)
  have p3:0≤ve (tri a) (tri b)*(((p*(ry (tri a) (tri b)).1+q*(ry (tri a) (tri b)).2) - (p*z.1+q*z.2))*(cb2 p q:Rat)):=by grind
  have p4:=P2 V p3
  have p5:=P2 c (x:=(p*(ry (tri a) (tri b)).1+q*(ry (tri a) (tri b)).2) - (p*z.1+q*z.2)) (by grind)
  grind
theorem uu{p q:Rat}(h:¬ (p=0∧q=0)):0<sqZ p q:=by
 have s:∀ x:Rat,0≤x*x:=fun x=>by
  rcases tot 0 x with h|h
  ·exact Mc h h
  ·have:=Mc (show 0 ≤ -x by grind) (show 0 ≤ -x by grind)
   grind
 have s1:=s p
 have s2:=s q
 unfold sqZ
 by_cases c:p=0
 ·by_cases d:q=0
  ·exact absurd ⟨c,d⟩ h
  ·have:q*q≠0:=fun z=>d (by grind)
   grind
 ·have:p*p≠0:=fun z=>c (by grind)
  grind
theorem kW{ls:List T3}{h:Sd}(hm:h∈f8 ls):∃(l:T3) (j:Nat),ls[j]? = some l∧h.2.2.2.1=(j:Int)∧(h=m6 l j∨h=j0 (m6 l j)):=by
 obtain⟨j,l,e,q⟩:=bY (i:=0) hm
 rw[Pw]at q
 exact⟨l,j,e,by rcases q with q|q<;>rw[q]<;>rfl,q⟩
structure L28(l:T3):Prop extends LnOk l where
 p6:sz l.1≤548
 q6:sz l.2.1≤548
 r6:sz l.2.2≤262
 b6:xI 800 (m6 l 0)
theorem AO{l:T3}{m:Nat}(h1:sz l.1≤m)(h2:sz l.2.1≤m)(h3:sz l.2.2≤m):xI (3*m) (m6 l 0):=by
 have e:cbL l≤l.1.den*l.2.1.den*l.2.2.den:=by
  have a:=A9 (v9 (v9 1 l.1.den) l.2.1.den) l.2.2.den
  have b:=A9 (v9 1 l.1.den) l.2.1.den
  have c:=A9 1 l.1.den
  rw[Pd]at c
  exact LL a (Mo _ (LL b (Mo _ c)))
 have d1:=j9 _ h1
 have d2:=j9 _ h2
 have d3:=j9 _ h3
 have key:∀{q:Rat} {u v:Nat},sz q≤m→l.1.den*l.2.1.den*l.2.2.den=q.den*(u*v)→u<2 ^ m→v<2 ^ m→(L9 q (cbL l)).natAbs<2 ^ (3*m):=fun{q u v} hq eq hu hv=>by
  unfold L9
  have hd:cbL l / q.den≤u*v:=by
   rw[eq]at e
   exact MX e
  rw[Mf,LJ,show 3*m=m+(m+m)by omega,Mt,Mt]
  refine My (J4 q hq) (LL hd (MF (MG hu hv))) (PJ (NC (by decide)) (NC (by decide)))
 exact⟨key h1 (Pk _ _ _) d2 d3,key h2 (by rw[Nj l.1.den,Pk]) d1 d3,key h3 (Nj _ _) d1 d2⟩
theorem xq{n:Nat}{l:T3}(h:xI n (m6 l 0))(hn:n≤1200):SzS (m6 l 0):=⟨S7 h.1 hn,S7 h.2.1 hn,S7 h.2.2 hn⟩
theorem L28.mk3{l:T3}(ok:LineOk l)(h1:sz l.1≤262)(h2:sz l.2.1≤262)(h3:sz l.2.2≤262):L28 l:=by
 have b:=AO h1 h2 h3
 have b6:xI 800 (m6 l 0):=⟨S7 b.1 (by decide),S7 b.2.1 (by decide),S7 b.2.2 (by decide)⟩
 exact{ ne:=ok.ne,pos:=ok.pos,p:=by omega,q:=by omega,r:=by omega,s:=xq b6 (by decide),p6:=by omega,q6:=by omega,r6:=by omega,b6:=b6 }
def L8(ls:List T3):Prop:=ls.length≤12∧∀ l∈ls,L28 l
theorem L8.ok{ls:List T3}(h:L8 ls):xy ls:=⟨h.1,fun l hl=>(h.2 l hl).toLnOk⟩
theorem L8.lo{ls:List T3}(h:L8 ls):∀ l∈ls,LineOk l:=fun l hl=>(h.2 l hl).toLnOk.toLineOk
theorem L8.bits{ls:List T3}(h:L8 ls):∀ s∈f8 ls,xI 800 s:=fun s hs=>by
 obtain⟨l,hl,j,e⟩:=N4 hs
 obtain⟨a,b,c⟩:=(h.2 l hl).b6
 rcases e with rfl|rfl
 ·exact⟨a,b,c⟩
 ·exact⟨by show(-(m6 l j).1).natAbs<_;rw[MD];exact a,by show(-(m6 l j).2.1).natAbs<_;rw[MD];exact b,c⟩
theorem L8.szs{ls:List T3}(h:L8 ls):∀ s∈f8 ls,SzS s:=fun s hs=>by
 obtain⟨a,b,c⟩:=h.bits s hs
 exact⟨S7 a (by decide),S7 b (by decide),S7 c (by decide)⟩
theorem Iu{l:T3}(h:L28 l):cbL l<2 ^ 1400:=by
 have e:cbL l≤l.1.den*l.2.1.den*l.2.2.den:=by
  have a:=A9 (v9 (v9 1 l.1.den) l.2.1.den) l.2.2.den
  have b:=A9 (v9 1 l.1.den) l.2.1.den
  have c:=A9 1 l.1.den
  rw[Pd]at c
  exact LL a (Mo _ (LL b (Mo _ c)))
 have d1:=j9 _ h.p6
 have d2:=j9 _ h.q6
 have d3:=j9 _ h.r6
 refine LR e ?_
 refine Lz (MG (MG d1 d2) d3) ?_
 rw[← Mt,← Mt]
 exact LD (by decide) (by decide)
theorem L8.scale{ls:List T3}(h:L8 ls):∀ s∈f8 ls,s.2.2.2.2.natAbs<2 ^ 1400:=fun s hs=>by
 obtain⟨l,hl,j,e⟩:=N4 hs
 have:=Iu (h.2 l hl)
 rcases e with rfl|rfl
 ·show((cbL l:Nat):Int).natAbs<_;rw[LJ];exact this
 ·show(-((cbL l:Nat):Int)).natAbs<_;rw[MD,LJ];exact this
def Wz(x y:Int):Prop:=x.natAbs<2 ^ 2200∧y.natAbs<2 ^ 2200
theorem jG(p q:Rat):cb2 p q≤p.den*q.den:=by
 have b:=A9 (v9 1 p.den) q.den
 have c:=A9 1 p.den
 rw[Pd]at c
 exact LL b (Mo _ c)
theorem xi{p q:Rat}(h1:sz p≤1100)(h2:sz q≤1100):cb2 p q<2 ^ 2200:=by
 refine LR (jG p q) ?_
 rw[show 2200=1100+1100 from rfl,Mt]
 exact MG (j9 _ h1) (j9 _ h2)
theorem HC{p q:Rat}(h1:sz p≤1100)(h2:sz q≤1100):Wz (wtF p q).1 (wtF p q).2:=by
 have e:=jG p q
 have d1:=j9 _ h1
 have d2:=j9 _ h2
 refine⟨?_,?_⟩
 ·show(L9 p (cb2 p q)).natAbs<_
  unfold L9
  rw[Mf,LJ,show 2200=1100+1100 from rfl,Mt]
  exact My (J4 p h1) (LL (MX e) (MF d2)) (NC (by decide))
 ·show(L9 q (cb2 p q)).natAbs<_
  unfold L9
  rw[Mf,LJ,show 2200=1100+1100 from rfl,Mt]
  exact My (J4 q h2) (LL (MX (by rw[Nj];exact e)) (MF d1)) (NC (by decide))
noncomputable def zU:Option (Sd × Sd)→D
 | none=>.non
 | some ab=>.tup [sdD ab.1,sdD ab.2]
local macro_rules|`(tactic| walk_at "inj")=>`(tactic| (rename_i e h;simp only[List.cons.injEq,GM.C3,GM.B3,GM.G6,GM.E4,and_true,true_and,GM.i0,GM.i7,GM.h6,GM.i9,GM.h7,D.tup.injEq,D.ref.injEq,D.int.injEq,D.str.injEq,D.bl.injEq,D.vl.injEq,Ma,and_assoc]at e;(repeat(obtain⟨e1,e⟩:=e;subst e1));subst e;exact h))
local macro_rules|`(tactic| walk_at "injs")=>`(tactic| (rename_i e o h;rcases o with o|o<;>(subst o;first|(exfalso;simp only[D.tup.injEq,List.cons.injEq,reduceCtorEq,false_and,and_false]at e;done)|(simp only[List.cons.injEq,GM.C3,GM.B3,GM.G6,GM.E4,and_true,true_and,GM.i0,GM.i7,GM.h6,GM.i9,GM.h7,D.tup.injEq,D.ref.injEq,D.int.injEq,D.str.injEq,D.bl.injEq,D.vl.injEq,Ma,and_assoc]at e;(repeat(obtain⟨e1,e⟩:=e;subst e1));subst e;exact h))))
abbrev cg(p q y u:Rat)(M:Mem)(R:DK)(Y:DXK):Prop:=(sz p+sz q+sz y+sz u≤8000)∧R (e7 (p*y+q*u)) M
def uI:DSp:=fun ds M R Y=>∃(p q y u:Rat),ds=[e7 p,e7 q,p9 y u]∧cg p q y u M R Y
theorem oP{p q y u:Rat}{M:Mem}{R:DK}{Y:DXK}:uI [e7 p,e7 q,p9 y u] M R Y=(cg p q y u M R Y):=propext ⟨fun z=>by obtain⟨_,_,_,_,_,_⟩:=z;walk_at "inj",fun h=>⟨p,q,y,u,rfl,h⟩⟩
abbrev Z8(a:Sd)(x y:Int)(M:Mem)(R:DK)(Y:DXK):Prop:=(SzS a∧Wz x y)∧R (.int (veW a (x,y))) M
def iA:DSp:=fun ds M R Y=>∃(a:Sd) (x y:Int),ds=[sdD a,.vl [.int x,.int y]]∧Z8 a x y M R Y
theorem jW{a:Sd}{x y:Int}{M:Mem}{R:DK}{Y:DXK}:iA [sdD a,.vl [.int x,.int y]] M R Y=(Z8 a x y M R Y):=propext ⟨fun z=>by obtain⟨_,_,_,_,_⟩:=z;walk_at "inj",fun h=>⟨a,x,y,rfl,h⟩⟩
abbrev Z7(x y:Int)(b:Sd)(M:Mem)(R:DK)(Y:DXK):Prop:=(SzS b∧Wz x y)∧R (.int (wVe (x,y) b)) M
def iy:DSp:=fun ds M R Y=>∃(x y:Int) (b:Sd),ds=[.vl [.int x,.int y],sdD b]∧Z7 x y b M R Y
theorem jV{x y:Int}{b:Sd}{M:Mem}{R:DK}{Y:DXK}:iy [.vl [.int x,.int y],sdD b] M R Y=(Z7 x y b M R Y):=propext ⟨fun z=>by obtain⟨_,_,_,_,_⟩:=z;walk_at "inj",fun h=>⟨x,y,b,rfl,h⟩⟩
abbrev iR(p q:Rat)(M:Mem)(R:DK)(Y:DXK):Prop:=(sz p≤1100∧sz q≤1100)∧R (.int ((cb2 p q:Nat):Int)) M
def Dr:DSp:=fun ds M R Y=>∃(p q:Rat),ds=[p9 p q]∧iR p q M R Y
theorem sH{p q:Rat}{M:Mem}{R:DK}{Y:DXK}:Dr [p9 p q] M R Y=(iR p q M R Y):=propext ⟨fun z=>by obtain⟨_,_,_,_⟩:=z;walk_at "inj",fun h=>⟨p,q,rfl,h⟩⟩
abbrev ae(p q:Rat)(c:Int)(M:Mem)(R:DK)(Y:DXK):Prop:=((sz p≤1100∧sz q≤1100)∧c=((cb2 p q:Nat):Int))∧R (.vl [.int (wtF p q).1,.int (wtF p q).2]) M
def ny:DSp:=fun ds M R Y=>∃(p q:Rat) (c:Int),ds=[p9 p q,.int c]∧ae p q c M R Y
theorem jZ{p q:Rat}{c:Int}{M:Mem}{R:DK}{Y:DXK}:ny [p9 p q,.int c] M R Y=(ae p q c M R Y):=propext ⟨fun z=>by obtain⟨_,_,_,_,_⟩:=z;walk_at "inj",fun h=>⟨p,q,c,rfl,h⟩⟩
abbrev iT(half:List Sd)(x y:Int)(M:Mem)(R:DK)(Y:DXK):Prop:=(half.length≤30∧(∀ s∈half,SzS s)∧Wz x y)∧R (zU (mH half (x,y))) M
def Ds:DSp:=fun ds M R Y=>∃(half:List Sd) (x y:Int),ds=[.vl (half.map sdD),.vl [.int x,.int y]]∧iT half x y M R Y
theorem sI{half:List Sd}{x y:Int}{M:Mem}{R:DK}{Y:DXK}:Ds [.vl (half.map sdD),.vl [.int x,.int y]] M R Y=(iT half x y M R Y):=propext ⟨fun z=>by obtain⟨_,_,_,_,_⟩:=z;walk_at "inj",fun h=>⟨half,x,y,rfl,h⟩⟩
abbrev cp(half:List Sd)(p q:Rat)(M:Mem)(R:DK)(Y:DXK):Prop:=((half.length≤30∧(∀ s∈half,SzS s))∧(sz p≤1100∧sz q≤1100)∧∃ a b,mH half (wtF p q)=some (a,b)∧(SzS a∧SzS b)∧0<veZ a b∧a.2.2.2.1≠b.2.2.2.1∧(a.2.2.2.2.natAbs<2 ^ 1400∧b.2.2.2.2.natAbs<2 ^ 1400))∧R (xr half p q).toD M
def uM:DSp:=fun ds M R Y=>∃(half:List Sd) (p q:Rat),ds=[.vl (half.map sdD),e7 p,e7 q]∧cp half p q M R Y
theorem oU{half:List Sd}{p q:Rat}{M:Mem}{R:DK}{Y:DXK}:uM [.vl (half.map sdD),e7 p,e7 q] M R Y=(cp half p q M R Y):=propext ⟨fun z=>by obtain⟨_,_,_,_,_⟩:=z;walk_at "inj",fun h=>⟨half,p,q,rfl,h⟩⟩
abbrev cn(ls:List T3)(n:Int)(p q:Rat)(M:Mem)(R:DK)(Y:DXK):Prop:=(∃(l:T3) (j:Nat),n=(j:Int)∧ls[j]? = some l∧L28 l∧¬ (p=0∧q=0)∧(sz p≤1100∧sz q≤1100)∧R (Y8 l n p q).toD M)
def qd:DSp:=fun ds M R Y=>∃(ls:List T3) (n:Int) (p q:Rat),ds=[.vl (ls.map f9),.int n,e7 p,e7 q]∧cn ls n p q M R Y
theorem oT{ls:List T3}{n:Int}{p q:Rat}{M:Mem}{R:DK}{Y:DXK}:qd [.vl (ls.map f9),.int n,e7 p,e7 q] M R Y=(cn ls n p q M R Y):=propext ⟨fun z=>by obtain⟨_,_,_,_,_,_⟩:=z;walk_at "inj",fun h=>⟨ls,n,p,q,rfl,h⟩⟩
abbrev cq(ls:List T3)(p q:Rat)(M:Mem)(R:DK)(Y:DXK):Prop:=(L8 ls∧sz p≤1100∧sz q≤1100)∧R (gr ls p q).toD M
def uN:DSp:=fun ds M R Y=>∃(ls:List T3) (p q:Rat),ds=[.vl (ls.map f9),e7 p,e7 q]∧cq ls p q M R Y
theorem oV{ls:List T3}{p q:Rat}{M:Mem}{R:DK}{Y:DXK}:uN [.vl (ls.map f9),e7 p,e7 q] M R Y=(cq ls p q M R Y):=propext ⟨fun z=>by obtain⟨_,_,_,_,_⟩:=z;walk_at "inj",fun h=>⟨ls,p,q,rfl,h⟩⟩
abbrev aq(y u k:Rat)(M:Mem)(R:DK)(Y:DXK):Prop:=(sz y+sz k≤8900∧sz u+sz k≤8900)∧R (p9 (y*k) (u*k)) M
def nF:DSp:=fun ds M R Y=>∃(y u k:Rat),ds=[p9 y u,e7 k]∧aq y u k M R Y
theorem ko{y u k:Rat}{M:Mem}{R:DK}{Y:DXK}:nF [p9 y u,e7 k] M R Y=(aq y u k M R Y):=propext ⟨fun z=>by obtain⟨_,_,_,_,_⟩:=z;walk_at "inj",fun h=>⟨y,u,k,rfl,h⟩⟩
abbrev U6(y u z w:Rat)(M:Mem)(R:DK)(Y:DXK):Prop:=(sz y+sz w+sz z+sz u≤8000)∧R (e7 (y*w - z*u)) M
def iN:DSp:=fun ds M R Y=>∃(y u z w:Rat),ds=[p9 y u,p9 z w]∧U6 y u z w M R Y
theorem ft{y u z w:Rat}{M:Mem}{R:DK}{Y:DXK}:iN [p9 y u,p9 z w] M R Y=(U6 y u z w M R Y):=propext ⟨fun z=>by obtain⟨_,_,_,_,_,_⟩:=z;walk_at "inj",fun h=>⟨y,u,z,w,rfl,h⟩⟩
noncomputable def Gk(ls:List T3)(k:Nat):List T3:=ls.take k++ls.drop (k+1)
abbrev ak(ls:List T3)(y u:Rat)(M:Mem)(R:DK)(Y:DXK):Prop:=(ls.length≤12∧(∀ l∈ls,LSz 600 l)∧sz y≤5000∧sz u≤5000)∧R (.bl (L1 ls y u)) M
def nE:DSp:=fun ds M R Y=>∃(ls:List T3) (y u:Rat),ds=[.vl (ls.map f9),p9 y u]∧ak ls y u M R Y
theorem km{ls:List T3}{y u:Rat}{M:Mem}{R:DK}{Y:DXK}:nE [.vl (ls.map f9),p9 y u] M R Y=(ak ls y u M R Y):=propext ⟨fun z=>by obtain⟨_,_,_,_,_⟩:=z;walk_at "inj",fun h=>⟨ls,y,u,rfl,h⟩⟩
abbrev P1(l:T3)(y u:Rat)(M:Mem)(R:DK)(Y:DXK):Prop:=(LSz 600 l∧sz y≤5000∧sz u≤5000)∧R (.bl (L3 l y u)) M
def dk:DSp:=fun ds M R Y=>∃(l:T3) (y u:Rat),ds=[f9 l,p9 y u]∧P1 l y u M R Y
theorem cD{l:T3}{y u:Rat}{M:Mem}{R:DK}{Y:DXK}:dk [f9 l,p9 y u] M R Y=(P1 l y u M R Y):=propext ⟨fun z=>by obtain⟨_,_,_,_,_⟩:=z;walk_at "inj",fun h=>⟨l,y,u,rfl,h⟩⟩
abbrev U1(p q y u:Rat)(M:Mem)(R:DK)(Y:DXK):Prop:=(sz p+sz q+sz y+sz u≤20000)∧R (.tup [.int (M0 p q y u),.int (I0 p q y u)]) M
def U2:DSp:=fun ds M R Y=>∃(p q y u:Rat),ds=[e7 p,e7 q,p9 y u]∧U1 p q y u M R Y
theorem fj{p q y u:Rat}{M:Mem}{R:DK}{Y:DXK}:U2 [e7 p,e7 q,p9 y u] M R Y=(U1 p q y u M R Y):=propext ⟨fun z=>by obtain⟨_,_,_,_,_,_⟩:=z;walk_at "inj",fun h=>⟨p,q,y,u,rfl,h⟩⟩
theorem EG(p q y u:Rat):I0 p q y u≠0:=by
 unfold I0
 exact Mn (Mn (Mn (RM.o9 p) (RM.o9 y)) (RM.o9 q)) (RM.o9 u)
theorem gO(p q y u:Rat):LW (M0 p q y u) (I0 p q y u)=p*y+q*u:=by
 have e:∀ r:Rat,r=(r.num:Rat) / (r.den:Rat):=fun r=>by
  have:=G1 r
  have h0:(r.den:Rat)≠0:=fun z=>Mm r.den_pos (by exact_mod_cast z)
  grind
 have h1:(p.den:Rat)≠0:=fun z=>Mm p.den_pos (by exact_mod_cast z)
 have h2:(q.den:Rat)≠0:=fun z=>Mm q.den_pos (by exact_mod_cast z)
 have h3:(y.den:Rat)≠0:=fun z=>Mm y.den_pos (by exact_mod_cast z)
 have h4:(u.den:Rat)≠0:=fun z=>Mm u.den_pos (by exact_mod_cast z)
 have e1:=G1 p
 have e2:=G1 q
 have e3:=G1 y
 have e4:=G1 u
 rw[u7]
 unfold M0 I0
 simp only[NY,Mb,MQ]
 rw[← e1,← e2,← e3,← e4]
 generalize (p.den:Rat)=a at *
 generalize (q.den:Rat)=b at *
 generalize (y.den:Rat)=c at *
 generalize (u.den:Rat)=d at *
 have hd:a*c*b*d≠0:=fun z=>by grind
 have:p*a*(y*c)*b*d+q*b*(u*d)*a*c=(p*y+q*u)*(a*c*b*d):=by grind
 rw[this,Oc hd]
theorem xJ{h0:Sd}{l:List Sd}{i:Nat}(h:i<l.length):((h0 :: l)[i]'(by rw[Me];omega),l[i])∈(h0 :: l).zip (l++[j0 h0]):=by
 have hz:i<((h0 :: l).zip (l++[j0 h0])).length:=by rw[PK,Me,Mi];show i<min _ (l.length+1);omega
 have e:((h0 :: l).zip (l++[j0 h0]))[i]=((h0 :: l)[i]'(by rw[Me];omega),l[i]):=by
  rw[List.getElem_zip,List.getElem_append_left h]
 rw[← e]
 exact PB _
theorem AB{ls:List T3}(hok:∀ l∈ls,LineOk l):∀ s∈B8 (f8 ls),s∈f8 ls:=by
 by_cases hne:ls=[]
 ·subst hne;intro s hs;cases hs
 obtain⟨h0,l,e,m0,h⟩:=V2 hok hne
 rw[e]
 intro s hs
 rcases LB.mp hs with rfl|hs
 ·exact m0
 ·rcases h with⟨rfl,_⟩|⟨_,_,hE⟩
  ·cases hs
  ·obtain⟨i,hi,rfl⟩:=OU.mp hs
   have:=hE _ (xJ hi)
   exact this.2.1
theorem lT{q:Rat}:0<q.num↔0<q:=by
 have h1:=bJ (-q)
 rw[Oo]at h1
 constructor
 ·intro h;have:=h1.mp (by omega);grind
 ·intro h;have:=h1.mpr (by grind);omega
theorem zq(half:List Sd):half.map sdD++(half.map j0).map sdD=(bQ half).map sdD:=by unfold bQ;rw[LX]
theorem FY{ls:List T3}(h:L8 ls){a b:Sd}(ha:a∈f8 ls)(hb:b∈f8 ls)(hv:veZ a b≠0):sz (ry (tri a) (tri b)).1≤1601∧sz (ry (tri a) (tri b)).2≤1601:=FX (n:=800) (h.bits a ha) (h.bits b hb) hv
theorem L8.oth{ls:List T3}(h:L8 ls)(k:Nat):L8 (Gk ls k):=by
 refine⟨?_,fun l hl=>?_⟩
 ·unfold Gk
  rw[Mi,Ml,MI]
  have:=h.1;omega
 ·rcases Md.mp hl with hl|hl
  ·exact h.2 l (MY hl)
  ·exact h.2 l (NP hl)
theorem ur(l:List (Int × Rat)):(mU l).length=l.length:=by
 unfold mU
 split
 ·split<;>rfl
 ·rfl
end GM
namespace GM
open PySem PySem.Spec L2 DL
open RM (sz)
structure CP(k:Nat)(ls:List T3):Prop where
 cols:Q2 k ls
 pos:∀ l∈ls,0<l.2.2
theorem CP.nil:CP 0 []:=⟨Q2.nil,fun _ h=>nomatch h⟩
theorem CP.app{k:Nat}{ls:List T3}{l:T3}(h:CP k ls)(c:Q2 (k+1) (ls++[l]))(hp:0<l.2.2):CP (k+1) (ls++[l]):=⟨c,fun m hm=>by
 rcases Md.mp hm with hm|hm
 ·exact h.pos m hm
 ·rw[Mk.mp hm];exact hp⟩
theorem V4{k:Nat}{xs:List Rat}(h:Col k xs)(hk:k≤5){x:Rat}(hx:x∈xs):sz x≤262:=by
 obtain⟨B,b0,b1,h⟩:=h
 have:=(h x hx).sz b0 b1
 omega
theorem CP.l28{k:Nat}{ls:List T3}(h:CP k ls)(hk:k≤5):∀ l∈ls,L28 l:=fun l hl =>
 L28.mk3 ⟨(h.cols.ok (by omega) l hl).ne,h.pos l hl⟩ (V4 h.cols.p hk (LM.mpr ⟨l,hl,rfl⟩)) (V4 h.cols.q hk (LM.mpr ⟨l,hl,rfl⟩)) (V4 h.cols.r hk (LM.mpr ⟨l,hl,rfl⟩))
theorem wK{a b:Int}(ha:0<a)(hb:0<b):0<LW a b:=by
 rw[u7]
 have h1:(0:Rat)<(a:Rat):=D3.mpr ha
 have h2:(0:Rat)<(b:Rat):=D3.mpr hb
 exact iW h2 (by rw[Nt,MA (J2 h2)];exact h1)
local macro_rules|`(tactic| walk_at "inj")=>`(tactic| (rename_i e h;simp only[List.cons.injEq,GM.C3,GM.B3,GM.G6,GM.E4,and_true,true_and,GM.i0,GM.i7,GM.h6,GM.i9,GM.h7,D.tup.injEq,D.ref.injEq,D.int.injEq,D.str.injEq,D.bl.injEq,D.vl.injEq,Ma,and_assoc]at e;(repeat(obtain⟨e1,e⟩:=e;subst e1));subst e;exact h))
local macro_rules|`(tactic| walk_at "injs")=>`(tactic| (rename_i e o h;rcases o with o|o<;>(subst o;first|(exfalso;simp only[D.tup.injEq,List.cons.injEq,reduceCtorEq,false_and,and_false]at e;done)|(simp only[List.cons.injEq,GM.C3,GM.B3,GM.G6,GM.E4,and_true,true_and,GM.i0,GM.i7,GM.h6,GM.i9,GM.h7,D.tup.injEq,D.ref.injEq,D.int.injEq,D.str.injEq,D.bl.injEq,D.vl.injEq,Ma,and_assoc]at e;(repeat(obtain⟨e1,e⟩:=e;subst e1));subst e;exact h))))
abbrev ai(p:Addr)(M:Mem)(R:DK)(Y:DXK):Prop:=p7 M p∧∀(l:T3) M',LOk 41 l→0<l.2.2→j1 p M M'→R (f9 l) M'
def nB:DSp:=fun ds M R Y=>∃(p:Addr),ds=[.ref p]∧ai p M R Y
theorem kj{p:Addr}{M:Mem}{R:DK}{Y:DXK}:nB [.ref p] M R Y=(ai p M R Y):=propext ⟨fun z=>by obtain⟨_,_,_⟩:=z;walk_at "inj",fun h=>⟨p,rfl,h⟩⟩
abbrev U8(q r:Rat)(M:Mem)(R:DK)(Y:DXK):Prop:=sz q+sz r≤20000∧R (.bl (decide (q<r))) M
def iS:DSp:=fun ds M R Y=>∃(q r:Rat),ds=[e7 q,e7 r]∧U8 q r M R Y
theorem fy{q r:Rat}{M:Mem}{R:DK}{Y:DXK}:iS [e7 q,e7 r] M R Y=(U8 q r M R Y):=propext ⟨fun z=>by obtain⟨_,_,_,_⟩:=z;walk_at "inj",fun h=>⟨q,r,rfl,h⟩⟩
end GM
namespace GM
open PySem PySem.Spec L2 DL
open RM (sz)
structure L24(l:T3):Prop where
 ok:L28 l
 z:LSz 262 l
def jP(ls:List T3):Prop:=ls.length≤12∧∀ l∈ls,L24 l
theorem jP.a{ls:List T3}(h:jP ls):L8 ls:=⟨h.1,fun l hl=>(h.2 l hl).ok⟩
theorem CP.l24{k:Nat}{ls:List T3}(h:CP k ls)(hk:k≤5):∀ l∈ls,L24 l:=fun l hl=>⟨h.l28 hk l hl,V4 h.cols.p hk (LM.mpr ⟨l,hl,rfl⟩),V4 h.cols.q hk (LM.mpr ⟨l,hl,rfl⟩),V4 h.cols.r hk (LM.mpr ⟨l,hl,rfl⟩)⟩
noncomputable def G5(n:Nat):Int→List (Int × Rat)→Bool
 | _,[]=>true
 | a,s :: r=>decide (a<s.1) && decide (s.1<(n:Int)) && decide (s.2≠0) && G5 n s.1 r
theorem zp{n:Nat}{a:Int}{s:Int × Rat}{r:List (Int × Rat)}(h:¬ (a<s.1∧s.1<(n:Int)∧s.2≠0)):G5 n a (s :: r)=false:=by
 cases e:G5 n a (s :: r)with
 | false=>rfl
 | true =>
  unfold G5 at e
  simp only[MB,decide_eq_true_eq]at e
  exact absurd ⟨e.1.1.1,e.1.1.2,e.1.2⟩ h
theorem uT{n:Nat}{a:Int}{s:Int × Rat}{r:List (Int × Rat)}(h1:a<s.1)(h2:s.1<(n:Int))(h3:s.2≠0):G5 n a (s :: r)=G5 n s.1 r:=by
 rw[G5,decide_eq_true h1,decide_eq_true h2,decide_eq_true h3]
 rfl
noncomputable def shB(n:Nat)(sh:List (Int × Rat)):Bool:=decide (sh.length≤2) && G5 n (-1) sh
theorem Dh{n:Nat}{sh:List (Int × Rat)}(h:sh.length≤2)(hz:∀ s∈sh,s.2≠0):shB n sh=(decide (sh.map (·.1)=L2.sd2 (sh.map (·.1))) && (sh.map (·.1)).all fun m=>decide (0≤m) && decide (m<(n:Int))):=by
 unfold shB
 rw[decide_eq_true h,Mw]
 match sh,h,hz with
 | [],_,_=>rfl
 | [a],_,hz =>
  have z:=hz a LI
  show(decide (-1<a.1) && decide (a.1<(n:Int)) && decide (a.2≠0) && true)=(decide ([a.1]=[a.1]) && (decide (0≤a.1) && decide (a.1<(n:Int)) && true))
  rw[decide_eq_true z,decide_eq_true (rfl:[a.1]=[a.1]),NQ,NQ,Mw,NQ]
  rw[show decide (-1<a.1)=decide (0≤a.1)from decide_eq_decide.mpr (by omega)]
 | [a,b],_,hz =>
  have z1:=hz a LI
  have z2:=hz b (by simp)
  show(decide (-1<a.1) && decide (a.1<(n:Int)) && decide (a.2≠0) && (decide (a.1<b.1) && decide (b.1<(n:Int)) && decide (b.2≠0) && true))=(decide ([a.1,b.1]=if a.1=b.1 then[a.1]else if a.1<b.1 then[a.1,b.1]else[b.1,a.1]) && (decide (0≤a.1) && decide (a.1<(n:Int)) && (decide (0≤b.1) && decide (b.1<(n:Int)) && true)))
  rw[decide_eq_true z1,decide_eq_true z2]
  by_cases c:a.1=b.1
  ·rw[if_pos c,decide_eq_false (show ¬ a.1<b.1 by omega),decide_eq_false (show ¬ [a.1,b.1]=[a.1]from fun z=>by simp at z)]
   simp
  ·rw[if_neg c]
   by_cases d:a.1<b.1
   ·rw[if_pos d,decide_eq_true (rfl:[a.1,b.1]=[a.1,b.1]),decide_eq_true d,Nd]
    simp only[NQ,Mw,MB,decide_eq_true_eq]
    omega
   ·rw[if_neg d,decide_eq_false d,decide_eq_false (show ¬ [a.1,b.1]=[b.1,a.1]from fun z=>c (by injection z))]
    simp
theorem yU{n:Nat}{sh:List (Int × Rat)}(h:∃ s∈sh,s.2=0):shB n sh=false:=by
 have key:∀(sh:List (Int × Rat)) (a:Int),(∃ s∈sh,s.2=0)→G5 n a sh=false:=by
  intro sh
  induction sh with
  | nil=>rintro a ⟨s,hs,_⟩;cases hs
  | cons x r ih =>
   rintro a ⟨s,hs,e⟩
   unfold G5
   rcases LB.mp hs with rfl|hs
   ·rw[decide_eq_false (show ¬ s.2≠0 from fun z=>z e)]
    simp
   ·rw[ih x.1 ⟨s,hs,e⟩,MN]
 unfold shB
 rw[key sh _ h,MN]
theorem lB{n:Nat}:∀{sh:List (Int × Rat)} {a:Int},-1≤a→G5 n a sh=true→∀ s∈sh,0≤s.1∧s.1<(n:Int)∧s.2≠0
 | [],_,_,_,s,hs=>by cases hs
 | x :: r,a,ha,h,s,hs=>by
  unfold G5 at h
  simp only[MB,decide_eq_true_eq]at h
  rcases LB.mp hs with rfl|hs
  ·exact⟨by omega,h.1.1.2,h.1.2⟩
  ·exact lB (by omega) h.2 s hs
theorem qc{n:Nat}{sh:List (Int × Rat)}(h:shB n sh=true):sh.length≤2∧∀ s∈sh,0≤s.1∧s.1<(n:Int)∧s.2≠0:=by
 unfold shB at h
 rw[MB,decide_eq_true_eq]at h
 exact⟨h.1,lB (by omega) h.2⟩
noncomputable def ad(t:Rat→T3→Rat)(ls:List T3)(sh:List (Int × Rat)):Rat:=sh.foldl (fun acc s=>acc+t s.2 (ls.getD s.1.toNat (0,0,0))) 0
theorem V7(t:Rat→T3→Rat)(ls:List T3)(xs:List (Int × Rat))(s:Int × Rat):ad t ls (xs++[s])=ad t ls xs+t s.2 (ls.getD s.1.toNat (0,0,0)):=by
 unfold ad
 rw[MZ]
 rfl
noncomputable def t0(w:Rat)(l:T3):Rat:=w*l.1
noncomputable def t1(w:Rat)(l:T3):Rat:=w*l.2.1
noncomputable def t2(w:Rat)(l:T3):Rat:=u9 w*l.2.2
noncomputable def rwD(a:Int × Int):D:=.tup [.int a.1,.int a.2]
structure Raw(n:Nat)(a:Int × Int)(q:Rat):Prop where
 pos:0<a.2
 val:LW a.1 a.2=q
 s1:a.1.natAbs<2 ^ n
 s2:a.2.natAbs<2 ^ n
noncomputable def fY(a:Int × Int)(x w:Rat):Int × Int:=(a.1*1*x.den*w.den+x.num*w.num*a.2*1,a.2*1*x.den*w.den)
theorem Raw.step{n m k:Nat}{a:Int × Int}{q x w:Rat}(h:Raw n a q)(hx:sz x≤m)(hw:sz w≤k):Raw (n+m+k+1) (fY a x w) (q+w*x):=by
 have dx:=x.den_pos
 have dw:=w.den_pos
 have p1:(0:Int)<(x.den:Int):=by omega
 have p2:(0:Int)<(w.den:Int):=by omega
 have b1:=j7 (j7 h.s1 (Lz (i4 x) (LD (by decide) hx))) (Lz (i4 w) (LD (by decide) hw))
 have b2:=j7 (j7 (Lz (j4 x) (LD (by decide) hx)) (Lz (j4 w) (LD (by decide) hw))) h.s2
 have b3:=j7 (j7 h.s2 (Lz (i4 x) (LD (by decide) hx))) (Lz (i4 w) (LD (by decide) hw))
 refine⟨?_,?_,?_,?_⟩
 ·show 0<a.2*1*x.den*w.den
  rw[NT]
  exact MV (MV h.pos p1) p2
 ·show LW (a.1*1*x.den*w.den+x.num*w.num*a.2*1) (a.2*1*x.den*w.den)=q+w*x
  rw[← h.val]
  have n1:(x.den:Rat)≠0:=fun z=>Mm dx (by exact_mod_cast z)
  have n2:(w.den:Rat)≠0:=fun z=>Mm dw (by exact_mod_cast z)
  have ex:x=(x.num:Rat) / (x.den:Rat):=by have:=G1 x;grind
  have ew:w=(w.num:Rat) / (w.den:Rat):=by have:=G1 w;grind
  have n3:(a.2:Rat)≠0:=fun z=>by
   have:=h.pos
   have z:a.2=0:=by exact_mod_cast z
   omega
  rw[u7,u7]
  simp only[NY,Mb,MQ,Rat.mul_one,Rat.intCast_one]
  conv=>rhs;rw[ex,ew]
  generalize (x.den:Rat)=A at *
  generalize (w.den:Rat)=B at *
  generalize (a.2:Rat)=C at *
  generalize (x.num:Rat)=X at *
  generalize (w.num:Rat)=W at *
  generalize (a.1:Rat)=V at *
  clear b1 b2 b3 ex ew p1 p2
  have nd:C*A*B≠0:=fun z=>by grind
  have:(V / C+W / B*(X / A))*(C*A*B)=V*A*B+X*W*C:=by grind
  rw[← this,Oc nd]
 ·show(a.1*1*x.den*w.den+x.num*w.num*a.2*1).natAbs<_
  rw[NT,NT,MC]
  have t:=NB (a.1*x.den*w.den) (x.num*w.num*a.2)
  rw[show m+k+n=n+m+k by omega]at b2
  omega
 ·show(a.2*1*x.den*w.den).natAbs<_
  rw[NT,MC]
  omega
theorem Raw.zero:Raw 1 (0,1) 0:=⟨by decide,by decide +kernel,by decide,by decide⟩
theorem Raw.eq{n:Nat}{a:Int × Int}{q p:Rat}(h:Raw n a q):a.1*(p.den:Int)=p.num*a.2↔q=p:=by
 rw[← h.val]
 conv=>rhs;rhs;rw[← Mq p]
 have d:=p.den_pos
 have:=h.pos
 exact(Om (by omega) (by omega)).symm
noncomputable def wC(ls:List T3)(p q:Rat)(z:Zr):Bool:=decide (0<p*z.1+q*z.2) && ls.all fun l=>decide (l.1*z.1+l.2.1*z.2=0)
noncomputable def Gx(ls:List T3)(p q v:Rat)(z:Zr)(sh:List (Int × Rat)):Bool:=L1 ls z.1 z.2 && decide (p*z.1+q*z.2=v) && shB ls.length sh && decide (ad t0 ls sh=p∧ad t1 ls sh=q∧ad t2 ls sh=v)
noncomputable def uU(ls:List T3)(p q:Rat):F6→Bool
 | .free z=>wC ls p q z
 | .most v z sh=>Gx ls p q v z sh
noncomputable def xu(M:Mem)(t:D):F6→Prop
 | .free z=>t = .tup [.str "free",p9 z.1 z.2]
 | .most v z sh=>∃ x,t = .tup [.str "most",e7 v,p9 z.1 z.2,x]∧j6 M x (sh.map shD)
structure MSz(m:F6):Prop where
 free:∀ z,m = .free z→sz z.1≤3800∧sz z.2≤3800
 most:∀ v z sh,m = .most v z sh→sz v≤8000∧(sz z.1≤3800∧sz z.2≤3800)∧sh.length≤20∧∀ s∈sh,sz s.2≤3000
theorem jr{M:Mem}{x:D}{ds:List D}(h:j6 M x ds):vQ M x=some ds.length:=by
 rcases h with rfl|⟨p,rfl,m⟩|rfl
 ·rfl
 ·unfold vQ;simp only[m]
 ·rfl
theorem gT{sh:List (Int × Rat)}{i:Nat}{d:D}(h:(sh.map shD)[i]? = some d):∃ s,sh[i]? = some s∧d=shD s:=by
 rw[LY]at h
 cases e:sh[i]? with
 | none=>rw[e]at h;cases h
 | some s=>rw[e]at h;exact⟨s,rfl,(Option.some.inj h).symm⟩
def big(a:Int):Prop:=a.natAbs<2 ^ 9900
theorem AS{q:Rat}(h:sz q≤9900):big q.num∧big (q.den:Int):=⟨Lz (j4 q) (LD (by decide) h),Lz (i4 q) (LD (by decide) h)⟩
theorem EJ{a:Int × Int}{q:Rat}(h:Raw 9000 a q):big a.1∧big a.2:=⟨Lz h.s1 (LD (by decide) (by decide)),Lz h.s2 (LD (by decide) (by decide))⟩
theorem iU(q:Rat):e7 q=rwD (q.num,(q.den:Int)):=rfl
theorem qI(p q y u:Rat):0<I0 p q y u:=by
 unfold I0
 exact MV (MV (MV (by have:=p.den_pos;omega) (by have:=y.den_pos;omega)) (by have:=q.den_pos;omega)) (by have:=u.den_pos;omega)
theorem mQ(p q y u v:Rat):M0 p q y u*(v.den:Int)=v.num*I0 p q y u↔p*y+q*u=v:=by
 rw[← gO p q y u]
 conv=>rhs;rhs;rw[← Mq v]
 have d:=v.den_pos
 have:=qI p q y u
 exact(Om (by omega) (by omega)).symm
theorem pU(p q y u:Rat):0<M0 p q y u↔0<p*y+q*u:=by
 rw[← gO p q y u,u7]
 have b:(0:Rat)<(I0 p q y u:Rat):=D3.mpr (qI p q y u)
 have e:((M0 p q y u:Int):Rat) / (I0 p q y u:Rat)*(I0 p q y u:Rat)=(M0 p q y u:Rat):=MA (J2 b)
 rw[← D3]
 generalize (M0 p q y u:Rat)=T at *
 generalize (I0 p q y u:Rat)=B at *
 constructor
 ·intro h
  rw[← e]at h
  exact iW b (by rw[Nt];exact h)
 ·intro h
  rw[← e]
  exact Ot h b
theorem ue(p q y u:Rat):M0 p q y u=0↔p*y+q*u=0:=by
 have:=mQ p q y u 0
 rw[← this]
 show _↔M0 p q y u*1=0*I0 p q y u
 rw[NT,OM]
theorem wU{P:Prop}{i:Decidable P}{b:Bool}(h:P↔b=true):@decide P i=b:=by
 cases b with
 | true=>exact decide_eq_true (h.mpr rfl)
 | false=>exact decide_eq_false fun z=>by have:=h.mp z;cases this
local macro_rules|`(tactic| walk_at "inj")=>`(tactic| (rename_i e h;simp only[List.cons.injEq,GM.C3,GM.B3,GM.G6,GM.E4,and_true,true_and,GM.i0,GM.i7,GM.h6,GM.i9,GM.h7,D.tup.injEq,D.ref.injEq,D.int.injEq,D.str.injEq,D.bl.injEq,D.vl.injEq,Ma,and_assoc]at e;(repeat(obtain⟨e1,e⟩:=e;subst e1));subst e;exact h))
local macro_rules|`(tactic| walk_at "injs")=>`(tactic| (rename_i e o h;rcases o with o|o<;>(subst o;first|(exfalso;simp only[D.tup.injEq,List.cons.injEq,reduceCtorEq,false_and,and_false]at e;done)|(simp only[List.cons.injEq,GM.C3,GM.B3,GM.G6,GM.E4,and_true,true_and,GM.i0,GM.i7,GM.h6,GM.i9,GM.h7,D.tup.injEq,D.ref.injEq,D.int.injEq,D.str.injEq,D.bl.injEq,D.vl.injEq,Ma,and_assoc]at e;(repeat(obtain⟨e1,e⟩:=e;subst e1));subst e;exact h))))
abbrev af(x y:D)(M:Mem)(R:DK)(Y:DXK):Prop:=∃ a b:Int × Int,x=rwD a∧y=rwD b∧(big a.1∧big a.2)∧(big b.1∧big b.2)∧R (.bl (decide (a.1*b.2=b.1*a.2))) M
def iF:DSp:=fun ds M R Y=>∃(x y:D),ds=[x,y]∧af x y M R Y
theorem ke{x y:D}{M:Mem}{R:DK}{Y:DXK}:iF [x,y] M R Y=(af x y M R Y):=propext ⟨fun z=>by obtain⟨_,_,_,_⟩:=z;walk_at "inj",fun h=>⟨x,y,rfl,h⟩⟩
abbrev U0(d:D)(x w:Rat)(M:Mem)(R:DK)(Y:DXK):Prop:=∃ a:Int × Int,d=rwD a∧(a.1.natAbs<2 ^ 5000∧a.2.natAbs<2 ^ 5000)∧(sz x≤600∧sz w≤3000)∧R (rwD (fY a x w)) M
def iC:DSp:=fun ds M R Y=>∃(d:D) (x w:Rat),ds=[d,e7 x,p9 1 w]∧U0 d x w M R Y
theorem fh{d:D}{x w:Rat}{M:Mem}{R:DK}{Y:DXK}:iC [d,e7 x,p9 1 w] M R Y=(U0 d x w M R Y):=propext ⟨fun z=>by obtain⟨_,_,_,_,_⟩:=z;walk_at "inj",fun h=>⟨d,x,w,rfl,h⟩⟩
abbrev aw(ls:List T3)(x:D)(M:Mem)(R:DK)(Y:DXK):Prop:=∃ sh:List (Int × Rat),j6 M x (sh.map shD)∧ls.length≤12∧R (.bl (shB ls.length sh)) M
def nK:DSp:=fun ds M R Y=>∃(ls:List T3) (x:D),ds=[.vl (ls.map f9),x]∧aw ls x M R Y
theorem kv{ls:List T3}{x:D}{M:Mem}{R:DK}{Y:DXK}:nK [.vl (ls.map f9),x] M R Y=(aw ls x M R Y):=propext ⟨fun z=>by obtain⟨_,_,_,_⟩:=z;walk_at "inj",fun h=>⟨ls,x,rfl,h⟩⟩
abbrev ax(ls:List T3)(x:D)(M:Mem)(R:DK)(Y:DXK):Prop:=∃ sh:List (Int × Rat),j6 M x (sh.map shD)∧L8 ls∧shB ls.length sh=true∧(∀ s∈sh,sz s.2≤3000)∧∀ a b c:Int × Int,Raw 9000 a (ad t0 ls sh)→Raw 9000 b (ad t1 ls sh)→Raw 9000 c (ad t2 ls sh)→R (.vl [rwD a,rwD b,rwD c]) M
def nM:DSp:=fun ds M R Y=>∃(ls:List T3) (x:D),ds=[.vl (ls.map f9),x]∧ax ls x M R Y
theorem kA{ls:List T3}{x:D}{M:Mem}{R:DK}{Y:DXK}:nM [.vl (ls.map f9),x] M R Y=(ax ls x M R Y):=propext ⟨fun z=>by obtain⟨_,_,_,_⟩:=z;walk_at "inj",fun h=>⟨ls,x,rfl,h⟩⟩
abbrev au(ls:List T3)(x:D)(p q:Rat)(M:Mem)(R:DK)(Y:DXK):Prop:=∃ sh:List (Int × Rat),j6 M x (sh.map shD)∧L8 ls∧(∀ s∈sh,sz s.2≤3000)∧(sz p≤1100∧sz q≤1100)∧(¬ (shB ls.length sh=true∧ad t0 ls sh=p∧ad t1 ls sh=q)→R .non M)∧(shB ls.length sh=true∧ad t0 ls sh=p∧ad t1 ls sh=q→∀ c:Int × Int,Raw 9000 c (ad t2 ls sh)→R (rwD c) M)
def nI:DSp:=fun ds M R Y=>∃(ls:List T3) (x:D) (p q:Rat),ds=[.vl (ls.map f9),x,e7 p,e7 q]∧au ls x p q M R Y
theorem kr{ls:List T3}{x:D}{p q:Rat}{M:Mem}{R:DK}{Y:DXK}:nI [.vl (ls.map f9),x,e7 p,e7 q] M R Y=(au ls x p q M R Y):=propext ⟨fun z=>by obtain⟨_,_,_,_,_,_⟩:=z;walk_at "inj",fun h=>⟨ls,x,p,q,rfl,h⟩⟩
abbrev ar(ls:List T3)(p q y u:Rat)(M:Mem)(R:DK)(Y:DXK):Prop:=(L8 ls∧(sz p≤1100∧sz q≤1100)∧sz y≤3800∧sz u≤3800)∧R (.bl (wC ls p q (y,u))) M
def nG:DSp:=fun ds M R Y=>∃(ls:List T3) (p q y u:Rat),ds=[.vl (ls.map f9),e7 p,e7 q,p9 y u]∧ar ls p q y u M R Y
theorem kq{ls:List T3}{p q y u:Rat}{M:Mem}{R:DK}{Y:DXK}:nG [.vl (ls.map f9),e7 p,e7 q,p9 y u] M R Y=(ar ls p q y u M R Y):=propext ⟨fun z=>by obtain⟨_,_,_,_,_,_,_⟩:=z;walk_at "inj",fun h=>⟨ls,p,q,y,u,rfl,h⟩⟩
abbrev ah(ls:List T3)(p q:Rat)(t:D)(M:Mem)(R:DK)(Y:DXK):Prop:=∃ m:F6,xu M t m∧L8 ls∧(sz p≤1100∧sz q≤1100)∧MSz m∧R (.bl (uU ls p q m)) M
def nA:DSp:=fun ds M R Y=>∃(ls:List T3) (p q:Rat) (t:D),ds=[.vl (ls.map f9),e7 p,e7 q,t]∧ah ls p q t M R Y
theorem ki{ls:List T3}{p q:Rat}{t:D}{M:Mem}{R:DK}{Y:DXK}:nA [.vl (ls.map f9),e7 p,e7 q,t] M R Y=(ah ls p q t M R Y):=propext ⟨fun z=>by obtain⟨_,_,_,_,_,_⟩:=z;walk_at "inj",fun h=>⟨ls,p,q,t,rfl,h⟩⟩
abbrev T8(p q y u:Rat)(M:Mem)(R:DK)(Y:DXK):Prop:=(sz p+sz q+sz y+sz u≤8900)∧R (e7 (p*y+q*u)) M
def bZ:DSp:=fun ds M R Y=>∃(p q y u:Rat),ds=[e7 p,e7 q,p9 y u]∧T8 p q y u M R Y
theorem ff{p q y u:Rat}{M:Mem}{R:DK}{Y:DXK}:bZ [e7 p,e7 q,p9 y u] M R Y=(T8 p q y u M R Y):=propext ⟨fun z=>by obtain⟨_,_,_,_,_,_⟩:=z;walk_at "inj",fun h=>⟨p,q,y,u,rfl,h⟩⟩
abbrev aj(ls:List T3)(y u:Rat)(M:Mem)(R:DK)(Y:DXK):Prop:=(jP ls∧sz y≤3800∧sz u≤3800)∧R (.bl (L1 ls y u)) M
def nD:DSp:=fun ds M R Y=>∃(ls:List T3) (y u:Rat),ds=[.vl (ls.map f9),p9 y u]∧aj ls y u M R Y
theorem kl{ls:List T3}{y u:Rat}{M:Mem}{R:DK}{Y:DXK}:nD [.vl (ls.map f9),p9 y u] M R Y=(aj ls y u M R Y):=propext ⟨fun z=>by obtain⟨_,_,_,_,_⟩:=z;walk_at "inj",fun h=>⟨ls,y,u,rfl,h⟩⟩
abbrev U5(ls:List T3)(x:D)(M:Mem)(R:DK)(Y:DXK):Prop:=∃ sh:List (Int × Rat),j6 M x (sh.map shD)∧jP ls∧shB ls.length sh=true∧(∀ s∈sh,sz s.2≤3000)∧R (.vl [e7 (ad t0 ls sh),e7 (ad t1 ls sh),e7 (ad t2 ls sh)]) M
def iL:DSp:=fun ds M R Y=>∃(ls:List T3) (x:D),ds=[.vl (ls.map f9),x]∧U5 ls x M R Y
theorem fo{ls:List T3}{x:D}{M:Mem}{R:DK}{Y:DXK}:iL [.vl (ls.map f9),x] M R Y=(U5 ls x M R Y):=propext ⟨fun z=>by obtain⟨_,_,_,_⟩:=z;walk_at "inj",fun h=>⟨ls,x,rfl,h⟩⟩
abbrev cu(ls:List T3)(x:D)(M:Mem)(R:DK)(Y:DXK):Prop:=∃ sh:List (Int × Rat),j6 M x (sh.map shD)∧ls.length≤12∧sh.length≤20∧R (.bl (shB ls.length sh)) M
def uO:DSp:=fun ds M R Y=>∃(ls:List T3) (x:D),ds=[.vl (ls.map f9),x]∧cu ls x M R Y
theorem oW{ls:List T3}{x:D}{M:Mem}{R:DK}{Y:DXK}:uO [.vl (ls.map f9),x] M R Y=(cu ls x M R Y):=propext ⟨fun z=>by obtain⟨_,_,_,_⟩:=z;walk_at "inj",fun h=>⟨ls,x,rfl,h⟩⟩
abbrev U4(ls:List T3)(p q:Rat)(t:D)(M:Mem)(R:DK)(Y:DXK):Prop:=∃ m:F6,xu M t m∧jP ls∧(sz p≤530∧sz q≤530)∧MSz m∧R (.bl (uU ls p q m)) M
def iK:DSp:=fun ds M R Y=>∃(ls:List T3) (p q:Rat) (t:D),ds=[.vl (ls.map f9),e7 p,e7 q,t]∧U4 ls p q t M R Y
theorem fm{ls:List T3}{p q:Rat}{t:D}{M:Mem}{R:DK}{Y:DXK}:iK [.vl (ls.map f9),e7 p,e7 q,t] M R Y=(U4 ls p q t M R Y):=propext ⟨fun z=>by obtain⟨_,_,_,_,_,_⟩:=z;walk_at "inj",fun h=>⟨ls,p,q,t,rfl,h⟩⟩
abbrev U3(p:Addr)(n:Int)(M:Mem)(R:DK)(Y:DXK):Prop:=p7 M p∧(0≤n∧n≤5)∧∀(ls:List T3) M',(ls.length:Int)≤n→(∀ l∈ls,L24 l)→j1 p M M'→R (.vl (ls.map f9)) M'
def iJ:DSp:=fun ds M R Y=>∃(p:Addr) (n:Int),ds=[.ref p,.int n]∧U3 p n M R Y
theorem fk{p:Addr}{n:Int}{M:Mem}{R:DK}{Y:DXK}:iJ [.ref p,.int n] M R Y=(U3 p n M R Y):=propext ⟨fun z=>by obtain⟨_,_,_,_⟩:=z;walk_at "inj",fun h=>⟨p,n,rfl,h⟩⟩
abbrev U7(xs:List D)(n:Int)(M:Mem)(R:DK)(Y:DXK):Prop:=∃(ns:List Int) (k:Nat),n=(k:Int)∧(1≤k∧k≤5)∧xs=ns.map D.int∧ns.length≤63∧∀ ms:List Int,ms.length≤k→R (.vl (ms.map D.int)) M
def iP:DSp:=fun ds M R Y=>∃(xs:List D) (n:Int),ds=[.vl xs,.int n]∧U7 xs n M R Y
theorem fu{xs:List D}{n:Int}{M:Mem}{R:DK}{Y:DXK}:iP [.vl xs,.int n] M R Y=(U7 xs n M R Y):=propext ⟨fun z=>by obtain⟨_,_,_,_⟩:=z;walk_at "inj",fun h=>⟨xs,n,rfl,h⟩⟩
abbrev av(p:Addr)(ls:List T3)(M:Mem)(R:DK)(Y:DXK):Prop:=(p7 M p∧jP ls)∧∀(a b:Rat) M',sz a≤530→sz b≤530→j1 p M M'→R (p9 a b) M'
def nJ:DSp:=fun ds M R Y=>∃(p:Addr) (ls:List T3),ds=[.ref p,.vl (ls.map f9)]∧av p ls M R Y
theorem ku{p:Addr}{ls:List T3}{M:Mem}{R:DK}{Y:DXK}:nJ [.ref p,.vl (ls.map f9)] M R Y=(av p ls M R Y):=propext ⟨fun z=>by obtain⟨_,_,_,_⟩:=z;walk_at "inj",fun h=>⟨p,ls,rfl,h⟩⟩
end GM
namespace GM
open PySem PySem.Spec L2 DL
open RM (sz)
theorem uk(q:Rat):sz (q+q)≤sz q+1:=by
 have e:q+q=LW (2*q.num) (q.den:Int):=by
  have d:=q.den_pos
  rw[u7,Mb,MQ]
  have m:=G1 q
  have n1:(q.den:Rat)≠0:=fun z=>Mm d (by exact_mod_cast z)
  have two:((2:Int):Rat)=2:=rfl
  rw[two]
  grind
 rw[e]
 refine G9 (by have:=RM.Dc q;omega) ?_ ?_ (RM.o9 q)
 ·have:=j4 q
  rw[Mf,MC]
  show 2*q.num.natAbs<_
  omega
 ·have:=i4 q
  rw[MC]
  omega
theorem gB{α β:Type}(f:α→β):∀(l:List α) (k:Nat),(l.map f).eraseIdx k=(l.eraseIdx k).map f
 | [],_=>rfl
 | _ :: _,0=>rfl
 | a :: l,k+1=>by
  show f a :: (l.map f).eraseIdx k=f a :: (l.eraseIdx k).map f
  rw[gB f l k]
def xw(sh sh':List (Int × Rat)):Prop:=sh'.length≤sh.length+1∧∀ s∈sh',sz s.2≤42 ∨ ∃ s1∈sh,sz s.2≤sz s1.2+42
local macro_rules|`(tactic| walk_at "inj")=>`(tactic| (rename_i e h;simp only[List.cons.injEq,GM.C3,GM.B3,GM.G6,GM.E4,and_true,true_and,GM.i0,GM.i7,GM.h6,GM.i9,GM.h7,D.tup.injEq,D.ref.injEq,D.int.injEq,D.str.injEq,D.bl.injEq,D.vl.injEq,Ma,and_assoc]at e;(repeat(obtain⟨e1,e⟩:=e;subst e1));subst e;exact h))
local macro_rules|`(tactic| walk_at "injs")=>`(tactic| (rename_i e o h;rcases o with o|o<;>(subst o;first|(exfalso;simp only[D.tup.injEq,List.cons.injEq,reduceCtorEq,false_and,and_false]at e;done)|(simp only[List.cons.injEq,GM.C3,GM.B3,GM.G6,GM.E4,and_true,true_and,GM.i0,GM.i7,GM.h6,GM.i9,GM.h7,D.tup.injEq,D.ref.injEq,D.int.injEq,D.str.injEq,D.bl.injEq,D.vl.injEq,Ma,and_assoc]at e;(repeat(obtain⟨e1,e⟩:=e;subst e1));subst e;exact h))))
abbrev ag(p:Addr)(q:Rat)(M:Mem)(R:DK)(Y:DXK):Prop:=(p7 M p∧sz q≤4450)∧∀(r:Rat) M',sz r≤sz q+42→j1 p M M'→R (e7 r) M'
def di:DSp:=fun ds M R Y=>∃(p:Addr) (q:Rat),ds=[.ref p,e7 q]∧ag p q M R Y
theorem kg{p:Addr}{q:Rat}{M:Mem}{R:DK}{Y:DXK}:di [.ref p,e7 q] M R Y=(ag p q M R Y):=propext ⟨fun z=>by obtain⟨_,_,_,_⟩:=z;walk_at "inj",fun h=>⟨p,q,rfl,h⟩⟩
abbrev iE(p:Addr)(x:D)(n:Nat)(M:Mem)(R:DK)(Y:DXK):Prop:=∃ sh:List (Int × Rat),x = .vl (sh.map shD)∧p7 M p∧n≤12∧sh.length≤10∧(∀ s∈sh,sz s.2≤2900)∧∀(sh':List (Int × Rat)) M',xw sh sh'→j1 p M M'→R (.vl (sh'.map shD)) M'
def Dk:DSp:=fun ds M R Y=>∃(p:Addr) (x:D) (n:Nat),ds=[.ref p,x,.int (n:Int)]∧iE p x n M R Y
theorem sr{p:Addr}{x:D}{n:Nat}{M:Mem}{R:DK}{Y:DXK}:Dk [.ref p,x,.int (n:Int)] M R Y=(iE p x n M R Y):=propext ⟨fun z=>by obtain⟨_,_,_,_,_⟩:=z;walk_at "inj",fun h=>⟨p,x,n,rfl,h⟩⟩
abbrev ck(p:Addr)(y u:Rat)(M:Mem)(R:DK)(Y:DXK):Prop:=(p7 M p∧sz y≤4450∧sz u≤4450)∧∀(z:Zr) M',sz z.1≤sz y+42→sz z.2≤sz u+42→j1 p M M'→R (p9 z.1 z.2) M'
def uK:DSp:=fun ds M R Y=>∃(p:Addr) (y u:Rat),ds=[.ref p,p9 y u]∧ck p y u M R Y
theorem oR{p:Addr}{y u:Rat}{M:Mem}{R:DK}{Y:DXK}:uK [.ref p,p9 y u] M R Y=(ck p y u M R Y):=propext ⟨fun z=>by obtain⟨_,_,_,_,_⟩:=z;walk_at "inj",fun h=>⟨p,y,u,rfl,h⟩⟩
structure MSk(k:Nat)(m:F6):Prop where
 free:∀ z,m = .free z→sz z.1≤3710+42*k∧sz z.2≤3710+42*k
 most:∀ v z sh,m = .most v z sh→sz v≤4400+42*k∧(sz z.1≤3710+42*k∧sz z.2≤3710+42*k)∧sh.length≤2+k∧∀ s∈sh,sz s.2≤2700+42*k
theorem MSk.sz{k:Nat}{m:F6}(h:MSk k m)(hk:k≤2):MSz m:=⟨fun z e=>by have:=h.free z e;omega,fun v z sh e=>by obtain⟨a,b,c,d⟩:=h.most v z sh e;exact⟨by omega,by omega,by omega,fun s hs=>by have:=d s hs;omega⟩⟩
abbrev T9(p:Addr)(t:D)(ls:List T3)(M:Mem)(R:DK)(Y:DXK):Prop:=∃(m:F6) (k:Nat),t=m.toD∧p7 M p∧ls.length≤12∧k≤1∧MSk k m∧∀(m':F6) M',MSk (k+1) m'→j1 p M M'→R m'.toD M'
def iB:DSp:=fun ds M R Y=>∃(p:Addr) (t:D) (ls:List T3),ds=[.ref p,t,.vl (ls.map f9)]∧T9 p t ls M R Y
theorem fg{p:Addr}{t:D}{ls:List T3}{M:Mem}{R:DK}{Y:DXK}:iB [.ref p,t,.vl (ls.map f9)] M R Y=(T9 p t ls M R Y):=propext ⟨fun z=>by obtain⟨_,_,_,_,_⟩:=z;walk_at "inj",fun h=>⟨p,t,ls,rfl,h⟩⟩
theorem kN(M:Mem)(m:F6):xu M m.toD m:=by
 cases m with
 | free z=>rfl
 | most v z sh=>exact⟨_,rfl,.inr (.inr rfl)⟩
theorem MSk.up{k:Nat}{m:F6}(h:MSk k m):MSk (k+1) m:=⟨fun z e=>by have:=h.free z e;omega,fun v z sh e=>by obtain⟨a,b,c,d⟩:=h.most v z sh e;exact⟨by omega,by omega,by omega,fun s hs=>by have:=d s hs;omega⟩⟩
theorem Iv{p q:Rat}(h1:sz p≤530)(h2:sz q≤530):cb2 p q<2 ^ 1060:=by
 refine LR (jG p q) ?_
 rw[show 1060=530+530 from rfl,Mt]
 exact MG (j9 _ h1) (j9 _ h2)
theorem HD{p q:Rat}(h1:sz p≤530)(h2:sz q≤530):(wtF p q).1.natAbs<2 ^ 1060∧(wtF p q).2.natAbs<2 ^ 1060:=by
 have e:=jG p q
 have d1:=j9 _ h1
 have d2:=j9 _ h2
 refine⟨?_,?_⟩
 ·show(L9 p (cb2 p q)).natAbs<_
  unfold L9
  rw[Mf,LJ,show 1060=530+530 from rfl,Mt]
  exact My (J4 p h1) (LL (MX e) (MF d2)) (NC (by decide))
 ·show(L9 q (cb2 p q)).natAbs<_
  unfold L9
  rw[Mf,LJ,show 1060=530+530 from rfl,Mt]
  exact My (J4 q h2) (LL (MX (by rw[Nj];exact e)) (MF d1)) (NC (by decide))
theorem Hm{l:T3}(h:LSz 262 l):cbL l<2 ^ 786:=by
 have e:cbL l≤l.1.den*l.2.1.den*l.2.2.den:=by
  have a:=A9 (v9 (v9 1 l.1.den) l.2.1.den) l.2.2.den
  have b:=A9 (v9 1 l.1.den) l.2.1.den
  have c:=A9 1 l.1.den
  rw[Pd]at c
  exact LL a (Mo _ (LL b (Mo _ c)))
 refine LR e ?_
 rw[show 786=262+262+262 from rfl,Mt,Mt]
 exact MG (MG (j9 _ h.p) (j9 _ h.q)) (j9 _ h.r)
theorem FW{ls:List T3}(h:jP ls):∀ s∈f8 ls,s.2.2.2.2.natAbs<2 ^ 786:=fun s hs=>by
 obtain⟨l,hl,j,e⟩:=N4 hs
 have:=Hm (h.2 l hl).z
 rcases e with rfl|rfl
 ·show((cbL l:Nat):Int).natAbs<_;rw[LJ];exact this
 ·show(-((cbL l:Nat):Int)).natAbs<_;rw[MD,LJ];exact this
theorem mT{a b:Int}{n:Nat}(h1:a.natAbs<2 ^ n)(h2:b.natAbs<2 ^ n):(a - b).natAbs<2 ^ (n+1):=by
 have:=Nm a b
 rw[MC]
 omega
theorem BW{x y c s:Int}(hx:x.natAbs<2 ^ 1861)(hs:s.natAbs<2 ^ 786)(hc:c.natAbs<2 ^ 1060)(hy:y.natAbs<2 ^ 1601)(hn:c*y≠0):sz (LW (x*s) (c*y))≤2700 :=
 G9 (by decide) (Lz (j7 hx hs) (LD (by decide) (by decide))) (Lz (j7 hc hy) (LD (by decide) (by decide))) hn
theorem Am{ls:List T3}(h24:jP ls){p q:Rat}(hp:sz p≤530)(hq:sz q≤530):MSk 0 (gr ls p q):=by
 have h:=h24.a
 have s1:=RM.uo
 have s0:=RM.Z3
 unfold gr
 by_cases c:p=0∧q=0
 ·rw[if_pos c]
  refine⟨fun z hz=>(by cases hz),fun v z sh hz=>?_⟩
  cases hz
  exact⟨by show sz 0≤_;omega,⟨by show sz 0≤_;omega,by show sz 0≤_;omega⟩,Ms _,fun s hs=>by cases hs⟩
 rw[if_neg c]
 by_cases hne:ls=[]
 ·subst hne
  refine⟨fun z hz=>?_,fun v z sh hz=>by cases hz⟩
  cases hz
  exact⟨by show sz p≤_;omega,by show sz q≤_;omega⟩
 obtain⟨h0,l,e,m0,hh⟩:=V2 h.lo hne
 rw[e]
 cases l with
 | nil =>
  obtain⟨m,j,em,en,eq⟩:=kW m0
  have hm:=(h24.2 m (LS em)).z
  have mn:=(h24.2 m (LS em)).ok.ne
  have z1:=hm.p
  have z2:=hm.q
  have z3:=hm.r
  show MSk 0 (Y8 (ls.getD h0.2.2.2.1.toNat (0,0,0)) h0.2.2.2.1 p q)
  rw[en,Mp,Mr,em]
  show MSk 0 (Y8 m (j:Int) p q)
  unfold Y8
  split
  ·refine⟨fun z hz=>?_,fun v z sh hz=>by cases hz⟩
   cases hz
   exact⟨by show sz m.2.1≤_;omega,by show sz (-m.1)≤_;rw[RM.N0];omega⟩
  ·split
   ·refine⟨fun z hz=>?_,fun v z sh hz=>by cases hz⟩
    cases hz
    exact⟨by show sz (-m.2.1)≤_;rw[RM.N0];omega,by show sz m.1≤_;omega⟩
   ·have sh:sz (if m.1=0 then q / m.2.1 else p / m.1)≤792:=by
     split
     ·rename_i w
      have:=RM.W6 q m.2.1 (fun w2=>mn ⟨w,w2⟩)
      omega
     ·rename_i w
      have:=RM.W6 p m.1 w
      omega
    generalize (if m.1=0 then q / m.2.1 else p / m.1)=s at *
    refine⟨fun z hz=>(by cases hz),fun v z sh hz=>?_⟩
    cases hz
    have a1:=W7 s
    have a2:=RM.r9 (u9 s) m.2.2
    have sq:=uu c
    have a3:=RM.r9 p p
    have a4:=RM.r9 q q
    have a5:sz (sqZ p q)≤sz (p*p)+sz (q*q)+1:=RM.E9 (p*p) (q*q)
    have a6:=RM.W6 (u9 s*m.2.2) (sqZ p q) (J2 sq)
    have a7:=RM.r9 p (u9 s*m.2.2 / sqZ p q)
    have a8:=RM.r9 q (u9 s*m.2.2 / sqZ p q)
    exact⟨by omega,⟨by show sz (p*_)≤_;omega,by show sz (q*_)≤_;omega⟩,by show 1≤_;omega,fun t ht=>by rw[Mk.mp ht];show sz s≤_;omega⟩
 | cons x l =>
  obtain⟨a,b,ea,A⟩:=mF h.lo e (BU c)
  obtain⟨v1,_⟩:=AV A
  have vp:=A.ve
  obtain⟨r1,r2⟩:=FY h A.ma A.mb (by omega)
  show MSk 0 (match mH (h0 :: x :: l) (wtF p q)with|none=>F6.free (0,0)|some (a,b)=>.most (vlF a b (wtF p q) (cb2 p q)) (ry (tri a) (tri b)) (shF a b (wtF p q) (cb2 p q)))
  rw[ea]
  refine⟨fun z hz=>(by cases hz),fun v z sh hz=>?_⟩
  cases hz
  rw[v1]
  have m1:=RM.r9 p (ry (tri a) (tri b)).1
  have m2:=RM.r9 q (ry (tri a) (tri b)).2
  have m3:=RM.E9 (p*(ry (tri a) (tri b)).1) (q*(ry (tri a) (tri b)).2)
  refine⟨by omega,⟨by omega,by omega⟩,?_,fun t ht=>?_⟩
  ·unfold shF
   rw[ur]
   exact LL (Nh _ _) (by show 2≤2+0;decide)
  ·have hb1:=h.bits a A.ma
   have hb2:=h.bits b A.mb
   obtain⟨w1,w2⟩:=HD hp hq
   have cc:=Iv hp hq
   have cpos:=cz p q
   have hy:(veZ a b).natAbs<2 ^ 1601:=by
    unfold veZ
    exact mT (j7 hb1.1 hb2.2.1) (j7 hb1.2.1 hb2.1)
   have hx1:(wVe (wtF p q) b).natAbs<2 ^ 1861:=by
    unfold wVe
    exact mT (j7 w1 hb2.2.1) (j7 w2 hb2.1)
   have hx2:(veW a (wtF p q)).natAbs<2 ^ 1861:=by
    unfold veW
    have q1:=j7 hb1.1 w2
    have q2:=j7 hb1.2.1 w1
    exact mT (n:=1860) q1 q2
   have hn:((cb2 p q:Nat):Int)*veZ a b≠0:=Mn (by omega) (by omega)
   have hc:((cb2 p q:Nat):Int).natAbs<2 ^ 1060:=by rw[LJ];exact cc
   have mem:t∈[(a.2.2.2.1,LW (wVe (wtF p q) b*a.2.2.2.2) (cb2 p q*veZ a b)),(b.2.2.2.1,LW (veW a (wtF p q)*b.2.2.2.2) (cb2 p q*veZ a b))]:=by
    have:∀(L:List (Int × Rat)),t∈mU L→t∈L:=fun L h=>by
     unfold mU at h
     split at h
     ·split at h
      ·simp only[LB,LK,or_false]at h ⊢
       exact h.symm
      ·exact h
     ·exact h
    exact(OG.mp (this _ ht)).1
   simp only[LB,LK,or_false]at mem
   rcases mem with rfl|rfl
   ·exact BW hx1 (FW h24 a A.ma) hc hy hn
   ·exact BW hx2 (FW h24 b A.mb) hc hy hn
end GM
namespace K25
open PySem PySem.Spec L2 DL GM
open RM (sz)
open PyProof.Rows hiding St
local macro_rules|`(tactic| walk_at "sim")=>do
 let f:=fun(b:Bool) (p:String) (s:String)=>((s.splitOn " ").mapM (fun s=>(let i:=Lean.mkIdent (p++s).toName;if b then `(Lean.Parser.Tactic.simpLemma| ↓$i:ident)else `(Lean.Parser.Tactic.simpLemma| $i:ident))):Lean.MacroM _)
 let a := "z_C FC Fz Fx Fy Fw Fv Fu tu BP BR FA BB tT tI FE BI BC tP Bw BF tR FF tK By tO Bz pM pA tq pB cS kD BQ BA tH BS BE BD BH BK BJ tL tQ Bx kK tF pL pN kF fT kC kG pz tm pq BL BN pQ Bv pD tD tw kJ pP pO pC pI pF pH pG pE tE kI pK BM BO tM tN FD tU tS pR bz cG fG cH fF bx cE fE cF fD bC cM fN cN fM bB cK fL cL fK bA cI fJ cJ fH bE cQ fR cR fQ bD cO fP cP fO Fg Ff Fe Fd Fc Fb EZ EY EW EV Bh Bg Bf Ft Fs Fq Fp Fo Fm Fl Fj Fi Fh Bu Bt Bs W3 W2 gM tj sZ sY sX sW sV sU sT sS sR sQ sP sO Br Bq Bp Bo Bn Bm Bl Bk Bj Bi BG pJ kH"
 let b := "kB fA oZ sN sM sL sJ pe pd pb pf pk pj ph kA kv sI ku fy kr sH sG fu ft sF kq ko oY fq oX fo oW fm km kl cD kj fk sE oV ki oU oT sD kg oS oR sC sA ke sx sv su sr kc cC fj fh jZ jY jX oQ fg oP oO jW jV ff oN bw oM fe jU cB oK jT jS jR oJ fc ax aw iT av U8 au iR iQ U7 U6 iM ar aq ao cw U5 cu U4 ak aj P1 ai U3 iH ah cq cp cn iG ag cm ck af iE S3 U1 U0 ae aa Z9 cj T9 cg Z8 Z7 cf T8"
 let xs:=((← f true "DL." a)++(← f true "GM." b)++(← f false "GM." b)++(← f false "DL." a)++(← f false "" "DL.yH DL.yv DL.yj DL.yd DL.yI DL.yw DL.yk DL.ye DL.yJ DL.yx DL.ym DL.yf DL.yK DL.yy DL.yn DL.yg DL.yL DL.yz DL.yo DL.yh DL.yM DL.yG DL.yp DL.yi DL.xR DL.xX DL.xS DL.xY DL.xT DL.xZ DL.xU DL.ya DL.xV DL.yb DL.xW DL.yc GM.yq GM.yr GM.yt GM.yu DL.CQ DL.CO DL.CN DL.CM DL.CL DL.CK DL.CJ DL.CI DL.CH DL.xQ DL.xP DL.xO Nat.reduceAdd Nat.reduceLT Nat.reduceLeDiff Pw Int.reduceLT Int.reduceLE Int.reduceEq eq_self decide_true decide_false D.int.injEq D.str.injEq beq_self_eq_true and_self true_and and_true not_true_eq_false not_false_eq_true false_implies true_implies forall_const K4 Mv Nq List.cons_append PN Nx Me List.length_nil Nb mC List.getElem?_cons_zero List.getElem?_cons_succ Option.getD_some decide_eq_true_eq decide_eq_false_iff_not Bool.not_eq_true' Bool.not_eq_false' Bool.and_self Mw NQ Bool.xor_false Bool.false_xor Bool.true_xor Bool.not_true Bool.not_false Nc Bool.true_eq_false reduceIte GM.r0 GM.r1 GM.r2 GM.r4 GM.rm1 GM.rm2 GM.i0 GM.Dw GM.FZ GM.BY GM.Dv")).toArray
 `(tactic| try simp only[$xs,*])
local macro_rules|`(tactic| walk_at "fn")=>do
 let i:=fun(s:String)=>Lean.mkIdent s.toName
 let x:=(("f cdv A outer s H E ds M R Y hr h".splitOn " ").map i).toArray
 `(tactic| (refine $(i "g9") $(i "d") $(i "sc") (by walk_at "len") (fun $x*=>?_);have $(i "hu"):ident:=$(i "hr.units")))
local macro_rules|`(tactic| walk_at "len")=>`(tactic| (intro ds M R Y h;repeat(first|exact congrArg PD h.1|(obtain⟨_,h⟩:=h))))
local macro_rules|`(tactic| walk_at "size")=>`(tactic| first|omega|grind only[RM.r9,RM.E9,RM.CZ,RM.N0,RM.uo,RM.Z3,GM.W7])
local macro_rules|`(tactic| walk_at "sc")=>`(tactic| exact⟨rfl,rfl,rfl,by decide +kernel,rfl,by decide +kernel,by decide +kernel⟩)
noncomputable def top(i:Nat):Stmt:=PySem.Challenge.pw_roundglass_k25_most_judged.main.body.getD i (.Pass ⟨0,0,0,0⟩)
noncomputable abbrev O7:Stmt:=top 50
noncomputable abbrev ni:Stmt:=top 17
noncomputable abbrev Z6:Stmt:=top 22
noncomputable abbrev X1:Stmt:=top 10
noncomputable abbrev ix:Stmt:=top 43
noncomputable abbrev O0:Stmt:=top 42
noncomputable abbrev X6:Stmt:=top 44
noncomputable abbrev aW:Stmt:=top 23
noncomputable abbrev nr:Stmt:=top 24
noncomputable abbrev N9:Stmt:=top 45
noncomputable abbrev N7:Stmt:=top 46
noncomputable abbrev O2:Stmt:=top 71
noncomputable abbrev X9:Stmt:=top 52
noncomputable abbrev X7:Stmt:=top 53
noncomputable abbrev O3:Stmt:=top 54
noncomputable abbrev S1:Stmt:=top 62
noncomputable abbrev P0:Stmt:=top 65
noncomputable abbrev C5:Stmt:=top 66
noncomputable abbrev O1:Stmt:=top 61
noncomputable abbrev O8:Stmt:=top 56
noncomputable abbrev S0:Stmt:=top 63
noncomputable abbrev O4:Stmt:=top 67
noncomputable abbrev S2:Stmt:=top 55
noncomputable abbrev R8:Stmt:=top 49
noncomputable abbrev O5:Stmt:=top 68
noncomputable abbrev A7:Stmt:=top 69
noncomputable abbrev C4:Stmt:=top 70
noncomputable abbrev K0:Stmt:=top 72
noncomputable abbrev R6:Stmt:=top 51
noncomputable abbrev K1:Stmt:=top 57
noncomputable abbrev X8:Stmt:=top 58
noncomputable abbrev aX:Stmt:=top 7
noncomputable abbrev X4:Stmt:=top 6
noncomputable abbrev iq:Stmt:=top 8
noncomputable abbrev de:Stmt:=top 28
noncomputable abbrev df:Stmt:=top 34
noncomputable abbrev dg:Stmt:=top 26
noncomputable abbrev G4:Stmt:=top 38
noncomputable abbrev J3:Stmt:=top 16
noncomputable abbrev B9:Stmt:=top 15
noncomputable abbrev J9:Stmt:=top 39
noncomputable abbrev ip:Stmt:=top 13
noncomputable abbrev iu:Stmt:=top 20
noncomputable abbrev nk:Stmt:=top 14
noncomputable abbrev X0:Stmt:=top 37
noncomputable abbrev X3:Stmt:=top 9
noncomputable abbrev nj:Stmt:=top 11
noncomputable abbrev ir:Stmt:=top 12
noncomputable abbrev iw:Stmt:=top 19
noncomputable abbrev N8:Stmt:=top 40
noncomputable abbrev nh:Stmt:=top 29
noncomputable abbrev R4:Stmt:=top 32
noncomputable abbrev R5:Stmt:=top 30
noncomputable abbrev R3:Stmt:=top 31
noncomputable abbrev X2:Stmt:=top 27
noncomputable abbrev X5:Stmt:=top 33
noncomputable abbrev nq:Stmt:=top 41
noncomputable abbrev O9:Stmt:=top 64
noncomputable abbrev R9:Stmt:=top 59
noncomputable abbrev O6:Stmt:=top 60
noncomputable abbrev R7:Stmt:=top 48
noncomputable abbrev uH:Stmt:=top 73
theorem eC:e9 ["script","bound","found","k"] ["script","bound"] (e6 O7):=by walk_at "sc"
theorem yX:e9 ["one","other"] ["one","other"] (e6 ni):=by walk_at "sc"
theorem fX:e9 ["p","q","ray","y","u","top"] ["p","q","ray"] (e6 Z6):=by walk_at "sc"
theorem la:e9 ["one"] ["one"] (e6 X1):=by walk_at "sc"
theorem uF:e9 ["lines","shares","sums","number","share","weights"] ["lines","shares"] (e6 ix):=by walk_at "sc"
theorem dZ:e9 ["lines","shares","last","number","share"] ["lines","shares"] (e6 O0):=by walk_at "sc"
theorem lq:e9 ["lines","shares","p","q","sums"] ["lines","shares","p","q"] (e6 X6):=by walk_at "sc"
theorem mZ:e9 ["line","ray","p","q","r","top","bottom"] ["line","ray"] (e6 aW):=by walk_at "sc"
theorem zh:e9 ["lines","ray"] ["lines","ray"] (e6 nr):=by walk_at "sc"
theorem dY:e9 ["lines","p","q","ray"] ["lines","p","q","ray"] (e6 N9):=by walk_at "sc"
theorem dW:e9 ["lines","p","q","told","word","value","ray","shares","bound"] ["lines","p","q","told"] (e6 N7):=by walk_at "sc"
theorem et:e9 ["found","due"] ["found","due"] (e6 O2):=by walk_at "sc"
theorem lz:e9 ["top","bottom","one","other"] ["top","bottom"] (e6 X9):=by walk_at "sc"
theorem lr:e9 ["one","other"] ["one","other"] (e6 X7):=by walk_at "sc"
theorem eu:e9 ["one","other"] ["one","other"] (e6 O3):=by walk_at "sc"
theorem ij:e9 ["one"] ["one"] (e6 S1):=by walk_at "sc"
theorem eF:e9 ["lines","shares","found","number","share","by"] ["lines","shares"] (e6 P0):=by walk_at "sc"
theorem W9:e9 ["lines","shares","numbers"] ["lines","shares"] (e6 C5):=by walk_at "sc"
theorem ee:e9 ["p","q","ray"] ["p","q","ray"] (e6 O1):=by walk_at "sc"
theorem eD:e9 ["one","other"] ["one","other"] (e6 O8):=by walk_at "sc"
theorem ig:e9 ["lines","ray","p","q","r"] ["lines","ray"] (e6 S0):=by walk_at "sc"
theorem ey:e9 ["lines","p","q","told","word","value","ray","shares"] ["lines","p","q","told"] (e6 O4):=by walk_at "sc"
theorem ik:e9 ["one"] ["one"] (e6 S2):=by walk_at "sc"
theorem hZ:e9 ["pool","base","digit","near","stir"] ["pool","base"] (e6 R8):=by walk_at "sc"
theorem eA:e9 ["pool","number","some"] ["pool","number"] (e6 O5):=by walk_at "sc"
theorem Q5:e9 ["pool","shares","many_lines","found","at","pick","number"] ["pool","shares","many_lines"] (e6 A7):=by walk_at "sc"
theorem W8:e9 ["pool","ray"] ["pool","ray"] (e6 C4):=by walk_at "sc"
theorem cZ:e9 ["pool","told","lines","word","value","ray","shares","pick"] ["pool","told","lines"] (e6 K0):=by walk_at "sc"
theorem hJ:e9 ["pool","base","number","turn_v"] ["pool","base"] (e6 R6):=by walk_at "sc"
theorem dc:e9 ["pool","pick","far"] ["pool"] (e6 K1):=by walk_at "sc"
theorem lu:e9 ["pool"] ["pool"] (e6 X8):=by walk_at "sc"
theorem nc:e9 ["one","other"] ["one","other"] (e6 aX):=by walk_at "sc"
theorem ll:e9 ["thing"] ["thing"] (e6 X4):=by walk_at "sc"
theorem uB:e9 ["top","bottom","share"] ["top","bottom"] (e6 iq):=by walk_at "sc"
theorem gX:e9 ["one","other"] ["one","other"] (e6 de):=by walk_at "sc"
theorem rh:e9 ["one","other","bottom","y","u"] ["one","other"] (e6 df):=by walk_at "sc"
theorem rj:e9 ["side","p","q","r","number","scale"] ["side"] (e6 dg):=by walk_at "sc"
theorem bP:e9 ["half","wanted","rim","found","one","other"] ["half","wanted"] (e6 G4):=by walk_at "sc"
theorem Z5:e9 ["ratios","bottom"] ["ratios","bottom"] (e6 J3):=by walk_at "sc"
theorem L0:e9 ["ratios","bottom","one"] ["ratios"] (e6 B9):=by walk_at "sc"
theorem cY:e9 ["half","p","q","bottom","wanted","one","other","of_one","of_other","whole","value","shares"] ["half","p","q"] (e6 J9):=by walk_at "sc"
theorem uA:e9 ["one","other"] ["one","other"] (e6 ip):=by walk_at "sc"
theorem uD:e9 ["ray","share"] ["ray","share"] (e6 iu):=by walk_at "sc"
theorem yZ:e9 ["one","other"] ["one","other"] (e6 nk):=by walk_at "sc"
theorem kZ:e9 ["p","q","ray","top","bottom"] ["p","q","ray"] (e6 X0):=by walk_at "sc"
theorem lj:e9 ["one"] ["one"] (e6 X3):=by walk_at "sc"
theorem yY:e9 ["one","other"] ["one","other"] (e6 nj):=by walk_at "sc"
theorem uC:e9 ["one","other"] ["one","other"] (e6 ir):=by walk_at "sc"
theorem uE:e9 ["one","other","y","u","z","w"] ["one","other"] (e6 iw):=by walk_at "sc"
theorem dX:e9 ["lines","number","p","q","own_p","own_q","r","bend","share","value","ray"] ["lines","number","p","q"] (e6 N8):=by walk_at "sc"
theorem yW:e9 ["one","other","third"] ["one","other","third"] (e6 nh):=by walk_at "sc"
theorem gZ:e9 ["sides","here","found","side","bend"] ["sides","here"] (e6 R4):=by walk_at "sc"
theorem hG:e9 ["one","other","more"] ["one","other"] (e6 R5):=by walk_at "sc"
theorem gY:e9 ["sides","found","side"] ["sides"] (e6 R3):=by walk_at "sc"
theorem lh:e9 ["lines","sides","number","line","scale","p","q","r","side"] ["lines"] (e6 X2):=by walk_at "sc"
theorem lp:e9 ["lines","sides","half","here"] ["lines"] (e6 X5):=by walk_at "sc"
theorem ze:e9 ["lines","p","q","half"] ["lines","p","q"] (e6 nq):=by walk_at "sc"
theorem eE:e9 ["pool","lines","p","q","pick","one","by","other"] ["pool","lines"] (e6 O9):=by walk_at "sc"
theorem ic:e9 ["pool","p","q"] ["pool"] (e6 R9):=by walk_at "sc"
theorem eB:e9 ["pool","most_lines","found","k","line","pick","ahead","by","one","other"] ["pool","most_lines"] (e6 O6):=by walk_at "sc"
theorem hV:e9 ["cell"] ["cell"] (e6 R7):=by walk_at "sc"
theorem Dj:e9 ["script","cell","pool","lines","p","q","told","asked","one","due","handed","kept"] ["script"] (e6 uH):=by walk_at "sc"
structure Txt(K:Ly)(mg:Str→Option Value):Prop where
 b_abs:mg "abs" = none
 b_all:mg "all" = none
 b_any:mg "any" = none
 b_bool:mg "bool" = none
 b_enumerate:mg "enumerate" = none
 b_int:mg "int" = none
 b_isinstance:mg "isinstance" = none
 b_len:mg "len" = none
 b_list:mg "list" = none
 b_max:mg "max" = none
 b_min:mg "min" = none
 b_range:mg "range" = none
 b_set:mg "set" = none
 b_sorted:mg "sorted" = none
 b_tuple:mg "tuple" = none
 b_zip:mg "zip" = none
 sub:xv K
 c_MOST_SHARES:GlD K mg "MOST_SHARES" (.int 2)
 c_NOUGHT:GlD K mg "NOUGHT" (.tup [(.int 0),(.int 1)])
 c_ONE:GlD K mg "ONE" (.tup [(.int 1),(.int 1)])
section
variable {P:Program} {w:World} {K:Ly} {mg:Str→Option Value} {base:Heap}
theorem eR(T:Txt K mg)(d:Df K mg "_law_cells" O7 ["script","bound"]):Fn P w K mg base "_law_cells" 1 ["script","bound"] iP:=by
 have sc:=eC
 walk_at "fn"
 obtain⟨xs,nn,rfl,ns,c,rfl,⟨c1,c5⟩,rfl,hl,k⟩:=h
 refine⟨_,(d7 (jst 2 sc.nd (vY (jt (aF rfl T.b_list aO (a9 (V1 (d4 0) L5 (L4 (d4 1))) d5)) (p8 (a9 d6 d5))) L5 (L4 (j2 (Cy rfl) rfl T.b_max xp (a9 d6 (a9 (j2 (Ht rfl) rfl T.b_min ED (a9 (d4 1) (a9 (j2 F8 rfl T.b_len B2 (a9 (d4 0) d5)) d5))) d5)))))) (d7 (t4 PassesOwn.never rfl (vT rfl T.b_range (a9 (d4 1) (a9 (j2 F8 rfl T.b_len B2 (a9 (d4 0) d5)) d5))) (jn 3 sc.nd) (d8 (m7 (e8 A5 (e8 g8 (jx (d4 2) (e8 S5 (d4 3) (d4 1))) d6) (jx (d4 0) (d4 3))) (V0 (d4 2) (e8 S5 (d4 3) (d4 1)))))) (d8 (d9 (bg (bf (d4 2))))))),?_⟩
 walk_at "sim"
 unfold dSl
 walk_at "sim"
 have l1:(ns.map D.int).length=ns.length:=LF ..
 have e3:DL.Y5 (ns.map D.int) none (some (c:Int))=(ns.take c).map D.int:=by rw[om,Pl]
 obtain⟨m,hm,hm1,hm2⟩:∃ m:Nat,max 1 (min (c:Int) ((ns.map D.int).length:Int))=(m:Int)∧m≤c∧(c<ns.length→m=c):=⟨max 1 (min c ns.length),by rw[l1];omega,by omega,by omega⟩
 rw[e3,hm,show(ns.take c).map D.int++[D.int 0]=(ns.take c++[0]).map D.int by rw[LX];rfl]
 refine⟨LL (show _≤6 by rw[LF,Ml];omega) (by decide),?_⟩
 have hz:((ns.take c++[0]).take m).length≤c∧(c<ns.length→((ns.take c++[0]).take m).length=c):=by
  rw[Ml,Mi,Ml]
  show min m (min c ns.length+1)≤c∧_
  exact⟨by omega,fun h=>by show min m (min c ns.length+1)=c;have:=hm2 h;omega⟩
 refine⟨_,rfl,fun p hp=>?_⟩
 rw[om,← Pl]
 generalize (ns.take c++[0]).take m=ms0 at *
 refine⟨by omega,?_⟩
 refine T5.by (fun i e M'=>(∃ z3:Option D,e=[some (D.vl (ns.map D.int)),some (D.int (c:Int)),some (D.ref p),z3])∧∃ ms:List Int,ms.length=ms0.length∧M'=v7 M p (.lst (ms.map D.int))) ⟨⟨_,rfl⟩,ms0,rfl,rfl⟩ (fun i e M' _ _=>trivial) ?_ ?_
 ·rintro i dd e M' hd ⟨⟨z3,rfl⟩,ms,hml,rfl⟩
  obtain⟨hi,rfl⟩:=gc hd
  have h3:ms.length=c:=by rw[hml];exact hz.2 (by omega)
  have hj:∃ j:Nat,((c:Int)+(i:Int)) % (c:Int)=(j:Int)∧j<c:=⟨((c+i) % c),by rw[← Int.natCast_add,PC],NR _ (by omega)⟩
  obtain⟨j,ej,hj⟩:=hj
  have hgj:ms[j]? = some (ms[j]'(by omega)):=LU (by omega)
  generalize ms[j]'(by omega)=v at hgj
  have hgi:ns[c+i]? = some (ns[c+i]'(by omega)):=LU (by omega)
  generalize ns[c+i]'(by omega)=w at hgi
  walk_at "sim"
  rw[ej]
  refine⟨by omega,_,B0 f7 (m8 (n:=j) (by rw[LY,hgj];rfl)),?_⟩
  walk_at "sim"
  refine⟨IntMulOk.of_right (by decide),?_⟩
  rw[show(c:Int)+(i:Int)=((c+i:Nat):Int)by omega]
  refine⟨_,(show ixD _ (D.vl (ns.map D.int)) _=some (D.int w)from m8 (n:=c+i) (by rw[LY,hgi];rfl)),?_⟩
  walk_at "sim"
  refine⟨by omega,qM (j:=j) f7 (by rw[LF];omega) ⟨⟨_,rfl⟩,ms.set j (v*31+w),by rw[OI];exact hml,?_⟩⟩
  rw[Z1,List.map_set]
 ·rintro e M' ⟨⟨z3,rfl⟩,ms,hml,rfl⟩
  walk_at "sim"
  rw[cT f7,aK hp]
  exact⟨_,fun _ _ h=>h,k ms (by omega)⟩
theorem Ab(T:Txt K mg)(d:Df K mg "same" ni ["one","other"]):Fn P w K mg base "same" 1 ["one","other"] iF:=by
 have sc:=yX
 walk_at "fn"
 obtain⟨x,y,rfl,a,b,rfl,rfl,⟨h1,h2⟩,⟨h3,h4⟩,k⟩:=h
 unfold rwD
 refine⟨_,(d8 (d9 (jm q9 (e8 g8 (jx (d4 0) d6) (jx (d4 1) d6)) (e8 g8 (jx (d4 1) d6) (jx (d4 0) d6))))),?_⟩
 walk_at "sim"
 exact⟨i5 _ _ h1 h4 (by omega),i5 _ _ h3 h2 (by omega),k⟩
theorem iZ(T:Txt K mg)(d:Df K mg "sum_by" Z6 ["p","q","ray"]):Fn P w K mg base "sum_by" 1 ["p","q","ray"] iC:=by
 have sc:=fX
 walk_at "fn"
 obtain⟨d,x,w,rfl,a,rfl,⟨h1,h2⟩,⟨h3,h4⟩,k⟩:=h
 unfold rwD
 have o:(Rat.num 1).natAbs<2 ^ 1:=by decide
 have o2:((Rat.den 1:Nat):Int).natAbs<2 ^ 1:=by decide
 refine⟨_,(d7 (m7 (d4 2) (j5 (n:=2) rfl (e5 (jn 3 sc.nd) (e5 (jn 4 sc.nd) i6)))) (d7 (jst 5 sc.nd (e8 A5 (e8 g8 (e8 g8 (e8 g8 (jx (d4 0) d6) (jx (d4 3) d6)) (jx (d4 1) d6)) (jx (d4 4) d6)) (e8 g8 (e8 g8 (e8 g8 (jx (d4 1) d6) (jx (d4 4) d6)) (jx (d4 0) d6)) (jx (d4 3) d6)))) (d8 (d9 (f6 (a9 (d4 5) (a9 (e8 g8 (e8 g8 (e8 g8 (jx (d4 0) d6) (jx (d4 3) d6)) (jx (d4 1) d6)) (jx (d4 4) d6)) d5))))))),?_⟩
 walk_at "sim"
 exact⟨i5 _ _ h1 o (by omega),i5 _ _ (j7 h1 o) (i4 x) (by omega),i5 _ _ (j7 (j7 h1 o) (i4 x)) (i4 w) (by omega),i5 _ _ (j4 x) (j4 w) (by omega),i5 _ _ (j7 (j4 x) (j4 w)) h2 (by omega),i5 _ _ (j7 (j7 (j4 x) (j4 w)) h2) o2 (by omega),i5 _ _ h2 o2 (by omega),i5 _ _ (j7 h2 o2) (i4 x) (by omega),i5 _ _ (j7 (j7 h2 o2) (i4 x)) (i4 w) (by omega),k⟩
theorem lI(T:Txt K mg)(d:Df K mg "unsigned" X1 ["one"]):Fn P w K mg base "unsigned" 1 ["one"] cW:=by
 have sc:=la
 walk_at "fn"
 obtain⟨q,rfl,k⟩:=h
 refine⟨_,(d8 (d9 (f6 (a9 (j2 dM rfl T.b_abs Y7 (a9 (jx (d4 0) d6) d5)) (a9 (jx (d4 0) d6) d5))))),?_⟩
 walk_at "sim"
 exact k
theorem vH(T:Txt K mg)(d:Df K mg "added" ix ["lines","shares"])(JB:Fn P w K mg base "sum_by" 1 ["p","q","ray"] iC)(IZ:Fn P w K mg base "unsigned" 1 ["one"] cW):Fn P w K mg base "added" 2 ["lines","shares"] nM:=by
 have sc:=uF
 walk_at "fn"
 obtain⟨ls,x,rfl,sh,hx,hls,hb,hz,k⟩:=h
 obtain⟨hl2,hm⟩:=qc hb
 refine⟨_,(d7 (jst 2 sc.nd (p8 (a9 (w6 rfl T.c_NOUGHT) (a9 (w6 rfl T.c_NOUGHT) (a9 (w6 rfl T.c_NOUGHT) d5))))) (d7 (t4 PassesOwn.never rfl (o8 (d4 1)) (j5 (n:=2) rfl (e5 (jn 3 sc.nd) (e5 (jn 4 sc.nd) i6))) (d7 (jst 5 sc.nd (f6 (a9 (d4 4) (a9 (d4 4) (a9 (jc IZ hr (a9 (d4 4) d5)) d5))))) (d8 (aC (i:=2) [] ["one","part","weight"] [] sc.nd rfl (Or.inl rfl) rfl (by decide +kernel) rfl (by decide +kernel) (by decide +kernel) rfl bq bq (vS rfl T.b_zip (a9 (d4 2) (a9 (jx (d4 0) (d4 3)) (a9 (d4 5) d5)))) (fun _ _ _ _ _ _=>(j5 (n:=3) rfl (e5 (jn 0 (show(["one","part","weight"]:List Str).Nodup by decide +kernel)) (e5 (jn 1 (show(["one","part","weight"]:List Str).Nodup by decide +kernel)) (e5 (jn 2 (show(["one","part","weight"]:List Str).Nodup by decide +kernel)) i6))))) (fun _ _ _ _ _ _=>t7) (fun _ _ _ _ _ _=>(jc JB hr (a9 (d4 0) (a9 (d4 1) (a9 (f6 (a9 (w6 rfl T.c_ONE) (a9 (d4 2) d5))) d5))))))))) (d8 (d9 (d4 2))))),?_⟩
 walk_at "sim"
 refine J6 hx ?_
 refine T5.by (fun i e M'=>M'=M∧∃(a b c:Int × Int) (z3 z4 z5:Option D),e=[some (.vl (ls.map f9)),some x,some (.vl [rwD a,rwD b,rwD c]),z3,z4,z5]∧Raw (1+3549*i) a (ad t0 ls (sh.take i))∧Raw (1+3549*i) b (ad t1 ls (sh.take i))∧Raw (1+3549*i) c (ad t2 ls (sh.take i))) ⟨rfl,(0,1),(0,1),(0,1),_,_,_,rfl,Raw.zero,Raw.zero,Raw.zero⟩ (fun i e M' _ h=>by rw[h.1];exact hx) ?_ ?_
 ·rintro i dd e M' hd ⟨rfl,a,b,c,z3,z4,z5,rfl,ra,rb,rc⟩
  obtain⟨s,hs,rfl⟩:=gT hd
  have hsm:=LS hs
  obtain⟨s0,sn,snz⟩:=hm s hsm
  have ssz:=hz s hsm
  obtain⟨j,hj⟩:∃ j:Nat,s.1=(j:Int):=⟨s.1.toNat,by omega⟩
  have hlj:ls[j]? = some (ls[j]'(by omega)):=LU (by omega)
  generalize ls[j]'(by omega)=l at hlj
  have ok:=hls.2 l (LS hlj)
  unfold shD
  walk_at "sim"
  rw[hj]
  refine⟨f9 l,by show atI (ls.map f9) (j:Int)=_;rw[jL (by rw[LY,hlj];rfl)],?_⟩
  walk_at "sim"
  refine⟨_,_,_,[rwD a,rwD b,rwD c],[e7 l.1,e7 l.2.1,e7 l.2.2],[e7 s.2,e7 s.2,e7 (u9 s.2)],rfl,.inr (.inr rfl),.inl rfl,.inl rfl,LQ 3,LQ 3,?_⟩
  have i2:i<2:=by
   have:=(LP.mp hs).1
   omega
  have pw:∀{v:Int},v.natAbs<2 ^ (1+3549*i)→v.natAbs<2 ^ 5000:=fun h=>Lz h (LD (by decide) (by omega))
  have z1:=ok.p6
  have z2:=ok.q6
  have z3':=ok.r6
  have sa:=W7 s.2
  have tk:sh.take (i+1)=sh.take i++[s]:=by rw[MP,hs];rfl
  have gl:ls.getD s.1.toNat (0,0,0)=l:=by rw[hj,Mp,Mr,hlj];rfl
  have fit:∀{n:Nat} {v:Int × Int} {g:Rat},Raw n v g→n≤1+3549*(i+1)→Raw (1+3549*(i+1)) v g:=fun h hn=>⟨h.pos,h.val,Lz h.s1 (LD (by decide) hn),Lz h.s2 (LD (by decide) hn)⟩
  show xF [none,none,none] _ AI _ (MM (fun t:(Int × Int) × Rat × Rat=>D.tup [rwD t.1,e7 t.2.1,e7 t.2.2]) [(a,l.1,s.2),(b,l.2.1,s.2),(c,l.2.2,u9 s.2)]) _ M' _
  refine y4 (fun t:(Int × Int) × Rat × Rat=>rwD (fY t.1 t.2.1 t.2.2)) (by show 3≤1000;decide) ⟨.inr (.inr rfl),.inl rfl,.inl rfl⟩ (fun t ht Q hQ=>?_) ?_
  ·simp only[LB,LK,or_false]at ht
   rcases ht with rfl|rfl|rfl
   ·walk_at "sim"
    exact⟨a,rfl,⟨pw ra.s1,pw ra.s2⟩,⟨by omega,by omega⟩,hQ⟩
   ·walk_at "sim"
    exact⟨b,rfl,⟨pw rb.s1,pw rb.s2⟩,⟨by omega,by omega⟩,hQ⟩
   ·walk_at "sim"
    exact⟨c,rfl,⟨pw rc.s1,pw rc.s2⟩,⟨by omega,by omega⟩,hQ⟩
  ·refine⟨rfl,fY a l.1 s.2,fY b l.2.1 s.2,fY c l.2.2 (u9 s.2),_,_,_,rfl,?_⟩
   rw[tk,V7,V7,V7,gl]
   exact⟨fit (ra.step z1 ssz) (by omega),fit (rb.step z2 ssz) (by omega),fit (rc.step (m:=548) (by omega) (show sz (u9 s.2)≤3000 by omega)) (by omega)⟩
 ·rintro e M' ⟨rfl,a,b,c,z3,z4,z5,rfl,ra,rb,rc⟩
  walk_at "sim"
  rw[LF,MJ]at ra rb rc
  have fit:∀{v:Int × Int} {g:Rat},Raw (1+3549*sh.length) v g→Raw 9000 v g:=fun h=>⟨h.pos,h.val,Lz h.s1 (LD (by decide) (by omega)),Lz h.s2 (LD (by decide) (by omega))⟩
  exact k a b c (fit ra) (fit rb) (fit rc)
theorem eK(T:Txt K mg)(d:Df K mg "are_shares" O0 ["lines","shares"]):Fn P w K mg base "are_shares" 1 ["lines","shares"] nK:=by
 have sc:=dZ
 walk_at "fn"
 obtain⟨ls,x,rfl,sh,hx,h12,k⟩:=h
 refine⟨_,(d7 (g6 (jtm ba (j2 F8 rfl T.b_len B2 (a9 (d4 1) d5)) (w6 rfl T.c_MOST_SHARES)) (d8 (d9 F7)) g5) (d7 (jst 2 sc.nd (C9 d6)) (d7 (t4 PassesOwn.never rfl (o8 (d4 1)) (j5 (n:=2) rfl (e5 (jn 3 sc.nd) (e5 (jn 4 sc.nd) i6))) (d7 (g6 (A6 (B7 (jtm rF (d4 3) (d4 2)) (B7 (jtm Gu (d4 3) (j2 F8 rfl T.b_len B2 (a9 (d4 0) d5))) (C7 (jtm (bI hu) (d4 4) (w6 rfl T.c_NOUGHT)))))) (d8 (d9 F7)) g5) (d8 (jst 2 sc.nd (d4 3))))) (d8 (d9 F7))))),?_⟩
 walk_at "sim"
 rw[fU (jr hx)]
 walk_at "sim"
 rw[LF]
 have hno:¬ sh.length≤2→shB ls.length sh=false:=fun z=>by unfold shB;rw[decide_eq_false z];rfl
 refine⟨fun hc=>?_,fun hc=>J6 hx ?_⟩
 ·rw[hno (by omega)]at k
  exact k
 have e0:shB ls.length sh=G5 ls.length (-1) sh:=by unfold shB;rw[decide_eq_true (by omega)];rfl
 refine T5.by (fun i e M'=>M'=M∧∃(a:Int) (z3 z4:Option D),e=[some (.vl (ls.map f9)),some x,some (.int a),z3,z4]∧G5 ls.length (-1) sh=G5 ls.length a (sh.drop i)) ⟨rfl,-1,_,_,rfl,rfl⟩ (fun i e M' _ h=>by rw[h.1];exact hx) ?_ ?_
 ·rintro i dd e M' hd ⟨rfl,a,z3,z4,rfl,ih⟩
  obtain⟨s,hs,rfl⟩:=gT hd
  have hi:=(LP.mp hs).1
  rw[Of hi,(LP.mp hs).2]at ih
  unfold shD
  walk_at "sim"
  rw[LF]
  have bad:¬ (a<s.1∧s.1<(ls.length:Int)∧s.2≠0)→R (D.bl false) M':=fun hb=>by
   rw[zp hb]at ih
   rw[e0,ih]at k
   exact k
  refine⟨fun c1=>bad fun z=>by omega,fun c1=>⟨fun c2=>bad fun z=>by omega,fun c2=>⟨fun c3=>bad fun z=>z.2.2 c3,fun c3=>⟨s.1,_,_,rfl,?_⟩⟩⟩⟩
  rw[ih,uT (by omega) (by omega) c3]
 ·rintro e M' ⟨rfl,a,z3,z4,rfl,ih⟩
  walk_at "sim"
  rw[LF,List.drop_length]at ih
  rw[e0,ih]at k
  exact k
theorem lN(T:Txt K mg)(d:Df K mg "bound_by" X6 ["lines","shares","p","q"])(Jm:Fn P w K mg base "same" 1 ["one","other"] iF)(Kd:Fn P w K mg base "added" 2 ["lines","shares"] nM)(Jp:Fn P w K mg base "are_shares" 1 ["lines","shares"] nK):Fn P w K mg base "bound_by" 3 ["lines","shares","p","q"] nI:=by
 have sc:=lq
 walk_at "fn"
 obtain⟨ls,x,p,q,rfl,sh,hx,hls,hz,⟨hp,hq⟩,kn,ky⟩:=h
 refine⟨_,(d7 (g6 (C8 (u6 (jc Jp hr (a9 (d4 0) (a9 (d4 1) d5))))) (d8 (d9 S9)) g5) (d7 (jst 4 sc.nd (jc Kd hr (a9 (d4 0) (a9 (d4 1) d5)))) (d7 (g6 (A6 (B7 (C8 (u6 (jc Jm hr (a9 (jx (d4 4) d6) (a9 (d4 2) d5))))) (C7 (C8 (u6 (jc Jm hr (a9 (jx (d4 4) d6) (a9 (d4 3) d5)))))))) (d8 (d9 S9)) g5) (d8 (d9 (jx (d4 4) d6)))))),?_⟩
 walk_at "sim"
 refine⟨sh,hx,hls.1,fun hb=>kn fun z=>(by rw[z.1]at hb;cases hb),fun hb=>⟨sh,hx,hls,hb,hz,fun a b c ra rb rc=>⟨a,_,rfl,iU p,EJ ra,AS (by omega),fun h1=>kn fun z=>h1 (ra.eq.mpr z.2.1),fun h1=>⟨b,_,rfl,iU q,EJ rb,AS (by omega),fun h2=>kn fun z=>h2 (rb.eq.mpr z.2.2),fun h2=>ky ⟨hb,ra.eq.mp h1,rb.eq.mp h2⟩ c rc⟩⟩⟩⟩
theorem rA(T:Txt K mg)(d:Df K mg "sum_by" Z6 ["p","q","ray"]):Fn P w K mg base "sum_by" 1 ["p","q","ray"] U2:=by
 have sc:=fX
 walk_at "fn"
 obtain⟨p,q,y,u,rfl,hz,k⟩:=h
 refine⟨_,(d7 (m7 (d4 2) (j5 (n:=2) rfl (e5 (jn 3 sc.nd) (e5 (jn 4 sc.nd) i6)))) (d7 (jst 5 sc.nd (e8 A5 (e8 g8 (e8 g8 (e8 g8 (jx (d4 0) d6) (jx (d4 3) d6)) (jx (d4 1) d6)) (jx (d4 4) d6)) (e8 g8 (e8 g8 (e8 g8 (jx (d4 1) d6) (jx (d4 4) d6)) (jx (d4 0) d6)) (jx (d4 3) d6)))) (d8 (d9 (f6 (a9 (d4 5) (a9 (e8 g8 (e8 g8 (e8 g8 (jx (d4 0) d6) (jx (d4 3) d6)) (jx (d4 1) d6)) (jx (d4 4) d6)) d5))))))),?_⟩
 walk_at "sim"
 exact⟨i5 _ _ (j4 p) (j4 y) (by omega),i5 _ _ (j7 (j4 p) (j4 y)) (i4 q) (by omega),i5 _ _ (j7 (j7 (j4 p) (j4 y)) (i4 q)) (i4 u) (by omega),i5 _ _ (j4 q) (j4 u) (by omega),i5 _ _ (j7 (j4 q) (j4 u)) (i4 p) (by omega),i5 _ _ (j7 (j7 (j4 q) (j4 u)) (i4 p)) (i4 y) (by omega),i5 _ _ (i4 p) (i4 y) (by omega),i5 _ _ (j7 (i4 p) (i4 y)) (i4 q) (by omega),i5 _ _ (j7 (j7 (i4 p) (i4 y)) (i4 q)) (i4 u) (by omega),k⟩
theorem nR(T:Txt K mg)(d:Df K mg "lets_by" aW ["line","ray"])(IL:Fn P w K mg base "sum_by" 1 ["p","q","ray"] U2):Fn P w K mg base "lets_by" 2 ["line","ray"] dk:=by
 have sc:=mZ
 walk_at "fn"
 obtain⟨l,y,u,rfl,⟨⟨h1,h2,h3⟩,h4,h5⟩,k⟩:=h
 refine⟨_,(d7 (m7 (d4 0) (j5 (n:=3) rfl (e5 (jn 2 sc.nd) (e5 (jn 3 sc.nd) (e5 (jn 4 sc.nd) i6))))) (d7 (m7 (jc IL hr (a9 (d4 2) (a9 (d4 3) (a9 (d4 1) d5)))) (j5 (n:=2) rfl (e5 (jn 5 sc.nd) (e5 (jn 6 sc.nd) i6)))) (d8 (d9 (jm rF (e8 g8 (j2 dM rfl T.b_abs Y7 (a9 (d4 5) d5)) (jx (d4 4) d6)) (e8 g8 (jx (d4 4) d6) (d4 6))))))),?_⟩
 walk_at "sim"
 have e:decide (((M0 l.1 l.2.1 y u).natAbs:Int)*(l.2.2.den:Int)≤l.2.2.num*I0 l.1 l.2.1 y u)=L3 l y u:=by
  rw[Nd,decide_eq_true_iff];exact rK
 rw[e]
 exact⟨by omega,i5 _ _ (by rw[LJ];exact uf _ _ _ _) (i4 _) (by omega),i5 _ _ (j4 _) (ox _ _ _ _) (by omega),k⟩
theorem Af(T:Txt K mg)(d:Df K mg "lets" nr ["lines","ray"])(JU:Fn P w K mg base "lets_by" 2 ["line","ray"] dk):Fn P w K mg base "lets" 3 ["lines","ray"] nE:=by
 have sc:=zh
 walk_at "fn"
 obtain⟨ls,y,u,rfl,⟨h1,h2,h3,h4⟩,k⟩:=h
 refine⟨_,(d8 (d9 (j2 (mD rfl) rfl T.b_all dN (a9 (A8 [1] ["line"] ["ray"] rfl (by decide +kernel) rfl (by decide +kernel) (by decide +kernel) rfl (aQ ⟨rfl,rfl⟩) (aQ (Or.inl rfl)) (o8 (d4 0)) (fun _ _ _ _ _ _=>(jn 0 (show(["line","ray"]:List Str).Nodup by decide +kernel))) (fun _ _ _ _ _ _=>t7) (fun _ _ _ _ _ _=>(jc JU hr (a9 (d4 0) (a9 (d4 1) d5))))) d5)))),?_⟩
 walk_at "sim"
 refine y4 (fun l=>D.bl (L3 l y u)) (by omega) (by simp only[t5,t8]) (fun l hl Q hQ=>?_) ?_
 ·walk_at "sim"
  exact⟨⟨h2 l hl,h3,h4⟩,hQ⟩
 ·rw[show ls.map (fun l=>D.bl (L3 l y u))=(ls.map fun l=>L3 l y u).map D.bl by rw[Nu];rfl]
  walk_at "sim"
  rw[show(ls.map fun l=>L3 l y u).all id=L1 ls y u by rw[Ob];rfl]
  exact k
theorem eJ(T:Txt K mg)(d:Df K mg "free_right" N9 ["lines","p","q","ray"])(IL:Fn P w K mg base "sum_by" 1 ["p","q","ray"] U2):Fn P w K mg base "free_right" 2 ["lines","p","q","ray"] nG:=by
 have sc:=dY
 walk_at "fn"
 obtain⟨ls,p,q,y,u,rfl,⟨hls,⟨hp,hq⟩,hy,hu⟩,k⟩:=h
 refine⟨_,(d7 (g6 (jtm rF (jx (jc IL hr (a9 (d4 1) (a9 (d4 2) (a9 (d4 3) d5)))) d6) d6) (d8 (d9 F7)) g5) (d8 (d9 (j2 (mD rfl) rfl T.b_all dN (a9 (A8 [3] ["line"] ["ray"] rfl (by decide +kernel) rfl (by decide +kernel) (by decide +kernel) rfl (aQ ⟨rfl,rfl⟩) (aQ (Or.inl rfl)) (o8 (d4 0)) (fun _ _ _ _ _ _=>(jn 0 (show(["line","ray"]:List Str).Nodup by decide +kernel))) (fun _ _ _ _ _ _=>t7) (fun _ _ _ _ _ _=>(jm q9 (jx (jc IL hr (a9 (jx (d4 0) d6) (a9 (jx (d4 0) d6) (a9 (d4 1) d5)))) d6) d6))) d5))))),?_⟩
 walk_at "sim"
 have h12:=hls.1
 unfold wC at k
 refine⟨by omega,fun c=>?_,fun c=>?_⟩
 ·rw[decide_eq_false (show ¬ 0<p*y+q*u from fun z=>absurd ((pU p q y u).mpr z) (by omega))]at k
  exact k
 ·rw[decide_eq_true (show 0<p*y+q*u from(pU p q y u).mp (by omega)),Mw]at k
  refine y4 (fun l=>D.bl (decide (l.1*y+l.2.1*u=0))) (by omega) (by simp only[t5]) (fun l hl Q hQ=>?_) ?_
  ·have ok:=hls.2 l hl
   have z1:=ok.p6
   have z2:=ok.q6
   walk_at "sim"
   refine⟨by omega,?_⟩
   rw[show decide (M0 l.1 l.2.1 y u=0)=decide (l.1*y+l.2.1*u=0)from decide_eq_decide.mpr (ue _ _ _ _)]
   exact hQ
  ·rw[show ls.map (fun l=>D.bl (decide (l.1*y+l.2.1*u=0)))=(ls.map fun l=>decide (l.1*y+l.2.1*u=0)).map D.bl by rw[Nu];rfl]
   walk_at "sim"
   rw[show(ls.map fun l=>decide (l.1*y+l.2.1*u=0)).all id=ls.all fun l=>decide (l.1*y+l.2.1*u=0)by rw[Ob];rfl]
   exact k
theorem eG(T:Txt K mg)(d:Df K mg "most_right" N7 ["lines","p","q","told"])(Jm:Fn P w K mg base "same" 1 ["one","other"] iF)(Jq:Fn P w K mg base "bound_by" 3 ["lines","shares","p","q"] nI)(IL:Fn P w K mg base "sum_by" 1 ["p","q","ray"] U2)(Ke:Fn P w K mg base "lets" 3 ["lines","ray"] nE)(Jc:Fn P w K mg base "free_right" 2 ["lines","p","q","ray"] nG):Fn P w K mg base "most_right" 4 ["lines","p","q","told"] nA:=by
 have sc:=dW
 walk_at "fn"
 obtain⟨ls,p,q,t,rfl,m,ht,hls,⟨hp,hq⟩,hm,k⟩:=h
 cases m with
 | free z =>
  obtain rfl:t = .tup [.str "free",p9 z.1 z.2]:=ht
  obtain⟨z1,z2⟩:=hm.free z rfl
  refine⟨_,(d7 (g6 (jtm q9 (j2 F8 rfl T.b_len B2 (a9 (d4 3) d5)) d6) (d8 (d9 (P6 (jm lR (jx (d4 3) d6) A1) (P5 (jc Jc hr (a9 (d4 0) (a9 (d4 1) (a9 (d4 2) (a9 (jx (d4 3) d6) d5))))))))) g5) (d7 (m7 (d4 3) (j5 (n:=4) rfl (e5 (jn 4 sc.nd) (e5 (jn 5 sc.nd) (e5 (jn 6 sc.nd) (e5 (jn 7 sc.nd) i6)))))) (d7 (g6 (A6 (B7 (jtm vI (d4 4) A1) (B7 (C8 (u6 (jc Ke hr (a9 (d4 0) (a9 (d4 6) d5))))) (C7 (C8 (u6 (jc Jm hr (a9 (jc IL hr (a9 (d4 1) (a9 (d4 2) (a9 (d4 6) d5)))) (a9 (d4 5) d5))))))))) (d8 (d9 F7)) g5) (d7 (jst 8 sc.nd (jc Jq hr (a9 (d4 0) (a9 (d4 7) (a9 (d4 1) (a9 (d4 2) d5)))))) (d8 (d9 (P6 (jm jl (d4 8) S9) (P5 (jc Jm hr (a9 (d4 8) (a9 (d4 5) d5))))))))))),?_⟩
  walk_at "sim"
  exact⟨fun _=>⟨⟨hls,⟨hp,hq⟩,z1,z2⟩,k⟩,fun c=>absurd rfl c⟩
 | most v z sh =>
  obtain⟨x,rfl,hx⟩:=ht
  obtain⟨zv,⟨z1,z2⟩,_,zs⟩:=hm.most v z sh rfl
  have k:R (.bl (L1 ls z.1 z.2 && decide (p*z.1+q*z.2=v) && shB ls.length sh && decide (ad t0 ls sh=p∧ad t1 ls sh=q∧ad t2 ls sh=v))) M:=k
  have tl:=uf p q z.1 z.2
  have bl:=ox p q z.1 z.2
  refine⟨_,(d7 (g6 (jtm q9 (j2 F8 rfl T.b_len B2 (a9 (d4 3) d5)) d6) (d8 (d9 (P6 (jm lR (jx (d4 3) d6) A1) (P5 (jc Jc hr (a9 (d4 0) (a9 (d4 1) (a9 (d4 2) (a9 (jx (d4 3) d6) d5))))))))) g5) (d7 (m7 (d4 3) (j5 (n:=4) rfl (e5 (jn 4 sc.nd) (e5 (jn 5 sc.nd) (e5 (jn 6 sc.nd) (e5 (jn 7 sc.nd) i6)))))) (d7 (g6 (A6 (B7 (jtm vI (d4 4) A1) (B7 (C8 (u6 (jc Ke hr (a9 (d4 0) (a9 (d4 6) d5))))) (C7 (C8 (u6 (jc Jm hr (a9 (jc IL hr (a9 (d4 1) (a9 (d4 2) (a9 (d4 6) d5)))) (a9 (d4 5) d5))))))))) (d8 (d9 F7)) g5) (d7 (jst 8 sc.nd (jc Jq hr (a9 (d4 0) (a9 (d4 7) (a9 (d4 1) (a9 (d4 2) d5)))))) (d8 (d9 (P6 (jm jl (d4 8) S9) (P5 (jc Jm hr (a9 (d4 8) (a9 (d4 5) d5))))))))))),?_⟩
  walk_at "sim"
  refine⟨fun c=>absurd c (by decide),fun _=>⟨⟨hls.1,fun l hl=>?_,by omega,by omega⟩,fun c=>?_,fun c=>⟨by omega,(M0 p q z.1 z.2,I0 p q z.1 z.2),_,rfl,iU v,⟨Lz tl (LD (by decide) (by omega)),Lz bl (LD (by decide) (by omega))⟩,AS (by omega),fun c2=>?_,fun c2=>⟨sh,hx,hls,zs,⟨hp,hq⟩,fun c3=>?_,fun c3 r rr=>?_⟩⟩⟩⟩
  ·have ok:=hls.2 l hl
   have a1:=ok.p6
   have a2:=ok.q6
   have a3:=ok.r6
   exact⟨by omega,by omega,by omega⟩
  ·rw[c]at k;exact k
  ·rw[decide_eq_false (show ¬ p*z.1+q*z.2=v from fun e=>c2 ((mQ p q z.1 z.2 v).mpr e)),MN]at k
   exact k
  ·rw[qQ (b:=true) rfl]
   walk_at "sim"
   have e:(shB ls.length sh && decide (ad t0 ls sh=p∧ad t1 ls sh=q∧ad t2 ls sh=v))=false:=by
    rw[Bool.eq_false_iff]
    intro e
    rw[MB,decide_eq_true_eq]at e
    exact c3 ⟨e.1,e.2.1,e.2.2.1⟩
   rw[Bool.and_assoc,e,MN]at k
   exact k
  ·rw[qQ (b:=false) rfl]
   walk_at "sim"
   refine⟨r,_,rfl,iU v,EJ rr,AS (by omega),?_⟩
   rw[c,decide_eq_true ((mQ p q z.1 z.2 v).mp c2),c3.1,Mw,Mw]at k
   rw[show decide (r.1*(v.den:Int)=v.num*r.2)=decide (ad t0 ls sh=p∧ad t1 ls sh=q∧ad t2 ls sh=v)from decide_eq_decide.mpr ⟨fun e=>⟨c3.2.1,c3.2.2,rr.eq.mp e⟩,fun e=>rr.eq.mpr e.2.2⟩]
   exact k
theorem eM(T:Txt K mg)(d:Df K mg "_law_truth" O2 ["found","due"]):Fn P w K mg base "_law_truth" 1 ["found","due"] nu:=by
 have sc:=et
 walk_at "fn"
 obtain⟨b,c,rfl,k⟩:=h
 refine⟨_,(d8 (d9 (P6 (j2 (xn T.sub) rfl T.b_isinstance K5 (a9 (d4 0) (a9 (vX rfl T.b_bool qH) d5))) (P5 (jm Gv (d4 0) (d4 1)))))),?_⟩
 walk_at "sim"
 rw[show(b == c)=decide (b=c)by cases b<;>cases c<;>rfl]
 exact k
theorem lQ(T:Txt K mg)(d:Df K mg "_law_low" X9 ["top","bottom"]):Fn P w K mg base "_law_low" 1 ["top","bottom"] D2:=by
 have sc:=lz
 walk_at "fn"
 obtain⟨a,b,rfl,hb,hl,k⟩:=h
 refine⟨_,(d7 (aD (i:=2) (j:=3) rfl sc.nd rfl rfl (by decide) rfl rfl (a9 (j2 dM rfl T.b_abs Y7 (a9 (d4 0) d5)) (a9 (j2 dM rfl T.b_abs Y7 (a9 (d4 1) d5)) d5))) (d7 (bb PassesOwn.never (jtm ba (d4 3) d6) (d8 (aD (i:=2) (j:=3) rfl sc.nd rfl rfl (by decide) rfl rfl (a9 (d4 3) (a9 (e8 S5 (d4 2) (d4 3)) d5))))) (d7 (g6 (jtm dD (d4 1) d6) (d8 (jst 2 sc.nd (e8 C6 d6 (d4 2)))) g5) (d8 (d9 (f6 (a9 (e8 G7 (d4 0) (d4 2)) (a9 (e8 G7 (d4 1) (d4 2)) d5)))))))),?_⟩
 walk_at "sim"
 refine qL (fun m e M2=>M2=M∧∃ v:Nat,e=[some (.int a),some (.int b),some (.int (v:Int)),some (.int (m:Int))]∧MH v m=MH a.natAbs b.natAbs) b.natAbs ⟨rfl,a.natAbs,rfl,rfl⟩ ?_
 rintro m e M2 ⟨rfl,v,rfl,hg⟩
 walk_at "sim"
 refine⟨fun h0=>⟨by omega,v % m,NR _ (by omega),m,by rw[PC],by rw[← hg];exact(RM.mh v m (by omega)).symm⟩,fun h0=>?_⟩
 have hm:m=0:=by omega
 subst hm
 rw[Pm]at hg
 subst hg
 have hn:=wo (a:=a) hb
 have hlg:=qs (a:=a) hb hl
 have c1:(0 - ((MH a.natAbs b.natAbs:Nat):Int)).natAbs.log2<9000:=by rw[Px,MD];exact hlg
 refine⟨fun h1=>⟨⟨by omega,c1⟩,⟨by omega,c1⟩,cy hb (by rw[if_pos h1,Px]) k⟩,fun h1=>⟨⟨hn,hlg⟩,⟨hn,hlg⟩,cy hb (by rw[if_neg h1]) k⟩⟩
theorem lO(T:Txt K mg)(d:Df K mg "_law_sum" X7 ["one","other"])(IE:Fn P w K mg base "_law_low" 1 ["top","bottom"] D2):Fn P w K mg base "_law_sum" 2 ["one","other"] N3:=by
 have sc:=lr
 walk_at "fn"
 obtain⟨q,r,rfl,hz,k⟩:=h
 refine⟨_,(d8 (d9 (jc IE hr (a9 (e8 A5 (e8 g8 (jx (d4 0) d6) (jx (d4 1) d6)) (e8 g8 (jx (d4 1) d6) (jx (d4 0) d6))) (a9 (e8 g8 (jx (d4 0) d6) (jx (d4 1) d6)) d5))))),?_⟩
 walk_at "sim"
 rw[← RM.oA]
 exact⟨mND hz,mND (by omega),mDD hz,Mn (RM.o9 q) (RM.o9 r),lDD hz,k⟩
theorem eN(T:Txt K mg)(d:Df K mg "_law_taken" O3 ["one","other"])(IE:Fn P w K mg base "_law_low" 1 ["top","bottom"] D2):Fn P w K mg base "_law_taken" 2 ["one","other"] E3:=by
 have sc:=eu
 walk_at "fn"
 obtain⟨q,r,rfl,hz,k⟩:=h
 refine⟨_,(d8 (d9 (jc IE hr (a9 (e8 g8 (jx (d4 0) d6) (jx (d4 1) d6)) (a9 (e8 g8 (jx (d4 0) d6) (jx (d4 1) d6)) d5))))),?_⟩
 walk_at "sim"
 rw[← RM.nT]
 exact⟨mNN hz,mDD hz,Mn (RM.o9 q) (RM.o9 r),lDD hz,k⟩
theorem jj(T:Txt K mg)(d:Df K mg "_law_bare" S1 ["one"]):Fn P w K mg base "_law_bare" 1 ["one"] cW:=by
 have sc:=ij
 walk_at "fn"
 obtain⟨q,rfl,k⟩:=h
 refine⟨_,(d8 (d9 (f6 (a9 (j2 dM rfl T.b_abs Y7 (a9 (jx (d4 0) d6) d5)) (a9 (jx (d4 0) d6) d5))))),?_⟩
 walk_at "sim"
 exact k
theorem eV(T:Txt K mg)(d:Df K mg "_law_added" P0 ["lines","shares"])(IG:Fn P w K mg base "_law_sum" 2 ["one","other"] N3)(IF:Fn P w K mg base "_law_taken" 2 ["one","other"] E3)(IX:Fn P w K mg base "_law_bare" 1 ["one"] cW):Fn P w K mg base "_law_added" 3 ["lines","shares"] iL:=by
 have sc:=eF
 walk_at "fn"
 obtain⟨ls,x,rfl,sh,hx,hls,hb,hz,k⟩:=h
 obtain⟨hl2,hm⟩:=qc hb
 refine⟨_,(d7 (jst 2 sc.nd (p8 (a9 (f6 (a9 d6 (a9 d6 d5))) (a9 (f6 (a9 d6 (a9 d6 d5))) (a9 (f6 (a9 d6 (a9 d6 d5))) d5))))) (d7 (t4 PassesOwn.never rfl (o8 (d4 1)) (j5 (n:=2) rfl (e5 (jn 3 sc.nd) (e5 (jn 4 sc.nd) i6))) (d7 (jst 5 sc.nd (p8 (a9 (d4 4) (a9 (d4 4) (a9 (jc IX hr (a9 (d4 4) d5)) d5))))) (d8 (jst 2 sc.nd (A8 [0,2,3,5] ["k"] ["lines","found","number","by"] rfl (by decide +kernel) rfl (by decide +kernel) (by decide +kernel) rfl (Hv ⟨rfl,rfl⟩ ⟨rfl,rfl⟩ ⟨rfl,rfl⟩ ⟨rfl,rfl⟩) (Hv (Or.inl rfl) (Or.inl rfl) (Or.inl rfl) (Or.inl rfl)) (js rfl T.b_range (a9 d6 d5)) (fun _ _ _ _ _ _=>(jn 0 (show(["k","lines","found","number","by"]:List Str).Nodup by decide +kernel))) (fun _ _ _ _ _ _=>t7) (fun _ _ _ _ _ _=>(jc IG hr (a9 (jx (d4 2) (d4 0)) (a9 (jc IF hr (a9 (jx (d4 4) (d4 0)) (a9 (jx (jx (d4 1) (d4 3)) (d4 0)) d5))) d5))))))))) (d8 (d9 (d4 2))))),?_⟩
 walk_at "sim"
 refine J6 hx ?_
 have sz0:=RM.Z3
 refine T5.by (fun i e M'=>M'=M∧(∃(z3 z4 z5:Option D),e=[some (.vl (ls.map f9)),some x,some (.vl [e7 (ad t0 ls (sh.take i)),e7 (ad t1 ls (sh.take i)),e7 (ad t2 ls (sh.take i))]),z3,z4,z5])∧sz (ad t0 ls (sh.take i))≤1+3263*i∧sz (ad t1 ls (sh.take i))≤1+3263*i∧sz (ad t2 ls (sh.take i))≤1+3263*i) ⟨rfl,⟨_,_,_,rfl⟩,by show sz 0≤_;omega,by show sz 0≤_;omega,by show sz 0≤_;omega⟩ (fun i e M' _ h=>by rw[h.1];exact hx) ?_ ?_
 ·rintro i dd e M' hd ⟨rfl,⟨z3,z4,z5,rfl⟩,ra,rb,rc⟩
  obtain⟨s,hs,rfl⟩:=gT hd
  have hsm:=LS hs
  obtain⟨s0,sn,snz⟩:=hm s hsm
  have ssz:=hz s hsm
  obtain⟨j,hj⟩:∃ j:Nat,s.1=(j:Int):=⟨s.1.toNat,by omega⟩
  have hlj:ls[j]? = some (ls[j]'(by omega)):=LU (by omega)
  generalize ls[j]'(by omega)=l at hlj
  obtain⟨y1,y2,y3⟩:=(hls.2 l (LS hlj)).z
  have i2:i<2:=by
   have:=(LP.mp hs).1
   omega
  have sa:=W7 s.2
  have tk:sh.take (i+1)=sh.take i++[s]:=by rw[MP,hs];rfl
  have gl:ls.getD s.1.toNat (0,0,0)=l:=by rw[hj,Mp,Mr,hlj];rfl
  rw[tk,V7,V7,V7,gl]
  generalize ad t0 ls (sh.take i)=A at *
  generalize ad t1 ls (sh.take i)=B at *
  generalize ad t2 ls (sh.take i)=C at *
  have m1:=RM.r9 s.2 l.1
  have m2:=RM.r9 s.2 l.2.1
  have m3:=RM.r9 (u9 s.2) l.2.2
  have n1:=RM.E9 A (s.2*l.1)
  have n2:=RM.E9 B (s.2*l.2.1)
  have n3:=RM.E9 C (u9 s.2*l.2.2)
  unfold shD
  walk_at "sim"
  rw[hj,show D6 0 (Int.toNat 3)=([0,1,2]:List Int).map D.int from rfl]
  have atj:ixD M' (D.vl (ls.map f9)) (D.int (j:Int))=some (f9 l):=by show atI (ls.map f9) (j:Int)=_;rw[jL (by rw[LY,hlj];rfl)]
  refine⟨by decide,y4 (fun n:Int=>if n=0 then e7 (A+t0 s.2 l)else if n=1 then e7 (B+t1 s.2 l)else e7 (C+t2 s.2 l)) (by show 3≤1000;decide) trivial (fun n hn Q hQ=>?_) ⟨rfl,⟨_,_,_,rfl⟩,?_,?_,?_⟩⟩
  ·simp only[LB,LK,or_false]at hn
   rcases hn with rfl|rfl|rfl
   ·walk_at "sim"
    refine⟨_,atj,?_⟩
    walk_at "sim"
    exact⟨by omega,by omega,hQ⟩
   ·walk_at "sim"
    refine⟨_,atj,?_⟩
    walk_at "sim"
    exact⟨by omega,by omega,hQ⟩
   ·walk_at "sim"
    refine⟨_,atj,?_⟩
    walk_at "sim"
    exact⟨by omega,by omega,hQ⟩
  ·show sz (A+s.2*l.1)≤_;omega
  ·show sz (B+s.2*l.2.1)≤_;omega
  ·show sz (C+u9 s.2*l.2.2)≤_;omega
 ·rintro e M' ⟨rfl,⟨z3,z4,z5,rfl⟩,ra,rb,rc⟩
  walk_at "sim"
  rw[LF,MJ]
  exact k
theorem Y2(T:Txt K mg)(d:Df K mg "_law_are_shares" C5 ["lines","shares"]):Fn P w K mg base "_law_are_shares" 1 ["lines","shares"] uO:=by
 have sc:=W9
 walk_at "fn"
 obtain⟨ls,x,rfl,sh,hx,h12,h20,k⟩:=h
 refine⟨_,(d7 (aC (i:=2) [] ["number","share"] [] sc.nd rfl (Or.inl rfl) rfl (by decide +kernel) rfl (by decide +kernel) (by decide +kernel) rfl bq bq (o8 (d4 1)) (fun _ _ _ _ _ _=>(j5 (n:=2) rfl (e5 (jn 0 (show(["number","share"]:List Str).Nodup by decide +kernel)) (e5 (jn 1 (show(["number","share"]:List Str).Nodup by decide +kernel)) i6)))) (fun _ _ _ _ _ _=>t7) (fun _ _ _ _ _ _=>(d4 0))) (d7 (g6 (A6 (B7 (jtm ba (j2 F8 rfl T.b_len B2 (a9 (d4 1) d5)) d6) (C7 (u6 (j2 (Hu rfl) rfl T.b_any EF (a9 (A8 [] ["number","share"] [] rfl (by decide +kernel) rfl (by decide +kernel) (by decide +kernel) rfl bq bq (o8 (d4 1)) (fun _ _ _ _ _ _=>(j5 (n:=2) rfl (e5 (jn 0 (show(["number","share"]:List Str).Nodup by decide +kernel)) (e5 (jn 1 (show(["number","share"]:List Str).Nodup by decide +kernel)) i6)))) (fun _ _ _ _ _ _=>t7) (fun _ _ _ _ _ _=>(jm q9 (jx (d4 1) d6) d6))) d5)))))) (d8 (d9 F7)) g5) (d8 (d9 (P6 (jm (bI hu) (d4 2) (nX rfl rfl T.b_sorted gE rfl T.b_set EC (a9 (d4 2) d5))) (P5 (j2 (mD rfl) rfl T.b_all dN (a9 (A8 [0] ["number"] ["lines"] rfl (by decide +kernel) rfl (by decide +kernel) (by decide +kernel) rfl (aQ ⟨rfl,rfl⟩) (aQ (Or.inl rfl)) (o8 (d4 2)) (fun _ _ _ _ _ _=>(jn 0 (show(["number","lines"]:List Str).Nodup by decide +kernel))) (fun _ _ _ _ _ _=>t7) (fun _ _ _ _ _ _=>(vZ rF dD d6 (d4 0) (j2 F8 rfl T.b_len B2 (a9 (d4 1) d5))))) d5)))))))),?_⟩
 walk_at "sim"
 refine J6 hx (y4 (xs:=sh) (enc:=shD) (fun s=>.int s.1) (by omega) hx (fun s hs Q hQ=>by unfold shD;walk_at "sim";exact hQ) ?_)
 show mi [x] M _
 rw[fU (jr hx)]
 walk_at "sim"
 rw[LF]
 refine⟨fun c=>?_,fun c=>J6 hx (y4 (xs:=sh) (enc:=shD) (fun s=>.bl (decide (s.2=0))) (by omega) hx (fun s hs Q hQ=>?_) ?_)⟩
 ·have:shB ls.length sh=false:=by unfold shB;rw[decide_eq_false (by omega)];rfl
  rw[this]at k
  exact k
 ·unfold shD
  walk_at "sim"
  rw[show decide (s.2.num=0)=decide (s.2=0)from decide_eq_decide.mpr Ng]
  exact hQ
 ·show Ep [D.vl (sh.map fun s=>D.bl (decide (s.2=0)))] M _
  rw[show sh.map (fun s=>D.bl (decide (s.2=0)))=(sh.map fun s=>decide (s.2=0)).map D.bl by rw[Nu];rfl]
  walk_at "sim"
  rw[show(sh.map fun s=>D.int s.1)=(sh.map (·.1)).map D.int by rw[Nu];rfl]
  refine⟨fun c2=>?_,fun c2=>?_⟩
  ·rw[Pr,OA]at c2
   obtain⟨s,hs,e⟩:=c2
   rw[yU ⟨s,hs,of_decide_eq_true e⟩]at k
   exact k
  have nz:∀ s∈sh,s.2≠0:=fun s hs e=>by
   rw[Pr,Pn]at c2
   exact c2 s hs (decide_eq_true e)
  rw[Dh (by omega) nz]at k
  have li:∀ ns:List Int,cl 60 (D.vl (ns.map D.int))=true:=fun ns=>bo fun d hd=>by
   obtain⟨n,_,rfl⟩:=LM.mp hd
   rfl
  have inj:∀ a b:List Int,D.vl (a.map D.int)=D.vl (b.map D.int)↔a=b:=fun a b=>⟨fun e=>by
   injection e with e
   exact(Mz fun x y h=>by injection h).mp e,fun e=>by rw[e]⟩
  refine⟨_,sh.map (·.1),rfl,rfl,by rw[LF];omega,li _,li _,fun e=>?_,fun e=>?_⟩
  ·rw[decide_eq_true ((inj _ _).mp e),Mw]at k
   walk_at "sim"
   refine y4 (fun n:Int=>D.bl (decide (0≤n) && decide (n<(ls.length:Int)))) (by rw[LF];omega) (by simp only[t5]) (fun n hn Q hQ=>?_) ?_
   ·walk_at "sim"
    rw[LF]
    exact⟨fun c=>by rw[decide_eq_true c,Mw]at hQ;exact hQ,fun c=>by rw[decide_eq_false c,Nn]at hQ;exact hQ⟩
   ·show Er [D.vl ((sh.map (·.1)).map fun n:Int=>D.bl (decide (0≤n) && decide (n<(ls.length:Int))))] M R
    rw[show(sh.map (·.1)).map (fun n:Int=>D.bl (decide (0≤n) && decide (n<(ls.length:Int))))=((sh.map (·.1)).map fun n=>decide (0≤n) && decide (n<(ls.length:Int))).map D.bl by generalize sh.map (·.1)=ns;rw[Nu];rfl]
    walk_at "sim"
    rw[Ob]
    exact k
  ·rw[decide_eq_false fun z=>e ((inj _ _).mpr z),Nn]at k
   exact k
theorem eL(T:Txt K mg)(d:Df K mg "_law_worth" O1 ["p","q","ray"])(IG:Fn P w K mg base "_law_sum" 2 ["one","other"] N3)(IF:Fn P w K mg base "_law_taken" 2 ["one","other"] E3):Fn P w K mg base "_law_worth" 3 ["p","q","ray"] bZ:=by
 have sc:=ee
 walk_at "fn"
 obtain⟨p,q,y,u,rfl,hz,k⟩:=h
 have m1:=RM.r9 p y
 have m2:=RM.r9 q u
 refine⟨_,(d8 (d9 (jc IG hr (a9 (jc IF hr (a9 (d4 0) (a9 (jx (d4 2) d6) d5))) (a9 (jc IF hr (a9 (d4 1) (a9 (jx (d4 2) d6) d5))) d5))))),?_⟩
 walk_at "sim"
 exact⟨by omega,by omega,by omega,k⟩
theorem eT(T:Txt K mg)(d:Df K mg "_law_below" O8 ["one","other"]):Fn P w K mg base "_law_below" 1 ["one","other"] iS:=by
 have sc:=eD
 walk_at "fn"
 obtain⟨q,r,rfl,hz,k⟩:=h
 refine⟨_,(d8 (d9 (jm dD (e8 g8 (jx (d4 0) d6) (jx (d4 1) d6)) (e8 g8 (jx (d4 1) d6) (jx (d4 0) d6))))),?_⟩
 walk_at "sim"
 rw[RM.Gz]
 exact⟨i5 _ _ (j4 q) (i4 r) (by omega),i5 _ _ (j4 r) (i4 q) (by omega),k⟩
theorem ji(T:Txt K mg)(d:Df K mg "_law_lets" S0 ["lines","ray"])(Jr:Fn P w K mg base "_law_below" 1 ["one","other"] iS)(IX:Fn P w K mg base "_law_bare" 1 ["one"] cW)(II:Fn P w K mg base "_law_worth" 3 ["p","q","ray"] bZ):Fn P w K mg base "_law_lets" 4 ["lines","ray"] nD:=by
 have sc:=ig
 walk_at "fn"
 obtain⟨ls,y,u,rfl,⟨hls,h3,h4⟩,k⟩:=h
 refine⟨_,(d7 (t4 PassesOwn.never rfl (o8 (d4 0)) (j5 (n:=3) rfl (e5 (jn 2 sc.nd) (e5 (jn 3 sc.nd) (e5 (jn 4 sc.nd) i6)))) (d8 (g6 (u6 (jc Jr hr (a9 (d4 4) (a9 (jc IX hr (a9 (jc II hr (a9 (d4 2) (a9 (d4 3) (a9 (d4 1) d5)))) d5)) d5)))) (d8 (d9 F7)) g5))) (d8 (d9 F7))),?_⟩
 walk_at "sim"
 refine T5.by (fun i e M'=>M'=M∧(∃ z1 z2 z3:Option D,e=[some (.vl (ls.map f9)),some (p9 y u),z1,z2,z3])∧∀ j l,j<i→ls[j]? = some l→L3 l y u=true) ⟨rfl,⟨_,_,_,rfl⟩,fun j l z=>absurd z (PQ j)⟩ (fun i e M' _ _=>by simp only[t5]) ?_ ?_
 ·rintro i dd e M' hd ⟨rfl,⟨z1,z2,z3,rfl⟩,hno⟩
  obtain⟨l,hl,rfl⟩:=gu hd
  have hm:=LS hl
  obtain⟨q1,q2,q3⟩:=(hls.2 l hm).z
  have m1:=RM.r9 l.1 y
  have m2:=RM.r9 l.2.1 u
  have m3:=RM.E9 (l.1*y) (l.2.1*u)
  have m4:=W7 (l.1*y+l.2.1*u)
  walk_at "sim"
  refine⟨by omega,by omega,fun h=>?_,fun h=>⟨⟨_,_,_,rfl⟩,fun j x hj hx=>?_⟩⟩
  ·rw[vP hm (by rw[lX,decide_eq_true h];rfl)]at k
   exact k
  ·rcases Nat.lt_succ_iff_lt_or_eq.mp hj with z|z
   ·exact hno j x z hx
   ·subst z
    obtain rfl:x=l:=by rw[hl]at hx;exact(Option.some.inj hx).symm
    rw[lX,decide_eq_false h];rfl
 ·rintro e M' ⟨rfl,⟨z1,z2,z3,rfl⟩,hno⟩
  walk_at "sim"
  rw[nW fun i l e=>hno i l (by rw[LF];exact(LP.mp e).1) e]at k
  exact k
theorem eO(T:Txt K mg)(d:Df K mg "_law_right" O4 ["lines","p","q","told"])(Jd:Fn P w K mg base "_law_added" 3 ["lines","shares"] iL)(IP:Fn P w K mg base "_law_are_shares" 1 ["lines","shares"] uO)(II:Fn P w K mg base "_law_worth" 3 ["p","q","ray"] bZ)(Jj:Fn P w K mg base "_law_lets" 4 ["lines","ray"] nD):Fn P w K mg base "_law_right" 5 ["lines","p","q","told"] iK:=by
 have sc:=ey
 walk_at "fn"
 obtain⟨ls,p,q,t,rfl,m,ht,hls,⟨hp,hq⟩,hm,k⟩:=h
 have h12:=hls.1
 cases m with
 | free z =>
  obtain rfl:t = .tup [.str "free",p9 z.1 z.2]:=ht
  obtain⟨z1,z2⟩:=hm.free z rfl
  have k:R (.bl (decide (0<p*z.1+q*z.2) && ls.all fun l=>decide (l.1*z.1+l.2.1*z.2=0))) M:=k
  refine⟨_,(d7 (g6 (jtm lR (jx (d4 3) d6) A1) (d7 (g6 (jtm rF (jx (jc II hr (a9 (d4 1) (a9 (d4 2) (a9 (jx (d4 3) d6) d5)))) d6) d6) (d8 (d9 F7)) g5) (d8 (d9 (j2 (mD rfl) rfl T.b_all dN (a9 (A8 [3] ["line"] ["told"] rfl (by decide +kernel) rfl (by decide +kernel) (by decide +kernel) rfl (aQ ⟨rfl,rfl⟩) (aQ (Or.inl rfl)) (o8 (d4 0)) (fun _ _ _ _ _ _=>(jn 0 (show(["line","told"]:List Str).Nodup by decide +kernel))) (fun _ _ _ _ _ _=>t7) (fun _ _ _ _ _ _=>(jm q9 (jx (jc II hr (a9 (jx (d4 0) d6) (a9 (jx (d4 0) d6) (a9 (jx (d4 1) d6) d5)))) d6) d6))) d5))))) g5) (d7 (m7 (d4 3) (j5 (n:=4) rfl (e5 (jn 4 sc.nd) (e5 (jn 5 sc.nd) (e5 (jn 6 sc.nd) (e5 (jn 7 sc.nd) i6)))))) (d7 (g6 (A6 (B7 (C8 (u6 (jc Jj hr (a9 (d4 0) (a9 (d4 6) d5))))) (B7 (jtm (gp hu) (jc II hr (a9 (d4 1) (a9 (d4 2) (a9 (d4 6) d5)))) (d4 5)) (C7 (C8 (u6 (jc IP hr (a9 (d4 0) (a9 (d4 7) d5))))))))) (d8 (d9 F7)) g5) (d8 (d9 (jm (bI hu) (jc Jd hr (a9 (d4 0) (a9 (d4 7) d5))) (p8 (a9 (d4 1) (a9 (d4 2) (a9 (d4 5) d5)))))))))),?_⟩
  walk_at "sim"
  have np:(p*z.1+q*z.2).num≤0 ↔ ¬ 0<p*z.1+q*z.2:=by rw[← lT];omega
  rw[np]
  refine⟨by omega,fun c=>?_,fun c=>?_⟩
  ·rw[decide_eq_false c]at k
   exact k
  ·rw[decide_eq_true (Decidable.not_not.mp c),Mw]at k
   refine y4 (fun l=>D.bl (decide (l.1*z.1+l.2.1*z.2=0))) (by omega) (by simp only[t5]) (fun l hl Q hQ=>?_) ?_
   ·obtain⟨y1,y2,y3⟩:=(hls.2 l hl).z
    walk_at "sim"
    refine⟨by omega,?_⟩
    rw[show decide ((l.1*z.1+l.2.1*z.2).num=0)=decide (l.1*z.1+l.2.1*z.2=0)from decide_eq_decide.mpr Ng]
    exact hQ
   ·rw[show ls.map (fun l=>D.bl (decide (l.1*z.1+l.2.1*z.2=0)))=(ls.map fun l=>decide (l.1*z.1+l.2.1*z.2=0)).map D.bl by rw[Nu];rfl]
    walk_at "sim"
    rw[show(ls.map fun l=>decide (l.1*z.1+l.2.1*z.2=0)).all id=ls.all fun l=>decide (l.1*z.1+l.2.1*z.2=0)by rw[Ob];rfl]
    exact k
 | most v z sh =>
  obtain⟨x,rfl,hx⟩:=ht
  obtain⟨zv,⟨z1,z2⟩,z20,zs⟩:=hm.most v z sh rfl
  have k:R (.bl (L1 ls z.1 z.2 && decide (p*z.1+q*z.2=v) && shB ls.length sh && decide (ad t0 ls sh=p∧ad t1 ls sh=q∧ad t2 ls sh=v))) M:=k
  refine⟨_,(d7 (g6 (jtm lR (jx (d4 3) d6) A1) (d7 (g6 (jtm rF (jx (jc II hr (a9 (d4 1) (a9 (d4 2) (a9 (jx (d4 3) d6) d5)))) d6) d6) (d8 (d9 F7)) g5) (d8 (d9 (j2 (mD rfl) rfl T.b_all dN (a9 (A8 [3] ["line"] ["told"] rfl (by decide +kernel) rfl (by decide +kernel) (by decide +kernel) rfl (aQ ⟨rfl,rfl⟩) (aQ (Or.inl rfl)) (o8 (d4 0)) (fun _ _ _ _ _ _=>(jn 0 (show(["line","told"]:List Str).Nodup by decide +kernel))) (fun _ _ _ _ _ _=>t7) (fun _ _ _ _ _ _=>(jm q9 (jx (jc II hr (a9 (jx (d4 0) d6) (a9 (jx (d4 0) d6) (a9 (jx (d4 1) d6) d5)))) d6) d6))) d5))))) g5) (d7 (m7 (d4 3) (j5 (n:=4) rfl (e5 (jn 4 sc.nd) (e5 (jn 5 sc.nd) (e5 (jn 6 sc.nd) (e5 (jn 7 sc.nd) i6)))))) (d7 (g6 (A6 (B7 (C8 (u6 (jc Jj hr (a9 (d4 0) (a9 (d4 6) d5))))) (B7 (jtm (gp hu) (jc II hr (a9 (d4 1) (a9 (d4 2) (a9 (d4 6) d5)))) (d4 5)) (C7 (C8 (u6 (jc IP hr (a9 (d4 0) (a9 (d4 7) d5))))))))) (d8 (d9 F7)) g5) (d8 (d9 (jm (bI hu) (jc Jd hr (a9 (d4 0) (a9 (d4 7) d5))) (p8 (a9 (d4 1) (a9 (d4 2) (a9 (d4 5) d5)))))))))),?_⟩
  walk_at "sim"
  refine⟨fun c=>absurd c (by decide),fun _=>⟨⟨hls,z1,z2⟩,fun c=>?_,fun c=>⟨by omega,fun c2=>?_,fun c2=>⟨sh,hx,h12,z20,fun c3=>?_,fun c3=>⟨sh,hx,hls,c3,zs,?_⟩⟩⟩⟩⟩
  ·rw[c]at k;exact k
  ·rw[decide_eq_false c2,MN]at k;exact k
  ·rw[c3,MN]at k;exact k
  ·rw[c,decide_eq_true c2,c3,Mw,Mw]at k
   rw[wU (b:=decide (ad t0 ls sh=p∧ad t1 ls sh=q∧ad t2 ls sh=v)) ?_]
   ·exact k
   ·rw[decide_eq_true_eq]
    constructor
    ·intro e
     injection e with e
     injection e with e1 e
     injection e with e2 e
     injection e with e3 e
     exact⟨E8 e1,E8 e2,E8 e3⟩
    ·rintro⟨e1,e2,e3⟩
     rw[e1,e2,e3]
theorem jk(T:Txt K mg)(d:Df K mg "_law_back" S2 ["one"]):Fn P w K mg base "_law_back" 1 ["one"] cV:=by
 have sc:=ik
 walk_at "fn"
 obtain⟨q,rfl,k⟩:=h
 refine⟨_,(d8 (d9 (f6 (a9 (e8 C6 d6 (jx (d4 0) d6)) (a9 (jx (d4 0) d6) d5))))),?_⟩
 walk_at "sim"
 rw[Px,BY]
 exact k
theorem jg(T:Txt K mg)(d:Df K mg "_law_next" R8 ["pool","base"]):Fn P w K mg base "_law_next" 1 ["pool","base"] C2:=by
 have sc:=hZ
 refine g9 d sc (fun ds M R Y h=>?_) (fun f cdv A outer s H E ds M R Y hr h=>?_)
 ·obtain⟨p,b,rfl,_⟩:=h;rfl
 ·obtain⟨p,b,rfl,⟨x,y,z,hM⟩,hb,hl,k⟩:=h
  refine⟨_,(d7 (g6 (jtm ba (jx (d4 0) d6) d6) (d7 (jst 2 sc.nd (e8 S5 (jx (d4 0) d6) (d4 1))) (d7 (m7 (e8 G7 (jx (d4 0) d6) (d4 1)) (V0 (d4 0) d6)) (d8 (d9 (d4 2))))) g5) (d7 (m7 (e8 A5 (jx (d4 0) d6) d6) (V0 (d4 0) d6)) (d7 (jst 3 sc.nd (e8 S5 (e8 A5 (jx (d4 0) d6) (e8 g8 d6 (jx (d4 0) d6))) d6)) (d7 (jst 4 sc.nd (e8 S5 (e8 g8 (e8 A5 (d4 3) d6) (e8 A5 (d4 3) d6)) d6)) (d8 (d9 (e8 S5 (e8 G7 (e8 S5 (e8 g8 (d4 4) (d4 4)) d6) d6) (d4 1)))))))),?_⟩
  refine⟨_,rfl,_,B0 hM rfl,_,rfl,_,rfl,?_⟩
  refine wc (fun h0=>?_) (fun h0=>?_)
  ·refine⟨_,rfl,_,B0 hM rfl,_,rfl,_,_,rfl,rfl,hb,?_⟩
   refine⟨_,rfl,_,B0 hM rfl,_,rfl,_,_,rfl,rfl,⟨by omega,hl⟩,_,rfl,_,_,_,_,rfl,rfl,hM,rfl,?_⟩
   exact⟨_,rfl,k _ _ (Ni _ (by omega)) (MU _ hb) (j1.upd _ _ _)⟩
  ·refine⟨_,rfl,_,B0 hM rfl,_,rfl,_,rfl,_,_,_,_,rfl,rfl,hM,rfl,?_⟩
   refine⟨_,rfl,_,B0 f7 rfl,_,rfl,_,B0 f7 rfl,_,_,rfl,rfl,An (by decide) (by decide),_,rfl,_,_,rfl,rfl,(by show(0:Int)<1000000007;decide),?_⟩
   refine⟨_,rfl,_,rfl,_,rfl,_,rfl,_,_,rfl,rfl,Ic (by decide) (by decide) (by decide) (by decide),_,_,rfl,rfl,(by show(0:Int)<998244353;decide),?_⟩
   refine⟨_,rfl,_,rfl,_,_,rfl,rfl,Gy (by decide) (by decide),_,_,rfl,rfl,(by show(0:Int)<2147483647;decide),_,_,rfl,rfl,Ir,_,rfl,_,_,rfl,rfl,hb,?_⟩
   exact k _ _ (Ni _ (by omega)) (MU _ hb) (j1.upd _ _ _)
theorem eP(T:Txt K mg)(d:Df K mg "_law_other" O5 ["pool","number"])(IG:Fn P w K mg base "_law_sum" 2 ["one","other"] N3)(ID:Fn P w K mg base "_law_next" 1 ["pool","base"] C2):Fn P w K mg base "_law_other" 3 ["pool","number"] di:=by
 have sc:=eA
 walk_at "fn"
 obtain⟨p,q,rfl,⟨hp,hz⟩,k⟩:=h
 refine⟨_,(d7 (jst 2 sc.nd (p8 (a9 (f6 (a9 d6 (a9 d6 d5))) (a9 (f6 (a9 (C9 d6) (a9 d6 d5))) (a9 (f6 (a9 d6 (a9 (e8 gn d6 d6) d5))) (a9 (f6 (a9 (C9 d6) (a9 d6 d5))) (a9 (d4 1) d5))))))) (d8 (d9 (jc IG hr (a9 (d4 1) (a9 (jx (d4 2) (jc ID hr (a9 (d4 0) (a9 d6 d5)))) d5)))))),?_⟩
 walk_at "sim"
 refine⟨⟨by decide,by decide,by decide⟩,hp,by decide,fun r M' r0 r1 st=>E6 r0 (by show r<5;omega) fun d hd=>?_⟩
 obtain⟨w,rfl,h1,h2⟩:∃ w:Rat,d=e7 w∧sz q+sz w≤8900∧sz (q+w)≤sz q+42:=by
  have few:∀ w:Rat,sz w≤41→sz q+sz w≤8900∧sz (q+w)≤sz q+42:=fun w hw=>by
   have:=RM.E9 q w
   exact⟨by omega,by omega⟩
  simp only[LB,LK,or_false]at hd
  rcases hd with rfl|rfl|rfl|rfl|rfl
  ·exact⟨1,rfl,few _ (by decide +kernel)⟩
  ·exact⟨-1,rfl,few _ (by decide +kernel)⟩
  ·exact⟨LW 1 (10 ^ 12),by show _=D.tup [.int (LW 1 (10 ^ 12)).num,.int ((LW 1 (10 ^ 12)).den:Int)];rw[show(LW 1 (10 ^ 12)).num=1 by decide +kernel,show(LW 1 (10 ^ 12)).den=10 ^ 12 by decide +kernel];rfl,few _ (by decide +kernel)⟩
  ·exact⟨LW (-1) 3,by show _=D.tup [.int (LW (-1) 3).num,.int ((LW (-1) 3).den:Int)];rw[show(LW (-1) 3).num = -1 by decide +kernel,show(LW (-1) 3).den=3 by decide +kernel];rfl,few _ (by decide +kernel)⟩
  ·exact⟨q,rfl,by omega,by have:=uk q;omega⟩
 walk_at "sim"
 exact⟨h1,k _ _ h2 st⟩
theorem Q7(T:Txt K mg)(d:Df K mg "_law_shares_turned" A7 ["pool","shares","many_lines"])(ID:Fn P w K mg base "_law_next" 1 ["pool","base"] C2)(IS:Fn P w K mg base "_law_back" 1 ["one"] cV)(IJ:Fn P w K mg base "_law_other" 3 ["pool","number"] di):Fn P w K mg base "_law_shares_turned" 4 ["pool","shares","many_lines"] Dk:=by
 have sc:=Q5
 walk_at "fn"
 obtain⟨p,x,n,rfl,sh,rfl,hp,hn,h20,hz,k⟩:=h
 have lg:∀{b:Int},b.natAbs<2 ^ 41→b.natAbs.log2<9000:=fun{b} hb=>F3 (Lz hb (LD (by decide) (by decide))) (by decide)
 refine⟨_,(d7 (jst 3 sc.nd (qo xm rfl T.b_list aO (a9 (d4 1) d5))) (d7 (jst 4 sc.nd (jc ID hr (a9 (d4 0) (a9 (e8 A5 (j2 F8 rfl T.b_len B2 (a9 (d4 3) d5)) d6) d5)))) (d7 (jst 5 sc.nd (jc ID hr (a9 (d4 0) (a9 d6 d5)))) (d7 (g6 (A6 (B7 (jtm q9 (d4 5) d6) (C7 (jtm q9 (d4 4) (j2 F8 rfl T.b_len B2 (a9 (d4 3) d5)))))) (d7 (jst 6 sc.nd (e8 C6 (jc ID hr (a9 (d4 0) (a9 (e8 A5 (d4 2) d6) d5))) d6)) (d8 (B6 (aE PySem.F.slot_list_insert PySem.F.type_list_insert rQ (d4 3) (a9 (d4 4) (a9 (f6 (a9 (d4 6) (a9 (jx (p8 (a9 (f6 (a9 d6 (a9 d6 d5))) (a9 (f6 (a9 d6 (a9 d6 d5))) (a9 (f6 (a9 (C9 d6) (a9 d6 d5))) d5)))) (jc ID hr (a9 (d4 0) (a9 d6 d5)))) d5))) d5)))))) (d8 (g6 (jtm q9 (d4 5) d6) (d8 (B6 (aE PySem.F.slot_list_pop PySem.F.type_list_pop AH (d4 3) (a9 (d4 4) d5)))) (d8 (g6 (jtm q9 (d4 5) d6) (d8 (B6 (Ej PySem.F.slot_list_reverse PySem.F.type_list_reverse og (d4 3)))) (d8 (g6 (jtm q9 (d4 5) d6) (d8 (m7 (f6 (a9 (e8 A5 (jx (jx (d4 3) (d4 4)) d6) (jx (p8 (a9 d6 (a9 (C9 d6) (a9 (e8 gn d6 d6) d5)))) (jc ID hr (a9 (d4 0) (a9 d6 d5))))) (a9 (jx (jx (d4 3) (d4 4)) d6) d5))) (V0 (d4 3) (d4 4)))) (d8 (g6 (jtm q9 (d4 5) d6) (d8 (m7 (f6 (a9 (jx (jx (d4 3) (d4 4)) d6) (a9 (jc IS hr (a9 (jx (jx (d4 3) (d4 4)) d6) d5)) d5))) (V0 (d4 3) (d4 4)))) (d8 (m7 (f6 (a9 (jx (jx (d4 3) (d4 4)) d6) (a9 (jc IJ hr (a9 (d4 0) (a9 (jx (jx (d4 3) (d4 4)) d6) d5))) d5))) (V0 (d4 3) (d4 4))))))))))))) (d8 (d9 (bg (bf (d4 3))))))))),?_⟩
 walk_at "sim"
 refine⟨_,_,rfl,.inr (.inr rfl),fun l hl=>?_⟩
 have hlp:l≠p:=hp.ne hl
 have st0:j1 p M (v7 M l (.lst (sh.map shD))):=j1.mk' hp (MK.new hl)
 have ln:∀{M':Mem} {xs:List (Int × Rat)} {R:DK},M' l=some (.lst (xs.map shD))→R (.int (xs.length:Int)) M'→mi [D.ref l] M' R:=fun{M' xs R} h r=>⟨_,_,rfl,jr (ds:=xs.map shD) (.inr (.inl ⟨l,rfl,h⟩)),by rw[LF];exact r⟩
 have fin:∀(sh':List (Int × Rat)) (M':Mem),M' l=some (.lst (sh'.map shD))→xw sh sh'→j1 p M M'→mJ (.ref l) M' fun x M1=>rZ x M1 R:=fun sh' M' hm ht st=>by
  rw[cT hm]
  walk_at "sim"
  exact⟨_,fun _ _ h=>h,k sh' _ ht (st.del hl hlp)⟩
 refine ln f7 ?_
 walk_at "sim"
 refine⟨st0.pool,by omega,lg (by omega),fun a M1 a0 a1 s1=>⟨s1.pool,by decide,fun r M2 r0 r7 s2=>?_⟩⟩
 have st2:=st0.trans (s1.trans s2)
 have hm2:=(s1.trans s2).keep l _ hlp f7
 obtain⟨j,rfl⟩:∃ j:Nat,a=(j:Int):=⟨a.toNat,by omega⟩
 have ins:p7 M2 p∧0<(n:Int)+3∧((n:Int)+3).natAbs.log2<9000∧∀(r:Int) (M':Mem),0≤r→r<(n:Int)+3→j1 p M2 M'→LMK (.ref l) M' (p7 M' p∧(Qa 3).log2<9000∧∀(r1:Int) (M3:Mem),0≤r1→r1<3→j1 p M' M3→gIx (D.vl [e7 0,e7 1,D.tup [D.int (-1),D.int 2]]) (D.int r1) M3 fun x4 M1=>jw (.ref l) [.int (j:Int),D.tup [D.int (r - 1),x4]] M1 fun x5 M1=>mJ (.ref l) M1 fun x M1=>rZ x M1 R):=by
  refine⟨s2.pool,by omega,lg (by omega),fun v M3 v0 v1 s3=>K6 (s3.keep l _ hlp hm2) ⟨s3.pool,by decide,fun w M4 w0 w1 s4=>E6 w0 (by show w<3;omega) fun d hd=>?_⟩⟩
  obtain⟨u,rfl,hu⟩:∃ u:Rat,d=e7 u∧sz u≤42:=by
   simp only[LB,LK,or_false]at hd
   rcases hd with rfl|rfl|rfl
   ·exact⟨0,rfl,by decide +kernel⟩
   ·exact⟨1,rfl,by decide +kernel⟩
   ·exact⟨LW (-1) 2,by show _=D.tup [.int (LW (-1) 2).num,.int ((LW (-1) 2).den:Int)];rw[show(LW (-1) 2).num = -1 by decide +kernel,show(LW (-1) 2).den=2 by decide +kernel];rfl,by decide +kernel⟩
  have hm4:=(s3.trans s4).keep l _ hlp hm2
  refine ER hm4 (by rw[LF];omega) (by rw[LF];omega) ?_
  refine fin (sh.take j++(v - 1,u) :: sh.drop j) _ (by rw[f7];simp[shD]) ⟨?_,fun s hs=>?_⟩ ((st2.trans (s3.trans s4)).put hl hlp)
  ·rw[Mi,Me,Ml,MI];omega
  ·rcases Md.mp hs with hs|hs
   ·exact .inr ⟨s,MY hs,Mj _ _⟩
   ·rcases LB.mp hs with rfl|hs
    ·exact .inl hu
    ·exact .inr ⟨s,NP hs,Mj _ _⟩
 have put:∀(s':Int × Rat) (M':Mem),j<sh.length→M' l=some (.lst (sh.map shD))→(∃ s1∈sh,sz s'.2≤sz s1.2+42)→j1 p M M'→wq (.ref l) (.int (j:Int)) (shD s') M' fun M1=>mJ (.ref l) M1 fun x M1=>rZ x M1 R:=fun s' M' hj hm hs st=>by
  refine qM hm (by rw[LF];exact hj) (fin (sh.set j s') _ (by rw[f7,List.map_set]) ⟨by rw[OI];omega,fun s hs'=>?_⟩ (st.put hl hlp))
  rcases List.mem_or_eq_of_mem_set hs' with h|rfl
  ·exact .inr ⟨s,h,Mj _ _⟩
  ·exact .inr hs
 refine⟨fun _=>ins,fun c0=>ln hm2 ?_⟩
 walk_at "sim"
 refine⟨fun _=>ins,fun c1=>?_⟩
 have hj:j<sh.length:=by omega
 have hg:sh[j]? = some (sh[j]):=LU hj
 have hgm:=LS hg
 generalize sh[j]=s at hg hgm
 have hs2:=hz s hgm
 have at_:∀{M':Mem} {R:DK},M' l=some (.lst (sh.map shD))→R (shD s) M'→gIx (.ref l) (.int (j:Int)) M' R:=fun{M' R} h r=>⟨_,B0 h (m8 (n:=j) (by rw[LY,hg];rfl)),r⟩
 refine⟨fun c2=>K6 hm2 (Bb hm2 (by rw[LF];omega) (by rw[LY,hg];rfl) (fin (sh.eraseIdx j) _ (by rw[f7,gB]) ⟨LL (Oq _ _) (ND _),fun s hs=>.inr ⟨s,List.mem_of_mem_eraseIdx hs,Mj _ _⟩⟩ (st2.put hl hlp))),fun c2=>⟨fun c3=>?_,fun c3=>⟨fun c4=>at_ hm2 ?_,fun c4=>⟨fun c5=>at_ hm2 ?_,fun c5=>at_ hm2 ?_⟩⟩⟩⟩
 ·refine K6 hm2 ⟨l,_,rfl,rfl,hm2,fin sh.reverse _ (by rw[f7,List.map_reverse]) ⟨by rw[OW];omega,fun s hs=>.inr ⟨s,List.mem_reverse.mp hs,Mj _ _⟩⟩ (st2.put hl hlp)⟩
 ·have hd:shD s = .tup [.int s.1,e7 s.2]:=rfl
  rw[hd]
  walk_at "sim"
  refine⟨⟨by decide,by decide,by decide⟩,s2.pool,by decide,fun v M3 v0 v1 s3=>E6 v0 (by show v<3;omega) fun d hd2=>?_⟩
  have hm3:=s3.keep l _ hlp hm2
  obtain⟨b,rfl⟩:∃ b:Int,d = .int b:=by
   simp only[LB,LK,or_false]at hd2
   rcases hd2 with rfl|rfl|rfl<;>exact⟨_,rfl⟩
  walk_at "sim"
  refine at_ hm3 ?_
  rw[hd]
  walk_at "sim"
  exact put (s.1+b,s.2) M3 hj hm3 ⟨s,hgm,Mj _ _⟩ (st2.trans s3)
 ·have hd:shD s = .tup [.int s.1,e7 s.2]:=rfl
  rw[hd]
  walk_at "sim"
  refine at_ hm2 ?_
  rw[hd]
  walk_at "sim"
  exact put (s.1,-s.2) M2 hj hm2 ⟨s,hgm,by show sz (-s.2)≤_;rw[RM.N0];exact Mj _ _⟩ st2
 ·have hd:shD s = .tup [.int s.1,e7 s.2]:=rfl
  rw[hd]
  walk_at "sim"
  refine at_ hm2 ?_
  rw[hd]
  walk_at "sim"
  refine⟨⟨s2.pool,by omega⟩,fun w M3 hw s3=>?_⟩
  exact put (s.1,w) M3 hj (s3.keep l _ hlp hm2) ⟨s,hgm,hw⟩ (st2.trans s3)
theorem Y1(T:Txt K mg)(d:Df K mg "_law_ray_turned" C4 ["pool","ray"])(IJ:Fn P w K mg base "_law_other" 3 ["pool","number"] di)(ID:Fn P w K mg base "_law_next" 1 ["pool","base"] C2):Fn P w K mg base "_law_ray_turned" 4 ["pool","ray"] uK:=by
 have sc:=W8
 walk_at "fn"
 obtain⟨p,y,u,rfl,⟨hp,hy,hu⟩,k⟩:=h
 refine⟨_,(d7 (g6 (jtm q9 (jc ID hr (a9 (d4 0) (a9 d6 d5))) d6) (d8 (d9 (f6 (a9 (jc IJ hr (a9 (d4 0) (a9 (jx (d4 1) d6) d5))) (a9 (jx (d4 1) d6) d5))))) g5) (d8 (d9 (f6 (a9 (jx (d4 1) d6) (a9 (jc IJ hr (a9 (d4 0) (a9 (jx (d4 1) d6) d5))) d5)))))),?_⟩
 walk_at "sim"
 exact⟨hp,by decide,fun r M1 r0 r1 s1=>⟨fun _=>⟨⟨s1.pool,hy⟩,fun r M2 hr s2=>k (r,u) M2 hr (Mj _ _) (s1.trans s2)⟩,fun _=>⟨⟨s1.pool,hu⟩,fun r M2 hr s2=>k (y,r) M2 (Mj _ _) hr (s1.trans s2)⟩⟩⟩
theorem dq(T:Txt K mg)(d:Df K mg "_law_turned" K0 ["pool","told","lines"])(IT:Fn P w K mg base "_law_shares_turned" 4 ["pool","shares","many_lines"] Dk)(IQ:Fn P w K mg base "_law_ray_turned" 4 ["pool","ray"] uK)(IJ:Fn P w K mg base "_law_other" 3 ["pool","number"] di)(ID:Fn P w K mg base "_law_next" 1 ["pool","base"] C2):Fn P w K mg base "_law_turned" 5 ["pool","told","lines"] iB:=by
 have sc:=cZ
 walk_at "fn"
 obtain⟨p,t,ls,rfl,m,kk,rfl,hp,h12,hk1,hm,k⟩:=h
 refine⟨_,(d7 (g6 (jtm lR (jx (d4 1) d6) A1) (d8 (d9 (f6 (a9 A1 (a9 (jc IQ hr (a9 (d4 0) (a9 (jx (d4 1) d6) d5))) d5))))) g5) (d7 (m7 (d4 1) (j5 (n:=4) rfl (e5 (jn 3 sc.nd) (e5 (jn 4 sc.nd) (e5 (jn 5 sc.nd) (e5 (jn 6 sc.nd) i6)))))) (d7 (jst 7 sc.nd (jc ID hr (a9 (d4 0) (a9 d6 d5)))) (d7 (g6 (jtm q9 (d4 7) d6) (d8 (d9 (f6 (a9 (d4 3) (a9 (jc IJ hr (a9 (d4 0) (a9 (d4 4) d5))) (a9 (d4 5) (a9 (d4 6) d5))))))) g5) (d7 (g6 (jtm q9 (d4 7) d6) (d8 (d9 (f6 (a9 (d4 3) (a9 (d4 4) (a9 (jc IQ hr (a9 (d4 0) (a9 (d4 5) d5))) (a9 (d4 6) d5))))))) g5) (d7 (g6 (jtm q9 (d4 7) d6) (d8 (d9 (f6 (a9 A1 (a9 (d4 5) d5))))) g5) (d8 (d9 (f6 (a9 (d4 3) (a9 (d4 4) (a9 (d4 5) (a9 (jc IT hr (a9 (d4 0) (a9 (d4 6) (a9 (j2 F8 rfl T.b_len B2 (a9 (d4 2) d5)) d5)))) d5))))))))))))),?_⟩
 cases m with
 | free z =>
  obtain⟨z1,z2⟩:=hm.free z rfl
  show AJ _ _ _ (K4 _ [D.ref p,.tup [.str "free",p9 z.1 z.2],D.vl (MM f9 ls)]) M
  walk_at "sim"
  exact⟨⟨hp,by omega,by omega⟩,fun z' M1 h1 h2 s1=>k (.free z') M1 ⟨fun z e=>by cases e;omega,fun _ _ _ e=>by cases e⟩ s1⟩
 | most v z sh =>
  obtain⟨zv,⟨z1,z2⟩,zl,zs⟩:=hm.most v z sh rfl
  show AJ _ _ _ (K4 _ [D.ref p,.tup [.str "most",e7 v,p9 z.1 z.2,.vl (sh.map shD)],D.vl (MM f9 ls)]) M
  walk_at "sim"
  have zs':∀ s∈sh,sz s.2≤2700+42*(kk+1):=fun s hs=>by have:=zs s hs;omega
  refine⟨fun c=>absurd c (by decide),fun _=>⟨hp,by decide,fun r M1 r0 r1 s1=>⟨fun _=>⟨⟨s1.pool,by omega⟩,fun w M2 hw s2=>?_⟩,fun _=>⟨fun _=>⟨⟨s1.pool,by omega,by omega⟩,fun z' M2 h1 h2 s2=>?_⟩,fun _=>⟨fun _=>?_,fun _=>⟨sh,rfl,s1.pool,by rw[LF];exact h12,by omega,fun s hs=>by have:=zs s hs;omega,fun sh' M2 ht s2=>?_⟩⟩⟩⟩⟩⟩
  ·exact k (.most w z sh) M2 ⟨fun _ e=>(by cases e),fun _ _ _ e=>by cases e;exact⟨by omega,⟨by omega,by omega⟩,by omega,zs'⟩⟩ (s1.trans s2)
  ·exact k (.most v z' sh) M2 ⟨fun _ e=>(by cases e),fun _ _ _ e=>by cases e;exact⟨by omega,⟨by omega,by omega⟩,by omega,zs'⟩⟩ (s1.trans s2)
  ·exact k (.free z) M1 ⟨fun _ e=>by cases e;omega,fun _ _ _ e=>by cases e⟩ s1
  ·refine k (.most v z sh') M2 ⟨fun _ e=>(by cases e),fun v' z' s' e=>?_⟩ (s1.trans s2)
   cases e
   refine⟨by omega,⟨by omega,by omega⟩,by have:=ht.1;omega,fun s hs=>?_⟩
   rcases ht.2 s hs with h|⟨s1,h1,h2⟩
   ·omega
   ·have:=zs s1 h1;omega
theorem je(T:Txt K mg)(d:Df K mg "_law_wide" R6 ["pool","base"])(ID:Fn P w K mg base "_law_next" 1 ["pool","base"] C2):Fn P w K mg base "_law_wide" 2 ["pool","base"] C2:=by
 have sc:=hJ
 refine g9 d sc (fun ds M R Y h=>?_) (fun f cdv A outer s H E ds M R Y hr h=>?_)
 ·obtain⟨p,b,rfl,_⟩:=h;rfl
 ·obtain⟨p,b,rfl,⟨x,y,z,hM⟩,hb,hl,k⟩:=h
  refine⟨_,(d7 (g6 (A6 (B7 (jtm ba (jx (d4 0) d6) d6) (C7 (jtm dD (d4 1) (e8 gn d6 d6))))) (d8 (d9 (jc ID hr (a9 (d4 0) (a9 (d4 1) d5))))) g5) (d7 (jst 2 sc.nd d6) (d7 (t4 PassesOwn.never rfl (js rfl T.b_range (a9 (e8 A5 d6 (e8 G7 (Ay (d4 1)) d6)) d5)) (jn 3 sc.nd) (d8 (jst 2 sc.nd (e8 A5 (e8 g8 (d4 2) d6) (jc ID hr (a9 (d4 0) (a9 d6 d5))))))) (d8 (d9 (e8 S5 (d4 2) (d4 1))))))),?_⟩
  refine⟨_,rfl,_,B0 hM rfl,_,rfl,_,rfl,?_⟩
  have again:Ey (mq C2 [] Y0 (qD (W0 0) (qD (W0 1) Ez))) { nx:=fun _ M'=>R .non M',rt:=R } (K4 ["pool","base","number","turn"] [.ref p,.int b]) M :=
   ⟨_,rfl,_,rfl,p,b,rfl,⟨x,y,z,hM⟩,hb,hl,k⟩
  refine wc (fun h0=>?_) (fun h0=>?_)
  ·exact GC again
  ·refine⟨_,rfl,_,_,rfl,rfl,cp6,_,rfl,_,rfl,?_⟩
   refine wc (fun h1=>?_) (fun h1=>?_)
   ·exact again
   ·have hbits:=AR hl
    have e20:((Builtin.Int.intBits b:Nat):Int).fdiv 20=((Builtin.Int.intBits b:Nat):Int) / 20:=aJ (by omega) (by decide)
    refine⟨_,rfl,_,rfl,_,_,rfl,rfl,Hl,_,rfl,_,rfl,by rw[e20];omega,by rw[e20];omega,?_⟩
    refine⟨fun i e M'=>∃(n:Int) (t:Option D),e=[some (.ref p),some (.int b),some (.int n),t]∧j1 p M M',⟨0,none,rfl,j1.refl ⟨x,y,z,hM⟩⟩,fun _ _ _ _ _=>trivial,?_,?_⟩
    ·rintro i dd e M' hd ⟨n,t,rfl,st⟩
     refine⟨_,rfl,_,_,rfl,rfl,Ie (by decide) (by decide),_,rfl,p,_,rfl,st.pool,by decide,by decide,fun r M2 h0 h1 st2=>?_⟩
     exact⟨_,rfl,_,_,rfl,st.trans st2⟩
    ·rintro e M' ⟨n,t,rfl,st⟩
     exact⟨_,rfl,_,rfl,_,_,rfl,rfl,hb,k _ _ (Ni _ (by omega)) (MU _ hb) st⟩
theorem dz(T:Txt K mg)(d:Df K mg "_law_number" K1 ["pool"])(IE:Fn P w K mg base "_law_low" 1 ["top","bottom"] D2)(Jk:Fn P w K mg base "_law_wide" 2 ["pool","base"] C2)(ID:Fn P w K mg base "_law_next" 1 ["pool","base"] C2):Fn P w K mg base "_law_number" 3 ["pool"] R0:=by
 have sc:=dc
 walk_at "fn"
 obtain⟨p,rfl,hp,k⟩:=h
 refine⟨_,(d7 (jst 1 sc.nd (jc ID hr (a9 (d4 0) (a9 d6 d5)))) (d7 (g6 (jtm dD (d4 1) d6) (d8 (d9 (jc IE hr (a9 (e8 C6 (jc ID hr (a9 (d4 0) (a9 d6 d5))) d6) (a9 (jx (p8 (a9 d6 (a9 d6 (a9 d6 (a9 d6 (a9 d6 (a9 d6 d5))))))) (jc ID hr (a9 (d4 0) (a9 d6 d5)))) d5))))) g5) (d7 (g6 (jtm q9 (d4 1) d6) (d8 (d9 (jc IE hr (a9 (e8 C6 (jc ID hr (a9 (d4 0) (a9 d6 d5))) d6) (a9 (e8 A5 d6 (jc ID hr (a9 (d4 0) (a9 d6 d5)))) d5))))) g5) (d7 (g6 (jtm q9 (d4 1) d6) (d7 (jst 2 sc.nd (e8 C6 (e8 gn d6 d6) d6)) (d8 (d9 (jc IE hr (a9 (e8 C6 (jc Jk hr (a9 (d4 0) (a9 (e8 A5 (e8 g8 d6 (d4 2)) d6) d5))) (d4 2)) (a9 (e8 A5 d6 (jc Jk hr (a9 (d4 0) (a9 (d4 2) d5)))) d5)))))) g5) (d8 (d9 (f6 (a9 d6 (a9 d6 d5))))))))),?_⟩
 walk_at "sim"
 have e12:(10:Int) ^ Int.toNat 12=1000000000000:=by decide
 have lg:∀{b:Int},b.natAbs<2 ^ 41→b.natAbs.log2<9000:=fun{b} hb=>F3 (Lz hb (LD (by decide) (by decide))) (by decide)
 refine⟨hp,by decide,fun r M1 r0 r1 s1=>⟨fun h1=>⟨s1.pool,by decide,fun t M2 t0 t1 s2=>⟨s2.pool,by decide,fun v M3 v0 v1 s3=>?_⟩⟩,fun h1=>⟨fun h2=>⟨s1.pool,by decide,fun t M2 t0 t1 s2=>⟨s2.pool,by decide,fun v M3 v0 v1 s3=>⟨by omega,lg (by omega),k _ _ (G9 (by decide) (by omega) (by omega) (by omega)) (s1.trans (s2.trans s3))⟩⟩⟩,fun h2=>⟨fun h3=>?_,fun h3=>k _ _ (by decide) s1⟩⟩⟩⟩
 ·refine E6 (by omega) (by show v<6;omega) fun d hd=>?_
  have hd':∃ b:Int,d = .int b∧0<b∧b≤4:=by
   simp only[LB,LK,or_false]at hd
   rcases hd with rfl|rfl|rfl|rfl|rfl|rfl
   ·exact⟨1,rfl,by decide,by decide⟩
   ·exact⟨1,rfl,by decide,by decide⟩
   ·exact⟨1,rfl,by decide,by decide⟩
   ·exact⟨2,rfl,by decide,by decide⟩
   ·exact⟨3,rfl,by decide,by decide⟩
   ·exact⟨4,rfl,by decide,by decide⟩
  obtain⟨b,rfl,b0,b1⟩:=hd'
  walk_at "sim"
  exact⟨by omega,lg (by omega),k _ _ (G9 (by decide) (by omega) (by omega) (by omega)) (s1.trans (s2.trans s3))⟩
 ·rw[e12]
  refine⟨Iq,An (by decide) (by decide),s1.pool,by decide,lg (by decide),fun t M2 t0 t1 s2=>⟨s2.pool,by decide,lg (by decide),fun v M3 v0 v1 s3=>⟨by omega,lg (by omega),k _ _ (G9 (by decide) (by omega) (by omega) (by omega)) (s1.trans (s2.trans s3))⟩⟩⟩
theorem lP(T:Txt K mg)(d:Df K mg "_law_ray" X8 ["pool"])(IH:Fn P w K mg base "_law_number" 3 ["pool"] R0):Fn P w K mg base "_law_ray" 4 ["pool"] uv:=by
 have sc:=lu
 walk_at "fn"
 obtain⟨p,rfl,hp,k⟩:=h
 refine⟨_,(d8 (d9 (f6 (a9 (jc IH hr (a9 (d4 0) d5)) (a9 (jc IH hr (a9 (d4 0) d5)) d5))))),?_⟩
 walk_at "sim"
 exact⟨hp,fun q M1 hq s1=>⟨s1.pool,fun r M2 hr' s2=>k q r M2 ⟨hq,hr'⟩ (s1.trans s2)⟩⟩
theorem nS(T:Txt K mg)(d:Df K mg "divisor" aX ["one","other"]):Fn P w K mg base "divisor" 1 ["one","other"] K8:=by
 have sc:=nc
 refine g9 d sc (fun ds M R Y h=>?_) (fun f cdv A outer s H E ds M R Y hr h=>?_)
 ·obtain⟨a,b,rfl,_⟩:=h;rfl
 ·obtain⟨a,b,rfl,k⟩:=h
  refine⟨_,(d7 (bb PassesOwn.never (jtm vJ (d4 1) d6) (d8 (aD (i:=0) (j:=1) rfl sc.nd rfl rfl (by decide) rfl rfl (a9 (d4 1) (a9 (e8 S5 (d4 0) (d4 1)) d5))))) (d8 (d9 (d4 0)))),?_⟩
  refine⟨fun m e M'=>M'=M∧∃ u:Nat,e=[some (.int (u:Int)),some (.int (m:Int))]∧MH u m=MH a b,⟨b,rfl,a,rfl,rfl⟩,?_⟩
  rintro v e M' ⟨rfl,u,rfl,hg⟩
  refine⟨_,rfl,_,rfl,_,rfl,?_⟩
  refine GD (fun h0=>?_) (fun h0=>?_)
  ·have hv:0<v:=by omega
   refine⟨_,rfl,_,rfl,_,rfl,_,_,rfl,rfl,by omega,_,_,rfl,?_⟩
   exact⟨u % v,NR _ hv,rfl,v,rfl,by rw[← RM.mh u v (by omega)];exact hg⟩
  ·have hv:v=0:=by omega
   subst hv
   rw[Pm]at hg
   subst hg
   exact⟨_,rfl,k⟩
theorem lL(T:Txt K mg)(d:Df K mg "is_whole" X4 ["thing"]):Fn P w K mg base "is_whole" 1 ["thing"] pW:=by
 have sc:=ll
 refine g9 d sc (fun ds M R Y h=>?_) (fun f cdv A outer s H E ds M R Y hr h=>?_)
 ·obtain⟨n,rfl,_⟩:=h;rfl
 ·obtain⟨n,rfl,k⟩:=h
  refine⟨_,(d8 (d9 (P6 (j2 (xn T.sub) rfl T.b_isinstance K5 (a9 (d4 0) (a9 (vX rfl T.b_int EE) d5))) (P5 (Aw (j2 (xn T.sub) rfl T.b_isinstance K5 (a9 (d4 0) (a9 (vX rfl T.b_bool qH) d5)))))))),?_⟩
  refine⟨_,rfl,_,_,_,_,rfl,rfl,rfl,_,rfl,?_⟩
  refine GC ?_
  exact⟨_,rfl,_,_,_,_,rfl,rfl,rfl,_,rfl,k⟩
theorem vD(T:Txt K mg)(d:Df K mg "ratio" iq ["top","bottom"])(Js:Fn P w K mg base "is_whole" 1 ["thing"] pW)(IU:Fn P w K mg base "divisor" 1 ["one","other"] K8):Fn P w K mg base "ratio" 2 ["top","bottom"] D2:=by
 have sc:=uB
 refine g9 d sc (fun ds M R Y h=>?_) (fun f cdv A outer s H E ds M R Y hr h=>?_)
 ·obtain⟨p,b,rfl,_⟩:=h;rfl
 ·obtain⟨a,b,rfl,hb,hl,k⟩:=h
  refine⟨_,(d7 (g6 (A6 (B7 (C8 (u6 (jc Js hr (a9 (d4 0) d5)))) (B7 (C8 (u6 (jc Js hr (a9 (d4 1) d5)))) (C7 (jtm q9 (d4 1) d6))))) (d8 rL) g5) (d7 (jst 2 sc.nd (jc IU hr (a9 (j2 dM rfl T.b_abs Y7 (a9 (d4 0) d5)) (a9 (j2 dM rfl T.b_abs Y7 (a9 (d4 1) d5)) d5)))) (d7 (g6 (jtm dD (d4 1) d6) (d8 (jst 2 sc.nd (C9 (d4 2)))) g5) (d8 (d9 (f6 (a9 (e8 G7 (d4 0) (d4 2)) (a9 (e8 G7 (d4 1) (d4 2)) d5)))))))),?_⟩
  refine⟨_,rfl,_,rfl,true,rfl,?_⟩
  refine GF ?_
  refine⟨_,rfl,_,rfl,true,rfl,?_⟩
  refine GF ?_
  refine⟨_,rfl,_,rfl,_,rfl,?_⟩
  refine wc (fun h=>absurd h hb) (fun _=>?_)
  refine⟨_,rfl,_,rfl,_,rfl,_,rfl,a.natAbs,b.natAbs,rfl,?_⟩
  have hn:=wo (a:=a) hb
  have hlg:=qs (a:=a) hb hl
  refine⟨_,rfl,_,rfl,_,rfl,?_⟩
  refine wc (fun h1=>?_) (fun h1=>?_)
  ·have c1:∀ i:Int,CFd i (-((MH a.natAbs b.natAbs:Nat):Int)):=fun i=>⟨by omega,by rw[MD];exact hlg⟩
   refine⟨_,rfl,_,rfl,_,rfl,_,rfl,_,_,rfl,rfl,c1 _,_,rfl,_,rfl,_,_,rfl,rfl,c1 _,sl 2,?_⟩
   exact cy hb (by rw[if_pos h1]) k
  ·have c1:∀ i:Int,CFd i ((MH a.natAbs b.natAbs:Nat):Int):=fun i=>⟨hn,hlg⟩
   refine⟨_,rfl,_,rfl,_,_,rfl,rfl,c1 _,_,rfl,_,rfl,_,_,rfl,rfl,c1 _,sl 2,?_⟩
   exact cy hb (by rw[if_neg h1]) k
theorem zZ(T:Txt K mg)(d:Df K mg "veer" de ["one","other"]):Fn P w K mg base "veer" 1 ["one","other"] dh:=by
 have sc:=gX
 walk_at "fn"
 obtain⟨a,b,rfl,⟨ha,hb⟩,k⟩:=h
 unfold sdD
 refine⟨_,(d8 (d9 (e8 C6 (e8 g8 (jx (d4 0) d6) (jx (d4 1) d6)) (e8 g8 (jx (d4 0) d6) (jx (d4 1) d6))))),?_⟩
 walk_at "sim"
 exact⟨i5 _ _ ha.p hb.q (by decide),i5 _ _ ha.q hb.p (by decide),k⟩
theorem rB(T:Txt K mg)(d:Df K mg "met_at" df ["one","other"])(IK:Fn P w K mg base "ratio" 2 ["top","bottom"] D2)(IM:Fn P w K mg base "veer" 1 ["one","other"] dh):Fn P w K mg base "met_at" 3 ["one","other"] Dn:=by
 have sc:=rh
 walk_at "fn"
 obtain⟨a,b,rfl,⟨ha,hb,hv⟩,k⟩:=h
 refine⟨_,(d7 (jst 2 sc.nd (jc IM hr (a9 (d4 0) (a9 (d4 1) d5)))) (d7 (jst 3 sc.nd (jc IK hr (a9 (e8 C6 (e8 g8 (jx (d4 0) d6) (jx (d4 1) d6)) (e8 g8 (jx (d4 1) d6) (jx (d4 0) d6))) (a9 (d4 2) d5)))) (d7 (jst 4 sc.nd (jc IK hr (a9 (e8 C6 (e8 g8 (jx (d4 0) d6) (jx (d4 1) d6)) (e8 g8 (jx (d4 1) d6) (jx (d4 0) d6))) (a9 (d4 2) d5)))) (d8 (d9 (f6 (a9 (d4 3) (a9 (d4 4) d5)))))))),?_⟩
 walk_at "sim"
 have lv:(veZ a b).natAbs.log2<9000:=Lz (F3 (ha.ve hb) (by decide)) (by decide)
 refine⟨⟨ha,hb⟩,i5 _ _ ha.r hb.q (by decide),i5 _ _ hb.r ha.q (by decide),hv,lv,i5 _ _ ha.p hb.r (by decide),i5 _ _ hb.p ha.r (by decide),hv,lv,?_⟩
 rw[← uS]at k
 exact k
theorem nQ(T:Txt K mg)(d:Df K mg "veer" de ["one","other"]):Fn P w K mg base "veer" 1 ["one","other"] iA:=by
 have sc:=gX
 walk_at "fn"
 obtain⟨a,x,y,rfl,⟨ha,hw⟩,k⟩:=h
 unfold sdD
 refine⟨_,(d8 (d9 (e8 C6 (e8 g8 (jx (d4 0) d6) (jx (d4 1) d6)) (e8 g8 (jx (d4 0) d6) (jx (d4 1) d6))))),?_⟩
 walk_at "sim"
 exact⟨i5 _ _ ha.p hw.2 (by decide),i5 _ _ ha.q hw.1 (by decide),k⟩
theorem nP(T:Txt K mg)(d:Df K mg "veer" de ["one","other"]):Fn P w K mg base "veer" 1 ["one","other"] iy:=by
 have sc:=gX
 walk_at "fn"
 obtain⟨x,y,b,rfl,⟨hb,hw⟩,k⟩:=h
 unfold sdD
 refine⟨_,(d8 (d9 (e8 C6 (e8 g8 (jx (d4 0) d6) (jx (d4 1) d6)) (e8 g8 (jx (d4 0) d6) (jx (d4 1) d6))))),?_⟩
 walk_at "sim"
 exact⟨i5 _ _ hw.1 hb.q (by decide),i5 _ _ hw.2 hb.p (by decide),k⟩
theorem rC(T:Txt K mg)(d:Df K mg "facing" dg ["side"]):Fn P w K mg base "facing" 1 ["side"] zk:=by
 have sc:=rj
 walk_at "fn"
 obtain⟨a,rfl,k⟩:=h
 unfold sdD
 refine⟨_,(d7 (m7 (d4 0) (j5 (n:=5) rfl (e5 (jn 1 sc.nd) (e5 (jn 2 sc.nd) (e5 (jn 3 sc.nd) (e5 (jn 4 sc.nd) (e5 (jn 5 sc.nd) i6))))))) (d8 (d9 (f6 (a9 (C9 (d4 1)) (a9 (C9 (d4 2)) (a9 (d4 3) (a9 (d4 4) (a9 (C9 (d4 5)) d5))))))))),?_⟩
 walk_at "sim"
 exact k
theorem bS(T:Txt K mg)(d:Df K mg "sides_around" G4 ["half","wanted"])(Jf:Fn P w K mg base "veer" 1 ["one","other"] iy)(Jg:Fn P w K mg base "veer" 1 ["one","other"] iA)(Jo:Fn P w K mg base "facing" 1 ["side"] zk):Fn P w K mg base "sides_around" 2 ["half","wanted"] Ds:=by
 have sc:=bP
 walk_at "fn"
 obtain⟨half,x,y,rfl,⟨hl,hs,hw⟩,k⟩:=h
 refine⟨_,(d7 (jst 2 sc.nd (jt (d4 0) (A8 [] ["side"] [] rfl (by decide +kernel) rfl (by decide +kernel) (by decide +kernel) rfl bq bq (o8 (d4 0)) (fun _ _ _ _ _ _=>(jn 0 (show(["side"]:List Str).Nodup by decide +kernel))) (fun _ _ _ _ _ _=>t7) (fun _ _ _ _ _ _=>(jc Jo hr (a9 (d4 0) d5)))))) (d7 (jst 3 sc.nd S9) (d7 (t4 PassesOwn.never rfl (Au rfl T.b_zip (a9 (d4 2) (a9 (jt (V1 (d4 2) (L4 d6) L5) (V1 (d4 2) L5 (L4 d6))) d5))) (j5 (n:=2) rfl (e5 (jn 4 sc.nd) (e5 (jn 5 sc.nd) i6))) (d8 (g6 (A6 (K3 (jtm Gu (jc Jg hr (a9 (d4 4) (a9 (d4 1) d5))) d6) (E5 (jtm ba (jc Jf hr (a9 (d4 1) (a9 (d4 5) d5))) d6)))) (d8 (jst 3 sc.nd (f6 (a9 (d4 4) (a9 (d4 5) d5))))) g5))) (d8 (d9 (d4 3)))))),?_⟩
 walk_at "sim"
 refine y4 (fun s=>sdD (j0 s)) (by omega) (by simp only[t5]) (fun s hm Q hQ=>?_) ?_
 ·walk_at "sim"
  exact hQ
 have em:half.map (fun s=>sdD (j0 s))=(half.map j0).map sdD:=by rw[Nu];rfl
 rw[em]
 walk_at "sim"
 have hrl:(bQ half).length≤60:=by unfold bQ;rw[Mi,LF];omega
 have hrs:∀ s∈bQ half,SzS s:=fun s hm=>by
  rcases Md.mp hm with hm|hm
  ·exact hs s hm
  ·obtain⟨t,ht,rfl⟩:=LM.mp hm
   obtain⟨a,b,c⟩:=hs t ht
   exact⟨by show(-t.1).natAbs<_;rw[MD];exact a,by show(-t.2.1).natAbs<_;rw[MD];exact b,c⟩
 have l1:(MM sdD half).length+(MM sdD (MM j0 half)).length≤60:=by rw[LF,LF,LF];omega
 have k:R (zU ((bV (bQ half)).foldl (aP (x,y)) none)) M:=k
 rw[A4 (by omega),zq]
 generalize bQ half=rm at *
 have c1:DL.Y5 (rm.map sdD) (some 1) none=(rm.drop 1).map sdD:=by rw[show(1:Int)=((1:Nat):Int)from rfl,AK,List.map_drop]
 have c2:DL.Y5 (rm.map sdD) none (some 1)=(rm.take 1).map sdD:=by rw[show(1:Int)=((1:Nat):Int)from rfl,om,Pl]
 rw[c1,c2,A4 (by rw[LF,LF,MI,Ml];omega),← LX,sk]
 have ez:rm.zip (rm.drop 1++rm.take 1)=bV rm:=rfl
 rw[ez]
 refine T5.by (fun i e M'=>M'=M∧∃ z4 z5:Option D,e=[some (D.vl (MM sdD half)),some (D.vl [D.int x,D.int y]),some (D.vl (rm.map sdD)),some (zU (((bV rm).take i).foldl (aP (x,y)) none)),z4,z5]) ⟨rfl,_,_,rfl⟩ (fun i e M' _ _=>by simp only[t5,and_self]) ?_ ?_
 ·rintro i dd e M' hd ⟨rfl,z4,z5,rfl⟩
  rw[LY]at hd
  cases hq:(bV rm)[i]? with
  | none=>rw[hq]at hd;cases hd
  | some ab =>
   rw[hq]at hd
   obtain rfl:=Option.some.inj hd
   have e1:((bV rm).take (i+1)).foldl (aP (x,y)) none=aP (x,y) (((bV rm).take i).foldl (aP (x,y)) none) ab:=by
    rw[MP,hq,MZ];rfl
   have hm:=LS hq
   obtain⟨ha,hb⟩:ab.1∈rm∧ab.2∈rm:=by
    have hz:=NV (show(ab.1,ab.2)∈rm.zip (rm.drop 1++rm.take 1)from hm)
    refine⟨hz.1,?_⟩
    rcases Md.mp hz.2 with h|h
    ·exact NP h
    ·exact MY h
   rw[e1]
   generalize ((bV rm).take i).foldl (aP (x,y)) none=f at *
   walk_at "sim"
   unfold aP
   refine⟨⟨hrs _ ha,hw⟩,fun h1=>⟨⟨hrs _ hb,hw⟩,fun h2=>⟨some (sdD ab.1),some (sdD ab.2),?_⟩,fun h2=>⟨some (sdD ab.1),some (sdD ab.2),?_⟩⟩,fun h1=>⟨some (sdD ab.1),some (sdD ab.2),?_⟩⟩
   ·rw[if_pos ⟨h1,h2⟩];rfl
   ·rw[if_neg (fun z=>h2 z.2)]
   ·rw[if_neg (fun z=>h1 z.1)]
 ·rw[LF,MJ]
  rintro e M' ⟨rfl,z4,z5,rfl⟩
  walk_at "sim"
  exact k
theorem bR(T:Txt K mg)(d:Df K mg "tops_over" J3 ["ratios","bottom"]):Fn P w K mg base "tops_over" 1 ["ratios","bottom"] ny:=by
 have sc:=Z5
 walk_at "fn"
 obtain⟨p,q,c,rfl,⟨⟨h1,h2⟩,rfl⟩,k⟩:=h
 refine⟨_,(d8 (d9 (A8 [1] ["one"] ["bottom"] rfl (by decide +kernel) rfl (by decide +kernel) (by decide +kernel) rfl (aQ ⟨rfl,rfl⟩) (aQ (Or.inl rfl)) (o8 (d4 0)) (fun _ _ _ _ _ _=>(jn 0 (show(["one","bottom"]:List Str).Nodup by decide +kernel))) (fun _ _ _ _ _ _=>t7) (fun _ _ _ _ _ _=>(e8 g8 (jx (d4 0) d6) (e8 G7 (d4 1) (jx (d4 0) d6))))))),?_⟩
 walk_at "sim"
 refine y4 (xs:=[p,q]) (enc:=e7) (fun r=>.int (L9 r (cb2 p q))) (by show 2≤1000;decide) (by simp only[t8]) (fun r hr Q hQ=>?_) k
 have hrz:sz r≤1100:=by
  simp only[LB,LK,or_false]at hr
  rcases hr with rfl|rfl
  ·exact h1
  ·exact h2
 have d0:=r.den_pos
 have hd:r.den<2 ^ 1100:=j9 r hrz
 have ef:((cb2 p q:Nat):Int).fdiv (r.den:Int)=((cb2 p q / r.den:Nat):Int):=by rw[aJ (by omega) (by omega)];rfl
 walk_at "sim"
 rw[ef]
 exact⟨⟨by omega,Lz (F3 (by rw[LJ];exact hd) (by decide)) (by decide)⟩,i5 1100 2200 (J4 r hrz) (by rw[LJ];exact LR (Nf _ _) (xi h1 h2)) (by decide),hQ⟩
theorem V9(T:Txt K mg)(d:Df K mg "common_bottom" B9 ["ratios"])(IU:Fn P w K mg base "divisor" 1 ["one","other"] K8):Fn P w K mg base "common_bottom" 2 ["ratios"] Dr:=by
 have sc:=L0
 walk_at "fn"
 obtain⟨p,q,rfl,⟨h1,h2⟩,k⟩:=h
 refine⟨_,(d7 (jst 1 sc.nd d6) (d7 (t4 PassesOwn.never rfl (o8 (d4 0)) (jn 2 sc.nd) (d8 (jst 1 sc.nd (e8 g8 (e8 G7 (d4 1) (jc IU hr (a9 (d4 1) (a9 (jx (d4 2) d6) d5)))) (jx (d4 2) d6))))) (d8 (d9 (d4 1))))),?_⟩
 walk_at "sim"
 refine T5.by (fun i e M'=>M'=M∧∃ z:Option D,e=[some (p9 p q),some (.int ((([p,q].take i).foldl (fun c q=>v9 c q.den) 1:Nat):Int)),z]) ⟨rfl,_,rfl⟩ (fun i e M' _ h=>by rw[h.1];simp only[t8]) ?_ ?_
 ·rintro i dd e M' hd ⟨rfl,z,rfl⟩
  obtain⟨r,hr,hrz,hi,rfl⟩:∃ r:Rat,[p,q][i]? = some r∧sz r≤1100∧i<2∧dd=e7 r:=by
   have hi:i<2:=(LP.mp hd).1
   rcases(show i=0∨i=1 by omega)with rfl|rfl
   ·cases hd;exact⟨p,rfl,h1,hi,rfl⟩
   ·cases hd;exact⟨q,rfl,h2,hi,rfl⟩
  have e1:([p,q].take (i+1)).foldl (fun c q=>v9 c q.den) 1=v9 (([p,q].take i).foldl (fun c q=>v9 c q.den) 1) r.den:=by
   rw[MP,hr,MZ];rfl
  have hc:0<([p,q].take i).foldl (fun c q=>v9 c q.den) 1∧([p,q].take i).foldl (fun c q=>v9 c q.den) 1<2 ^ 1101:=by
   rcases(show i=0∨i=1 by omega)with rfl|rfl
   ·exact⟨Nat.one_pos,Pj (by decide)⟩
   ·refine⟨by show 0<v9 1 p.den;rw[P4];exact Ov (by decide) p.den_pos,?_⟩
    show v9 1 p.den<_
    have:=A9 1 p.den
    exact LR (by omega) (S7 (j9 p h1) (by decide))
  have hd2:r.den<2 ^ 1100:=j9 r hrz
  rw[e1]
  obtain⟨hc0,hb⟩:=hc
  generalize ([p,q].take i).foldl (fun c q=>v9 c q.den) 1=c at *
  have g0:0<MH c r.den:=Nr _ r.den_pos
  have g1:MH c r.den<2 ^ 1100:=LR (Nat.le_of_dvd r.den_pos (Pp _ _)) hd2
  have ef:(c:Int).fdiv (MH c r.den:Nat)=((c / MH c r.den:Nat):Int):=by rw[aJ (by omega) (by omega)];rfl
  walk_at "sim"
  rw[ef]
  refine⟨⟨by omega,Lz (F3 (by rw[LJ];exact g1) (by decide)) (by decide)⟩,?_,some (e7 r),?_⟩
  ·exact i5 1101 1100 (by rw[LJ];exact LR (Nf _ _) hb) (by rw[LJ];exact hd2) (by decide)
  ·unfold v9
   rw[Nz]
 ·rintro e M' ⟨rfl,z,rfl⟩
  walk_at "sim"
  exact k
theorem dn(T:Txt K mg)(d:Df K mg "most_around" J9 ["half","p","q"])(JX:Fn P w K mg base "met_at" 3 ["one","other"] Dn)(IK:Fn P w K mg base "ratio" 2 ["top","bottom"] D2)(IM:Fn P w K mg base "veer" 1 ["one","other"] dh)(Jg:Fn P w K mg base "veer" 1 ["one","other"] iA)(Jf:Fn P w K mg base "veer" 1 ["one","other"] iy)(Jh:Fn P w K mg base "sides_around" 2 ["half","wanted"] Ds)(Ji:Fn P w K mg base "tops_over" 1 ["ratios","bottom"] ny)(IV:Fn P w K mg base "common_bottom" 2 ["ratios"] Dr):Fn P w K mg base "most_around" 4 ["half","p","q"] uM:=by
 have sc:=cY
 walk_at "fn"
 obtain⟨half,p,q,rfl,⟨⟨hl,hs⟩,⟨hp,hq⟩,a,b,ea,⟨sa,sb⟩,hv,hn,ca,cb⟩,k⟩:=h
 have wz:=HC hp hq
 refine⟨_,(d7 (jst 3 sc.nd (jc IV hr (a9 (f6 (a9 (d4 1) (a9 (d4 2) d5))) d5))) (d7 (jst 4 sc.nd (jc Ji hr (a9 (f6 (a9 (d4 1) (a9 (d4 2) d5))) (a9 (d4 3) d5)))) (d7 (m7 (jc Jh hr (a9 (d4 0) (a9 (d4 4) d5))) (j5 (n:=2) rfl (e5 (jn 5 sc.nd) (e5 (jn 6 sc.nd) i6)))) (d7 (jst 7 sc.nd (jc Jf hr (a9 (d4 4) (a9 (d4 6) d5)))) (d7 (jst 8 sc.nd (jc Jg hr (a9 (d4 5) (a9 (d4 4) d5)))) (d7 (jst 9 sc.nd (e8 g8 (d4 3) (jc IM hr (a9 (d4 5) (a9 (d4 6) d5))))) (d7 (jst 10 sc.nd (jc IK hr (a9 (e8 A5 (e8 g8 (d4 7) (jx (d4 5) d6)) (e8 g8 (d4 8) (jx (d4 6) d6))) (a9 (d4 9) d5)))) (d7 (jst 11 sc.nd (p8 (a9 (f6 (a9 (jx (d4 5) d6) (a9 (jc IK hr (a9 (e8 g8 (d4 7) (jx (d4 5) d6)) (a9 (d4 9) d5))) d5))) (a9 (f6 (a9 (jx (d4 6) d6) (a9 (jc IK hr (a9 (e8 g8 (d4 8) (jx (d4 6) d6)) (a9 (d4 9) d5))) d5))) d5)))) (d8 (d9 (f6 (a9 A1 (a9 (d4 10) (a9 (jc JX hr (a9 (d4 5) (a9 (d4 6) d5))) (a9 (bf (j2 xl rfl T.b_sorted gE (a9 (A8 [] ["pair"] [] rfl (by decide +kernel) rfl (by decide +kernel) (by decide +kernel) rfl bq bq (o8 (d4 11)) (fun _ _ _ _ _ _=>(jn 0 (show(["pair"]:List Str).Nodup by decide +kernel))) (fun _ _ _ _ _ _=>(rM (jtm (gp hu) (jx (d4 0) d6) (w6 rfl T.c_NOUGHT)))) (fun _ _ _ _ _ _=>(d4 0))) d5))) d5))))))))))))))),?_⟩
 walk_at "sim"
 refine⟨⟨hp,hq⟩,⟨hp,hq⟩,⟨hl,hs,wz⟩,?_⟩
 have ea':mH half ((wtF p q).1,(wtF p q).2)=some (a,b):=ea
 rw[ea']
 unfold zU
 walk_at "sim"
 have k:R (match mH half (wtF p q)with|none=>F6.free (0,0)|some (a,b)=>.most (vlF a b (wtF p q) (cb2 p q)) (ry (tri a) (tri b)) (shF a b (wtF p q) (cb2 p q)):F6).toD M:=k
 rw[ea]at k
 have c0:=cz p q
 have cl:=xi hp hq
 have vl:=sa.ve sb
 have w1:(wVe (wtF p q) b).natAbs<2 ^ 3401:=by
  have h1:=A2 wz.1 sb.q
  have h2:=A2 wz.2 sb.p
  unfold wVe
  have:=Nm ((wtF p q).1*b.2.1) ((wtF p q).2*b.1)
  rw[show 3401=2200+1200+1 from rfl,MC]
  omega
 have w2:(veW a (wtF p q)).natAbs<2 ^ 3401:=by
  have h1:=A2 sa.p wz.2
  have h2:=A2 sa.q wz.1
  unfold veW
  have:=Nm (a.1*(wtF p q).2) (a.2.1*(wtF p q).1)
  rw[show 3401=1200+2200+1 from rfl,MC]
  omega
 have wn:(((cb2 p q:Nat):Int)*veZ a b).natAbs<2 ^ 4601:=by
  have:=A2 (a:=((cb2 p q:Nat):Int)) (by rw[LJ];exact cl) vl
  exact this
 have w0:((cb2 p q:Nat):Int)*veZ a b≠0:=Mn (by omega) (by omega)
 have wl:(((cb2 p q:Nat):Int)*veZ a b).natAbs.log2<9000:=Lz (F3 wn (by decide)) (by decide)
 refine⟨⟨sb,wz⟩,⟨sa,wz⟩,⟨sa,sb⟩,i5 2200 2401 (by rw[LJ];exact cl) vl (by decide),i5 _ _ w1 sa.r (by decide),i5 _ _ w2 sb.r (by decide),w0,wl,?_⟩
 refine⟨.int a.2.2.2.1,rfl,.int a.2.2.2.2,rfl,_,_,rfl,rfl,i5 _ _ w1 ca (by decide),?_⟩
 show D2 [.int (wVe (wtF p q) b*a.2.2.2.2),.int (((cb2 p q:Nat):Int)*veZ a b)] M _ Y0
 walk_at "sim"
 refine⟨w0,wl,.int b.2.2.2.1,rfl,.int b.2.2.2.2,rfl,_,_,rfl,rfl,i5 _ _ w2 cb (by decide),?_⟩
 show D2 [.int (veW a (wtF p q)*b.2.2.2.2),.int (((cb2 p q:Nat):Int)*veZ a b)] M _ Y0
 walk_at "sim"
 refine⟨w0,wl,⟨sa,sb,by omega⟩,?_⟩
 have eS:∀(n:Int) (r:Rat),D.tup [.int n,e7 r]=shD (n,r):=fun _ _=>rfl
 refine jC (xs:=[(a.2.2.2.1,LW (wVe (wtF p q) b*a.2.2.2.2) (((cb2 p q:Nat):Int)*veZ a b)),(b.2.2.2.1,LW (veW a (wtF p q)*b.2.2.2.2) (((cb2 p q:Nat):Int)*veZ a b))]) (enc:=shD) (fun s=>decide (s.2≠0)) shD (by show 2≤1000;decide) (by simp only[t5]) (fun s hs Q N h1 h2=>?_) ?_
 ·unfold shD at h1 ⊢
  walk_at "sim"
  exact⟨fun h=>h1 (decide_eq_true h),fun h=>h2 (decide_eq_false fun z=>z h)⟩
 ·have k:R (.tup [.str "most",e7 (vlF a b (wtF p q) (cb2 p q)),rD (ry (tri a) (tri b)),.vl ((shF a b (wtF p q) (cb2 p q)).map shD)]) M:=k
  unfold shF at k
  have two:∀ fs:List (Int × Rat),(fs.length<2 ∨ ∃ x y,fs=[x,y]∧x.1≠y.1)→R (.tup [.str "most",e7 (vlF a b (wtF p q) (cb2 p q)),rD (ry (tri a) (tri b)),.vl ((mU fs).map shD)]) M→GN [.vl (fs.map shD)] M fun x M1=>mJ x M1 fun x M1=>R (.tup [.str "most",e7 (vlF a b (wtF p q) (cb2 p q)),rD (ry (tri a) (tri b)),x]) M1:=fun fs hf kf=>by
   refine⟨_,fs.map shD,rfl,rfl,?_⟩
   rcases hf with hf|⟨x,y,rfl,hne⟩
   ·have es:mU fs=fs:=by
     match fs,hf with
     | [],_=>rfl
     | [_],_=>rfl
    rw[es]at kf
    exact .inl ⟨by rw[LF];exact hf,fun ad had=>xA had kf⟩
   ·refine .inr ⟨x.1,y.1,[e7 x.2],[e7 y.2],rfl,hne,fun ad had=>xA had ?_⟩
    have kf:R (.tup [.str "most",e7 (vlF a b (wtF p q) (cb2 p q)),rD (ry (tri a) (tri b)),.vl ((if y.1<x.1 then[y,x]else[x,y]).map shD)]) M:=kf
    by_cases c:y.1<x.1
    ·rw[if_pos c]at kf ⊢;exact kf
    ·rw[if_neg c]at kf ⊢;exact kf
  refine two _ ?_ k
  generalize LW (wVe (wtF p q) b*a.2.2.2.2) (((cb2 p q:Nat):Int)*veZ a b)=r1
  generalize LW (veW a (wtF p q)*b.2.2.2.2) (((cb2 p q:Nat):Int)*veZ a b)=r2
  by_cases q1:r1=0
  ·left
   rw[Mx (by simp[q1])]
   exact LR (Nh _ _) (by show 1<2;decide)
  ·by_cases q2:r2=0
   ·left
    rw[Mh (by simp[q1]),Mx (by simp[q2])]
    show 1<2;decide
   ·right
    refine⟨(a.2.2.2.1,r1),(b.2.2.2.1,r2),?_,hn⟩
    rw[Mh (by simp[q1]),Mh (by simp[q2])];rfl
theorem vC(T:Txt K mg)(d:Df K mg "times" ip ["one","other"])(IK:Fn P w K mg base "ratio" 2 ["top","bottom"] D2):Fn P w K mg base "times" 3 ["one","other"] E3:=by
 have sc:=uA
 refine g9 d sc (fun ds M R Y h=>?_) (fun f cdv A outer s H E ds M R Y hr h=>?_)
 ·obtain⟨q,r,rfl,_⟩:=h;rfl
 ·obtain⟨q,r,rfl,hz,k⟩:=h
  refine⟨_,(d8 (d9 (jc IK hr (a9 (e8 g8 (jx (d4 0) d6) (jx (d4 1) d6)) (a9 (e8 g8 (jx (d4 0) d6) (jx (d4 1) d6)) d5))))),?_⟩
  refine⟨_,rfl,_,rfl,_,rfl,_,rfl,_,_,rfl,rfl,mNN hz,_,rfl,_,rfl,_,rfl,_,rfl,_,_,rfl,rfl,mDD hz,_,_,rfl,Mn (RM.o9 q) (RM.o9 r),lDD hz,?_⟩
  rw[RM.nT]at k
  exact k
theorem vF(T:Txt K mg)(d:Df K mg "grown" iu ["ray","share"])(IY:Fn P w K mg base "times" 3 ["one","other"] E3):Fn P w K mg base "grown" 4 ["ray","share"] nF:=by
 have sc:=uD
 walk_at "fn"
 obtain⟨y,u,g,rfl,⟨h1,h2⟩,k⟩:=h
 refine⟨_,(d8 (d9 (f6 (a9 (jc IY hr (a9 (jx (d4 0) d6) (a9 (d4 1) d5))) (a9 (jc IY hr (a9 (jx (d4 0) d6) (a9 (d4 1) d5))) d5))))),?_⟩
 walk_at "sim"
 exact⟨h1,h2,k⟩
theorem Ad(T:Txt K mg)(d:Df K mg "over" nk ["one","other"])(IK:Fn P w K mg base "ratio" 2 ["top","bottom"] D2):Fn P w K mg base "over" 3 ["one","other"] mW:=by
 have sc:=yZ
 refine g9 d sc (fun ds M R Y h=>?_) (fun f cdv A outer s H E ds M R Y hr h=>?_)
 ·obtain⟨q,r,rfl,_⟩:=h;rfl
 ·obtain⟨q,r,rfl,h0,hz,k⟩:=h
  refine⟨_,(d8 (d9 (jc IK hr (a9 (e8 g8 (jx (d4 0) d6) (jx (d4 1) d6)) (a9 (e8 g8 (jx (d4 0) d6) (jx (d4 1) d6)) d5))))),?_⟩
  refine⟨_,rfl,_,rfl,_,rfl,_,rfl,_,_,rfl,rfl,mND hz,_,rfl,_,rfl,_,rfl,_,rfl,_,_,rfl,rfl,mDN hz,_,_,rfl,Mn (RM.o9 q) (Eb h0),lDN hz,?_⟩
  rw[RM.wL]at k
  exact k
theorem lH(T:Txt K mg)(d:Df K mg "value_of" X0 ["p","q","ray"])(IK:Fn P w K mg base "ratio" 2 ["top","bottom"] D2)(IL:Fn P w K mg base "sum_by" 1 ["p","q","ray"] U2):Fn P w K mg base "value_of" 3 ["p","q","ray"] uI:=by
 have sc:=kZ
 walk_at "fn"
 obtain⟨p,q,y,u,rfl,hz,k⟩:=h
 refine⟨_,(d7 (m7 (jc IL hr (a9 (d4 0) (a9 (d4 1) (a9 (d4 2) d5)))) (j5 (n:=2) rfl (e5 (jn 3 sc.nd) (e5 (jn 4 sc.nd) i6)))) (d8 (d9 (jc IK hr (a9 (d4 3) (a9 (d4 4) d5)))))),?_⟩
 walk_at "sim"
 have b:=ox p q y u
 refine⟨by omega,EG p q y u,Lz (F3 (S7 b (show _≤8001 by omega)) (by decide)) (by decide),?_⟩
 rw[gO]
 exact k
theorem lK(T:Txt K mg)(d:Df K mg "opposite" X3 ["one"]):Fn P w K mg base "opposite" 1 ["one"] cV:=by
 have sc:=lj
 refine g9 d sc (fun ds M R Y h=>?_) (fun f cdv A outer s H E ds M R Y hr h=>?_)
 ·obtain⟨q,rfl,_⟩:=h;rfl
 ·obtain⟨q,rfl,k⟩:=h
  refine⟨_,(d8 (d9 (f6 (a9 (C9 (jx (d4 0) d6)) (a9 (jx (d4 0) d6) d5))))),?_⟩
  refine⟨_,rfl,_,rfl,_,rfl,_,rfl,_,rfl,sl 2,?_⟩
  have e:e7 (-q) = .tup [.int (-q.num),.int (q.den:Int)]:=by unfold e7;rw[Oo,OZ]
  rw[e]at k
  exact k
theorem Ac(T:Txt K mg)(d:Df K mg "plus" nj ["one","other"])(IK:Fn P w K mg base "ratio" 2 ["top","bottom"] D2):Fn P w K mg base "plus" 3 ["one","other"] N3:=by
 have sc:=yY
 refine g9 d sc (fun ds M R Y h=>?_) (fun f cdv A outer s H E ds M R Y hr h=>?_)
 ·obtain⟨q,r,rfl,_⟩:=h;rfl
 ·obtain⟨q,r,rfl,hz,k⟩:=h
  refine⟨_,(d8 (d9 (jc IK hr (a9 (e8 A5 (e8 g8 (jx (d4 0) d6) (jx (d4 1) d6)) (e8 g8 (jx (d4 1) d6) (jx (d4 0) d6))) (a9 (e8 g8 (jx (d4 0) d6) (jx (d4 1) d6)) d5))))),?_⟩
  refine⟨_,rfl,_,rfl,_,rfl,_,rfl,_,_,rfl,rfl,mND hz,_,rfl,_,rfl,_,rfl,_,rfl,_,_,rfl,rfl,mND (by omega),_,rfl,_,rfl,_,rfl,_,rfl,_,rfl,_,_,rfl,rfl,mDD hz,_,_,rfl,Mn (RM.o9 q) (RM.o9 r),lDD hz,?_⟩
  rw[RM.oA]at k
  exact k
theorem vE(T:Txt K mg)(d:Df K mg "minus" ir ["one","other"])(KN:Fn P w K mg base "plus" 3 ["one","other"] N3)(IW:Fn P w K mg base "opposite" 1 ["one"] cV):Fn P w K mg base "minus" 4 ["one","other"] gP:=by
 have sc:=uC
 refine g9 d sc (fun ds M R Y h=>?_) (fun f cdv A outer s H E ds M R Y hr h=>?_)
 ·obtain⟨q,r,rfl,_⟩:=h;rfl
 ·obtain⟨q,r,rfl,hz,k⟩:=h
  refine⟨_,(d8 (d9 (jc KN hr (a9 (d4 0) (a9 (jc IW hr (a9 (d4 1) d5)) d5))))),?_⟩
  refine⟨_,rfl,_,rfl,r,rfl,q,-r,rfl,by rw[RM.N0];exact hz,?_⟩
  rw[Pg]at k
  exact k
theorem vG(T:Txt K mg)(d:Df K mg "cross" iw ["one","other"])(Kf:Fn P w K mg base "minus" 4 ["one","other"] gP)(IY:Fn P w K mg base "times" 3 ["one","other"] E3):Fn P w K mg base "cross" 5 ["one","other"] iN:=by
 have sc:=uE
 walk_at "fn"
 obtain⟨y,u,z,w,rfl,hz,k⟩:=h
 refine⟨_,(d7 (m7 (d4 0) (j5 (n:=2) rfl (e5 (jn 2 sc.nd) (e5 (jn 3 sc.nd) i6)))) (d7 (m7 (d4 1) (j5 (n:=2) rfl (e5 (jn 4 sc.nd) (e5 (jn 5 sc.nd) i6)))) (d8 (d9 (jc Kf hr (a9 (jc IY hr (a9 (d4 2) (a9 (d4 5) d5))) (a9 (jc IY hr (a9 (d4 4) (a9 (d4 3) d5))) d5))))))),?_⟩
 walk_at "sim"
 have m1:=RM.r9 y w
 have m2:=RM.r9 z u
 exact⟨by omega,by omega,by omega,k⟩
theorem eI(T:Txt K mg)(d:Df K mg "most_along" N8 ["lines","number","p","q"])(Kg:Fn P w K mg base "grown" 4 ["ray","share"] nF)(JY:Fn P w K mg base "over" 3 ["one","other"] mW)(JL:Fn P w K mg base "value_of" 3 ["p","q","ray"] uI)(IY:Fn P w K mg base "times" 3 ["one","other"] E3)(IZ:Fn P w K mg base "unsigned" 1 ["one"] cW)(IW:Fn P w K mg base "opposite" 1 ["one"] cV)(Kh:Fn P w K mg base "cross" 5 ["one","other"] iN):Fn P w K mg base "most_along" 6 ["lines","number","p","q"] qd:=by
 have sc:=dX
 walk_at "fn"
 obtain⟨ls,n,p,q,rfl,l,j,rfl,hj,ok,hpq,⟨hp,hq⟩,k⟩:=h
 have z1:=ok.p6
 have z2:=ok.q6
 have z3:=ok.r6
 have r0:=ok.pos
 have ne:=ok.ne
 refine⟨_,(d7 (m7 (jx (d4 0) (d4 1)) (j5 (n:=3) rfl (e5 (jn 4 sc.nd) (e5 (jn 5 sc.nd) (e5 (jn 6 sc.nd) i6))))) (d7 (jst 7 sc.nd (jc Kh hr (a9 (f6 (a9 (d4 4) (a9 (d4 5) d5))) (a9 (f6 (a9 (d4 2) (a9 (d4 3) d5))) d5)))) (d7 (g6 (jtm dD (jx (d4 7) d6) d6) (d8 (d9 (f6 (a9 A1 (a9 (f6 (a9 (d4 5) (a9 (jc IW hr (a9 (d4 4) d5)) d5))) d5))))) g5) (d7 (g6 (jtm ba (jx (d4 7) d6) d6) (d8 (d9 (f6 (a9 A1 (a9 (f6 (a9 (jc IW hr (a9 (d4 5) d5)) (a9 (d4 4) d5))) d5))))) g5) (d7 (jst 8 sc.nd (lY (jtm (bI hu) (d4 4) (w6 rfl T.c_NOUGHT)) (jc JY hr (a9 (d4 3) (a9 (d4 5) d5))) (jc JY hr (a9 (d4 2) (a9 (d4 4) d5))))) (d7 (jst 9 sc.nd (jc IY hr (a9 (jc IZ hr (a9 (d4 8) d5)) (a9 (d4 6) d5)))) (d7 (jst 10 sc.nd (jc Kg hr (a9 (f6 (a9 (d4 2) (a9 (d4 3) d5))) (a9 (jc JY hr (a9 (d4 9) (a9 (jc JL hr (a9 (d4 2) (a9 (d4 3) (a9 (f6 (a9 (d4 2) (a9 (d4 3) d5))) d5)))) d5))) d5)))) (d8 (d9 (f6 (a9 A1 (a9 (d4 9) (a9 (d4 10) (a9 (p8 (a9 (f6 (a9 (d4 1) (a9 (d4 8) d5))) d5)) d5)))))))))))))),?_⟩
 walk_at "sim"
 refine⟨f9 l,by show atI (ls.map f9) (j:Int)=_;rw[jL (by rw[LY,hj];rfl)],?_⟩
 walk_at "sim"
 have sq:=uu hpq
 have a3:=RM.r9 p p
 have a4:=RM.r9 q q
 have a5:=RM.E9 (p*p) (q*q)
 rw[bJ,lT]
 unfold Y8 at k
 refine⟨by omega,fun c1=>?_,fun c1=>⟨fun c2=>?_,fun c2=>⟨fun c3=>?_,fun c3=>?_⟩⟩⟩
 ·rw[if_pos c1]at k;exact k
 ·rw[if_neg c1,if_pos c2]at k;exact k
 ·have n2:l.2.1≠0:=fun w=>ne ⟨c3,w⟩
  have a1:=RM.W6 q l.2.1 n2
  have a2:=W7 (q / l.2.1)
  have a6:=RM.r9 (u9 (q / l.2.1)) l.2.2
  have a7:=RM.W6 (u9 (q / l.2.1)*l.2.2) (p*p+q*q) (J2 sq)
  rw[if_neg c1,if_neg c2,if_pos c3]at k
  exact⟨n2,by omega,by omega,by omega,J2 sq,by omega,⟨by omega,by omega⟩,k⟩
 ·have a1:=RM.W6 p l.1 c3
  have a2:=W7 (p / l.1)
  have a6:=RM.r9 (u9 (p / l.1)) l.2.2
  have a7:=RM.W6 (u9 (p / l.1)*l.2.2) (p*p+q*q) (J2 sq)
  rw[if_neg c1,if_neg c2,if_neg c3]at k
  exact⟨c3,by omega,by omega,by omega,J2 sq,by omega,⟨by omega,by omega⟩,k⟩
theorem Aa(T:Txt K mg)(d:Df K mg "turn" nh ["one","other","third"])(IM:Fn P w K mg base "veer" 1 ["one","other"] dh):Fn P w K mg base "turn" 2 ["one","other","third"] uJ:=by
 have sc:=yW
 walk_at "fn"
 obtain⟨a,b,c,rfl,⟨ha,hb,hc⟩,k⟩:=h
 refine⟨_,(d8 (d9 (e8 A5 (e8 C6 (e8 g8 (jx (d4 0) d6) (jc IM hr (a9 (d4 1) (a9 (d4 2) d5)))) (e8 g8 (jx (d4 1) d6) (jc IM hr (a9 (d4 0) (a9 (d4 2) d5))))) (e8 g8 (jx (d4 2) d6) (jc IM hr (a9 (d4 0) (a9 (d4 1) d5))))))),?_⟩
 walk_at "sim"
 have v1:=ha.ve hb
 have v2:=ha.ve hc
 have v3:=hb.ve hc
 exact⟨⟨hb,hc⟩,i5 _ _ ha.r v3 (by decide),⟨ha,hc⟩,i5 _ _ hb.r v2 (by decide),⟨ha,hb⟩,i5 _ _ hc.r v1 (by decide),k⟩
theorem jb(T:Txt K mg)(d:Df K mg "next_side" R4 ["sides","here"])(IM:Fn P w K mg base "veer" 1 ["one","other"] dh)(KO:Fn P w K mg base "turn" 2 ["one","other","third"] uJ):Fn P w K mg base "next_side" 3 ["sides","here"] Dm:=by
 have sc:=gZ
 walk_at "fn"
 obtain⟨ss,g,rfl,⟨hg,hz⟩,k⟩:=h
 refine⟨_,(d7 (jst 2 sc.nd S9) (d7 (t4 PassesOwn.never rfl (o8 (d4 0)) (jn 3 sc.nd) (d8 (g6 (jtm ba (jc IM hr (a9 (d4 1) (a9 (d4 3) d5))) d6) (d7 (jst 4 sc.nd (lY (jtm Ia (d4 2) S9) (C9 d6) (jc KO hr (a9 (d4 1) (a9 (d4 2) (a9 (d4 3) d5)))))) (d8 (g6 (A6 (B7 (jtm dD (d4 4) d6) (C7 (A6 (K3 (jtm q9 (d4 4) d6) (E5 (jtm ba (jc IM hr (a9 (d4 2) (a9 (d4 3) d5))) d6))))))) (d8 (jst 2 sc.nd (d4 3))) g5))) g5))) (d8 (d9 (d4 2))))),?_⟩
 walk_at "sim"
 refine T5.by (fun i e M'=>M'=M∧(∀ f,(ss.take i).foldl (P3 g) none=some f→SzS f)∧∃ z3 z4:Option D,e=[some (.vl (ss.map sdD)),some (sdD g),some (lG ((ss.take i).foldl (P3 g) none)),z3,z4]) ⟨rfl,fun f z=>(by cases z),_,_,rfl⟩ (fun i e M' _ h=>by rw[h.1];simp only[t5]) ?_ ?_
 ·rintro i dd e M' hd ⟨rfl,hf,z3,z4,rfl⟩
  rw[LY]at hd
  cases hq:ss[i]? with
  | none=>rw[hq]at hd;cases hd
  | some t =>
   rw[hq]at hd
   obtain rfl:=Option.some.inj hd
   have ht:=hz t (LS hq)
   have e1:(ss.take (i+1)).foldl (P3 g) none=P3 g ((ss.take i).foldl (P3 g) none) t:=by
    rw[MP,hq,MZ];rfl
   rw[e1]
   generalize (ss.take i).foldl (P3 g) none=f at *
   walk_at "sim"
   refine⟨⟨hg,ht⟩,fun z=>?_,fun z=>?_⟩
   ·cases f with
    | none =>
     have en:P3 g none t=some t:=by unfold P3;rw[if_pos z];rfl
     rw[en,show lG none=D.non from rfl,qQ (b:=true) rfl]
     walk_at "sim"
     refine⟨fun f' hf'=>by cases hf';exact ht,_,_,rfl⟩
    | some f =>
     have hff:=hf f rfl
     rw[show lG (some f)=sdD f from rfl,qQ (b:=false) rfl]
     walk_at "sim"
     refine⟨⟨hg,hff,ht⟩,?_⟩
     have en:∀ b:Bool,AU g (some f) t=b→P3 g (some f) t=if b=true then some t else some f:=fun b hb=>by unfold P3;rw[if_pos z,hb]
     have done:∀ b:Bool,AU g (some f) t=b→(∀ f',P3 g (some f) t=some f'→SzS f')∧lG (P3 g (some f) t)=if b=true then sdD t else sdD f:=fun b hb=>by
      rw[en b hb]
      cases b with
      | true=>exact⟨fun f' h=>by cases h;exact ht,rfl⟩
      | false=>exact⟨fun f' h=>by cases h;exact hff,rfl⟩
     refine⟨fun z1=>?_,fun z1=>⟨fun z2=>⟨⟨hff,ht⟩,fun z3=>?_,fun z3=>?_⟩,fun z2=>?_⟩⟩
     ·obtain⟨q1,q2⟩:=done true (by show(decide _ || _)=true;rw[decide_eq_true z1];rfl)
      exact⟨q1,some (sdD t),some (.int (tnZ g f t)),by rw[q2];rfl⟩
     ·obtain⟨q1,q2⟩:=done true (by show(decide _ || (decide _ && decide _))=true;rw[decide_eq_true z2,decide_eq_true z3,Bool.or_eq_true];exact .inr rfl)
      exact⟨q1,some (sdD t),some (.int (tnZ g f t)),by rw[q2];rfl⟩
     ·obtain⟨q1,q2⟩:=done false (by show(decide _ || (decide _ && decide _))=false;rw[decide_eq_false z1,decide_eq_false z3,MN];rfl)
      exact⟨q1,some (sdD t),some (.int (tnZ g f t)),by rw[q2];rfl⟩
     ·obtain⟨q1,q2⟩:=done false (by show(decide _ || (decide _ && decide _))=false;rw[decide_eq_false z1,decide_eq_false z2];rfl)
      exact⟨q1,some (sdD t),some (.int (tnZ g f t)),by rw[q2];rfl⟩
   ·have en:P3 g f t=f:=by unfold P3;rw[if_neg z]
    rw[en]
    exact⟨hf,_,_,rfl⟩
 ·rintro e M' ⟨rfl,hf,z3,z4,rfl⟩
  walk_at "sim"
  rw[LF,MJ]
  exact k
theorem jd(T:Txt K mg)(d:Df K mg "juts_more" R5 ["one","other"]):Fn P w K mg base "juts_more" 1 ["one","other"] uP:=by
 have sc:=hG
 walk_at "fn"
 obtain⟨a,b,rfl,⟨ha,hb⟩,k⟩:=h
 refine⟨_,(d7 (jst 2 sc.nd (e8 C6 (e8 g8 (jx (d4 0) d6) (jx (d4 1) d6)) (e8 g8 (jx (d4 1) d6) (jx (d4 0) d6)))) (d7 (g6 (jtm q9 (d4 2) d6) (d8 (jst 2 sc.nd (e8 C6 (e8 g8 (jx (d4 0) d6) (jx (d4 1) d6)) (e8 g8 (jx (d4 1) d6) (jx (d4 0) d6))))) g5) (d8 (d9 (jm ba (d4 2) d6))))),?_⟩
 walk_at "sim"
 refine⟨i5 _ _ ha.p hb.r (by decide),i5 _ _ hb.p ha.r (by decide),fun z=>⟨i5 _ _ ha.q hb.r (by decide),i5 _ _ hb.q ha.r (by decide),?_⟩,fun z=>?_⟩
 ·unfold J5 at k
  rw[if_pos z]at k
  exact k
 ·unfold J5 at k
  rw[if_neg z]at k
  exact k
theorem ja(T:Txt K mg)(d:Df K mg "outermost" R3 ["sides"])(JC:Fn P w K mg base "juts_more" 1 ["one","other"] uP):Fn P w K mg base "outermost" 2 ["sides"] uL:=by
 have sc:=gY
 walk_at "fn"
 obtain⟨ss,rfl,⟨s,r,e⟩,hz,k⟩:=h
 have e0:ss.headD (0,0,0,0,0)=s:=by rw[e];rfl
 rw[e0]at k
 refine⟨_,(d7 (jst 1 sc.nd (jx (d4 0) d6)) (d7 (t4 PassesOwn.never rfl (o8 (d4 0)) (jn 2 sc.nd) (d8 (g6 (u6 (jc JC hr (a9 (d4 2) (a9 (d4 1) d5)))) (d8 (jst 1 sc.nd (d4 2))) g5))) (d8 (d9 (d4 1))))),?_⟩
 walk_at "sim"
 have ei:atI (ss.map sdD) 0=some (sdD s):=by rw[e];exact m8 (n:=0) rfl
 refine⟨_,ei,?_⟩
 have hs:SzS s:=hz s (by rw[e];exact LI)
 refine T5.by (fun i e M'=>M'=M∧∃ z:Option D,e=[some (.vl (ss.map sdD)),some (sdD (D1 (ss.take i) s)),z]) ⟨rfl,_,rfl⟩ (fun i e M' _ h=>by rw[h.1];simp only[t5]) ?_ ?_
 ·rintro i dd e M' hd ⟨rfl,z,rfl⟩
  rw[LY]at hd
  cases hq:ss[i]? with
  | none=>rw[hq]at hd;cases hd
  | some t =>
   rw[hq]at hd
   obtain rfl:=Option.some.inj hd
   have ht:=hz t (LS hq)
   have ho:SzS (D1 (ss.take i) s):=by
    rcases ay (ss.take i) s with h|h
    ·rw[h];exact hs
    ·exact hz _ (MY h)
   have e1:D1 (ss.take (i+1)) s=if J5 t (D1 (ss.take i) s)=true then t else D1 (ss.take i) s:=by
    unfold D1
    rw[MP,hq,MZ];rfl
   rw[e1]
   walk_at "sim"
   refine⟨⟨ht,ho⟩,fun z=>⟨some (sdD t),?_⟩,fun z=>⟨some (sdD t),?_⟩⟩
   ·rw[if_pos z]
   ·rw[if_neg (by rw[z];decide)]
 ·rintro e M' ⟨rfl,z,rfl⟩
  walk_at "sim"
  rw[LF,MJ]
  exact k
theorem iY(T:Txt K mg)(d:Df K mg "tops_over" J3 ["ratios","bottom"]):Fn P w K mg base "tops_over" 1 ["ratios","bottom"] nv:=by
 have sc:=Z5
 walk_at "fn"
 obtain⟨l,c,rfl,⟨hl,rfl⟩,k⟩:=h
 refine⟨_,(d8 (d9 (A8 [1] ["one"] ["bottom"] rfl (by decide +kernel) rfl (by decide +kernel) (by decide +kernel) rfl (aQ ⟨rfl,rfl⟩) (aQ (Or.inl rfl)) (o8 (d4 0)) (fun _ _ _ _ _ _=>(jn 0 (show(["one","bottom"]:List Str).Nodup by decide +kernel))) (fun _ _ _ _ _ _=>t7) (fun _ _ _ _ _ _=>(e8 g8 (jx (d4 0) d6) (e8 G7 (d4 1) (jx (d4 0) d6))))))),?_⟩
 walk_at "sim"
 refine J6 (ds:=[l.1,l.2.1,l.2.2].map e7) (by show j6 M (.tup _) _;rw[t8];rfl) ?_
 refine y4 (xs:=[l.1,l.2.1,l.2.2]) (enc:=e7) (fun q=>.int (L9 q (cbL l))) (by show 3≤1000;decide) (by show j6 M (.tup _) _;rw[t8];rfl) (fun q hq Q hQ=>?_) k
 have hqs:sz q≤1300:=by
  simp only[LB,LK,or_false]at hq
  rcases hq with rfl|rfl|rfl
  ·exact hl.p
  ·exact hl.q
  ·exact hl.r
 have d0:=q.den_pos
 have hd:q.den<2 ^ 1300:=j9 q hqs
 have ef:((cbL l:Nat):Int).fdiv (q.den:Int)=((cbL l / q.den:Nat):Int):=by rw[aJ (by omega) (by omega)];rfl
 walk_at "sim"
 rw[ef]
 refine⟨⟨by omega,Lz (F3 (by rw[LJ];exact hd) (by decide)) (by decide)⟩,i5 1300 3901 (J4 q hqs) (by rw[LJ];exact LR (Nf _ _) hl.cb) (by decide),hQ⟩
theorem aZ(T:Txt K mg)(d:Df K mg "common_bottom" B9 ["ratios"])(IU:Fn P w K mg base "divisor" 1 ["one","other"] K8):Fn P w K mg base "common_bottom" 2 ["ratios"] Dq:=by
 have sc:=L0
 walk_at "fn"
 obtain⟨l,rfl,hl,k⟩:=h
 refine⟨_,(d7 (jst 1 sc.nd d6) (d7 (t4 PassesOwn.never rfl (o8 (d4 0)) (jn 2 sc.nd) (d8 (jst 1 sc.nd (e8 g8 (e8 G7 (d4 1) (jc IU hr (a9 (d4 1) (a9 (jx (d4 2) d6) d5)))) (jx (d4 2) d6))))) (d8 (d9 (d4 1))))),?_⟩
 walk_at "sim"
 refine J6 (ds:=[l.1,l.2.1,l.2.2].map e7) (by show j6 M (.tup _) _;rw[t8];rfl) ?_
 refine T5.by (fun i e M'=>M'=M∧∃ z:Option D,e=[some (f9 l),some (.int ((([l.1,l.2.1,l.2.2].take i).foldl (fun c q=>v9 c q.den) 1:Nat):Int)),z]) ⟨rfl,_,rfl⟩ (fun i e M' _ h=>by rw[h.1];show j6 M (.tup _) _;rw[t8];rfl) ?_ ?_
 ·rintro i dd e M' hd ⟨rfl,z,rfl⟩
  rw[LY]at hd
  cases hq:[l.1,l.2.1,l.2.2][i]? with
  | none=>rw[hq]at hd;cases hd
  | some q =>
   rw[hq]at hd
   obtain rfl:=Option.some.inj hd
   have e1:([l.1,l.2.1,l.2.2].take (i+1)).foldl (fun c q=>v9 c q.den) 1=v9 (([l.1,l.2.1,l.2.2].take i).foldl (fun c q=>v9 c q.den) 1) q.den:=by
    rw[MP,hq,MZ];rfl
   have hi:=(LP.mp hq).1
   have hqs:sz q≤1300:=by
    have:=LS hq
    simp only[LB,LK,or_false]at this
    rcases this with rfl|rfl|rfl
    ·exact hl.p
    ·exact hl.q
    ·exact hl.r
   have hc:0<([l.1,l.2.1,l.2.2].take i).foldl (fun c q=>v9 c q.den) 1:=by
    have:∀(xs:List Rat) (c:Nat),0<c→0<xs.foldl (fun c q=>v9 c q.den) c:=fun xs=>by
     induction xs with
     | nil=>exact fun c h=>h
     | cons x xs ih=>exact fun c h=>ih _ (by show 0<v9 c x.den;rw[P4];exact Ov h x.den_pos)
    exact this _ _ (by decide)
   have hd:q.den<2 ^ 1300:=j9 q hqs
   rw[e1]
   have hb:([l.1,l.2.1,l.2.2].take i).foldl (fun c q=>v9 c q.den) 1<2 ^ 4000:=by
    have:=jE ([l.1,l.2.1,l.2.2].take i) 1 1 (fun x hx=>hl.all x (MY hx)) (by decide)
    refine Lz this (LD (by decide) ?_)
    have:([l.1,l.2.1,l.2.2].take i).length≤3:=by rw[Ml];exact NJ _ _
    omega
   generalize ([l.1,l.2.1,l.2.2].take i).foldl (fun c q=>v9 c q.den) 1=c at *
   have g0:0<MH c q.den:=Nr _ q.den_pos
   have g1:MH c q.den<2 ^ 1300:=LR (Nat.le_of_dvd q.den_pos (Pp _ _)) hd
   have ef:(c:Int).fdiv (MH c q.den:Nat)=((c / MH c q.den:Nat):Int):=by rw[aJ (by omega) (by omega)];rfl
   walk_at "sim"
   rw[ef]
   refine⟨⟨by omega,Lz (F3 (by rw[LJ];exact g1) (by decide)) (by decide)⟩,?_,some (e7 q),?_⟩
   ·exact i5 4000 1300 (by rw[LJ];exact LR (Nf _ _) hb) (by rw[LJ];exact hd) (by decide)
   ·unfold v9
    rw[Nz]
 ·rintro e M' ⟨rfl,z,rfl⟩
  walk_at "sim"
  exact k
theorem lJ(T:Txt K mg)(d:Df K mg "sides_of" X2 ["lines"])(Jo:Fn P w K mg base "facing" 1 ["side"] zk)(JD:Fn P w K mg base "tops_over" 1 ["ratios","bottom"] nv)(Jb:Fn P w K mg base "common_bottom" 2 ["ratios"] Dq):Fn P w K mg base "sides_of" 3 ["lines"] iD:=by
 have sc:=lh
 walk_at "fn"
 obtain⟨x0,ls,rfl,hx0,hok,k⟩:=h
 rcases hx0 with rfl|rfl
 all_goals
  refine⟨_,(d7 (jst 1 sc.nd (dH d5)) (d7 (t4 PassesOwn.never rfl (vU rfl T.b_enumerate (a9 (d4 0) d5)) (j5 (n:=2) rfl (e5 (jn 2 sc.nd) (e5 (jn 3 sc.nd) i6))) (d7 (jst 4 sc.nd (jc Jb hr (a9 (d4 3) d5))) (d7 (m7 (jc JD hr (a9 (d4 3) (a9 (d4 4) d5))) (vV (n:=3) rfl (e5 (jn 5 sc.nd) (e5 (jn 6 sc.nd) (e5 (jn 7 sc.nd) i6))))) (d7 (jst 8 sc.nd (f6 (a9 (d4 5) (a9 (d4 6) (a9 (d4 7) (a9 (d4 2) (a9 (d4 4) d5))))))) (d7 (B6 (aE PySem.F.slot_list_append PySem.F.type_list_append D8 (d4 1) (a9 (d4 8) d5))) (d8 (B6 (aE PySem.F.slot_list_append PySem.F.type_list_append D8 (d4 1) (a9 (jc Jo hr (a9 (d4 8) d5)) d5))))))))) (d8 (d9 (bg (bf (d4 1))))))),?_⟩
  walk_at "sim"
  intro p hp
  refine T5.by (fun i e M'=>M'=v7 M p (.lst ((J8 0 (ls.take i)).map sdD))∧∃ z0 z2 z3 z4 z5 z6 z7 z8:Option D,e=[z0,some (.ref p),z2,z3,z4,z5,z6,z7,z8]) ⟨rfl,_,_,_,_,_,_,_,_,rfl⟩ (fun i e M' _ _=>by simp only[t5,t8]) ?_ ?_
  ·rintro i dd e M' hd ⟨rfl,z0,z2,z3,z4,z5,z6,z7,z8,rfl⟩
   obtain⟨d,hd2,rfl⟩:=wI hd
   obtain⟨l,hl,rfl⟩:=gu hd2
   have hm:=hok.2 l (LS hl)
   have h12:=hok.1
   have hi:=(LP.mp hl).1
   walk_at "sim"
   refine⟨hm,hm,?_⟩
   have es:D.tup [.int (m6 l 0).1,.int (m6 l 0).2.1,.int (m6 l 0).2.2.1,.int (i:Int),.int ((cbL l:Nat):Int)]=sdD (m6 l i):=rfl
   have hln:((J8 0 (ls.take i)).map sdD).length≤24:=by
    rw[LF,bX,Ml];omega
   rw[es]
   refine K6 f7 (Y9 f7 (by omega) ?_)
   rw[Z1]
   refine K6 f7 ?_
   walk_at "sim"
   refine Y9 f7 (by rw[Mi];show _+1<1000;omega) ⟨?_,_,_,_,_,_,_,_,_,rfl⟩
   rw[Z1,kX ls 0 i l hl,Pw,LX,Oi]
   rfl
  ·rintro e M' ⟨rfl,z0,z2,z3,z4,z5,z6,z7,z8,rfl⟩
   walk_at "sim"
   rw[cT f7,aK hp]
   walk_at "sim"
   rw[P8,LF,MJ]
   exact⟨_,fun _ _ h=>h,k⟩
theorem lM(T:Txt K mg)(d:Df K mg "half_rim" X5 ["lines"])(IM:Fn P w K mg base "veer" 1 ["one","other"] dh)(Jl:Fn P w K mg base "next_side" 3 ["sides","here"] Dm)(JF:Fn P w K mg base "outermost" 2 ["sides"] uL)(JM:Fn P w K mg base "sides_of" 3 ["lines"] iD):Fn P w K mg base "half_rim" 4 ["lines"] qe:=by
 have sc:=lp
 walk_at "fn"
 obtain⟨x0,ls,rfl,hx0,hok,k⟩:=h
 have hlo:∀ l∈ls,LineOk l:=fun l hl=>(hok.2 l hl).toLineOk
 rcases hx0 with rfl|rfl
 all_goals
  refine⟨_,(d7 (g6 (jtm q9 (j2 F8 rfl T.b_len B2 (a9 (d4 0) d5)) d6) (d8 (d9 (bg (p8 d5)))) g5) (d7 (jst 1 sc.nd (jc JM hr (a9 (d4 0) d5))) (d7 (jst 2 sc.nd (dH (a9 (jc JF hr (a9 (d4 1) d5)) d5))) (d7 (jst 3 sc.nd (jc Jl hr (a9 (d4 1) (a9 (jx (d4 2) d6) d5)))) (d7 (bb PassesOwn.never (A6 (K3 (jtm jl (d4 3) S9) (E5 (jtm ba (jc IM hr (a9 (jx (d4 2) d6) (a9 (d4 3) d5))) d6)))) (d7 (B6 (aE PySem.F.slot_list_append PySem.F.type_list_append D8 (d4 2) (a9 (d4 3) d5))) (d8 (jst 3 sc.nd (jc Jl hr (a9 (d4 1) (a9 (d4 3) d5))))))) (d8 (d9 (bg (bf (d4 2)))))))))),?_⟩
  walk_at "sim"
  refine⟨fun h0=>?_,fun h0=>?_⟩
  ·have e:ls=[]:=by
    cases ls with
    | nil=>rfl
    | cons a b=>rw[LF,Me]at h0;omega
   subst e
   exact xC (fun _ _ h=>h) k
  ·have hp:∀ s∈f8 ls,0<s.2.2.1:=pZ hlo (i:=0)
   have hz:∀ s∈f8 ls,SzS s:=qY hok
   have hln:=bX ls 0
   have h12:=hok.1
   obtain⟨s1,r,es⟩:∃ s r,f8 ls=s :: r:=by
    cases ls with
    | nil=>exact absurd rfl h0
    | cons a b=>exact⟨_,_,rfl⟩
   have hln:(f8 ls).length≤24:=by show(J8 0 ls).length≤24;omega
   refine⟨hok,⟨s1,r,es⟩,hz,fun p hpn=>?_⟩
   have eh:(f8 ls).headD (0,0,0,0,0)=s1:=by rw[es];rfl
   rw[eh]
   have ek:B8 (f8 ls)=D1 (f8 ls) s1 :: Q6 (D1 (f8 ls) s1) (f8 ls) (f8 ls).length (J1 (D1 (f8 ls) s1) (f8 ls)):=by rw[es];rfl
   have m0:D1 (f8 ls) s1∈f8 ls:=by
    rcases ay (f8 ls) s1 with h|h
    ·rw[h,es];exact LI
    ·exact h
   rw[ek]at k
   generalize D1 (f8 ls) s1=h0 at *
   generalize f8 ls=ss at *
   refine⟨_,B0 f7 rfl,?_⟩
   walk_at "sim"
   refine⟨⟨hz _ m0,hz⟩,?_⟩
   refine qL (fun m e M'=>∃(pre:List Sd) (o:Option Sd) (z0:Option D),e=[z0,some (.vl (ss.map sdD)),some (.ref p),some (lG o)]∧M'=v7 M p (.lst ((h0 :: pre).map sdD))∧pre++Q6 h0 ss m o=Q6 h0 ss ss.length (J1 h0 ss)∧pre.length+m≤24∧(∀ f,o=some f→f∈ss)∧∀ f,o=some f→0<veZ h0 f→rS h0 ss f<m) ss.length ⟨[],J1 h0 ss,_,rfl,rfl,rfl,by simpa using hln,fun f hf=>(G3 hp hf).1,fun f hf hv=>Lz (aL hp hf (.inl rfl) hv) (xc h0 ss h0)⟩ ?_
   rintro m e M' ⟨pre,o,z0,rfl,rfl,hr,hlm,ho,hc⟩
   have fin:Q6 h0 ss m o=[]→mJ (D.ref p) (v7 M p (.lst ((h0 :: pre).map sdD))) (fun x M1=>rZ x M1 R):=fun hn=>by
    rw[hn,Nx]at hr
    rw[cT f7,aK hpn,hr]
    exact xC (fun _ _ h=>h) k
   cases o with
   | none =>
    rw[show lG none=D.non from rfl]
    walk_at "sim"
    rw[qQ (b:=true) rfl]
    walk_at "sim"
    exact fin (by cases m<;>rfl)
   | some f =>
    have hf:=ho f rfl
    rw[show lG (some f)=sdD f from rfl]
    walk_at "sim"
    rw[qQ (b:=false) rfl]
    walk_at "sim"
    refine⟨_,B0 f7 (m8 (n:=0) rfl),?_⟩
    walk_at "sim"
    refine⟨⟨hz _ m0,hz _ hf⟩,fun hv=>?_,fun hv=>?_⟩
    ·have hcm:=hc f rfl hv
     obtain⟨m,rfl⟩:∃ m',m=m'+1:=⟨m - 1,by omega⟩
     have er:Q6 h0 ss (m+1) (some f)=f :: Q6 h0 ss m (J1 f ss):=if_pos hv
     rw[er]at hr
     refine K6 f7 (Y9 f7 (by rw[Me,LF];omega) ⟨⟨hz _ hf,hz⟩,m,Ow _,pre++[f],J1 f ss,_,rfl,?_,by rw[Oi];exact hr,by rw[Mi];show pre.length+1+m≤24;omega,fun g hg=>(G3 hp hg).1,fun g hg hg2=>?_⟩)
     ·rw[Z1]
      congr 2
      rw[LX];rfl
     ·have:=aL hp hg (.inr hv) hg2
      omega
    ·refine fin ?_
     cases m with
     | zero=>rfl
     | succ m=>exact if_neg hv
theorem Ae(T:Txt K mg)(d:Df K mg "most" nq ["lines","p","q"])(Jn:Fn P w K mg base "most_around" 4 ["half","p","q"] uM)(Jt:Fn P w K mg base "most_along" 6 ["lines","number","p","q"] qd)(JN:Fn P w K mg base "half_rim" 4 ["lines"] qe):Fn P w K mg base "most" 7 ["lines","p","q"] uN:=by
 have sc:=ze
 walk_at "fn"
 obtain⟨ls,p,q,rfl,⟨hls,hp,hq⟩,k⟩:=h
 have hlo:=hls.lo
 have hsz:=hls.szs
 have hsc:=hls.scale
 have hlen:=wj hlo
 have h12:=hls.1
 refine⟨_,(d7 (g6 (A6 (K3 (jtm (bI hu) (d4 1) (w6 rfl T.c_NOUGHT)) (E5 (jtm (bI hu) (d4 2) (w6 rfl T.c_NOUGHT))))) (d8 (d9 (f6 (a9 A1 (a9 (w6 rfl T.c_NOUGHT) (a9 (f6 (a9 (w6 rfl T.c_NOUGHT) (a9 (w6 rfl T.c_NOUGHT) d5))) (a9 (p8 d5) d5))))))) g5) (d7 (jst 3 sc.nd (jc JN hr (a9 (d4 0) d5))) (d7 (g6 (jtm q9 (j2 F8 rfl T.b_len B2 (a9 (d4 3) d5)) d6) (d8 (d9 (f6 (a9 A1 (a9 (f6 (a9 (d4 1) (a9 (d4 2) d5))) d5))))) g5) (d7 (g6 (jtm q9 (j2 F8 rfl T.b_len B2 (a9 (d4 3) d5)) d6) (d8 (d9 (jc Jt hr (a9 (d4 0) (a9 (jx (jx (d4 3) d6) d6) (a9 (d4 1) (a9 (d4 2) d5))))))) g5) (d8 (d9 (jc Jn hr (a9 (d4 3) (a9 (d4 1) (a9 (d4 2) d5)))))))))),?_⟩
 walk_at "sim"
 have kz:p=0∧q=0→R (D.tup [D.str "most",e7 0,D.tup [e7 0,e7 0],D.vl []]) M:=fun c=>by
  have k:=k
  unfold gr at k
  rw[if_pos c]at k
  exact k
 have fin:¬ (p=0∧q=0)→xy ls∧(((B8 (f8 ls)).map sdD).length=(0:Int)→R (D.tup [D.str "free",D.tup [e7 p,e7 q]]) M)∧(¬ ((((B8 (f8 ls)).map sdD).length:Nat):Int)=0→(((((B8 (f8 ls)).map sdD).length:Nat):Int)=1→gIx (D.vl (MM sdD (B8 (f8 ls)))) (D.int 0) M fun x M1=>gIx x (D.int 3) M1 fun x M1=>qd [D.vl (MM f9 ls),x,e7 p,e7 q] M1 R Y0)∧(¬ ((((B8 (f8 ls)).map sdD).length:Nat):Int)=1→(((B8 (f8 ls)).length≤30∧∀(s:Sd),s∈B8 (f8 ls)→SzS s)∧(sz p≤1100∧sz q≤1100)∧∃ a b,mH (B8 (f8 ls)) (wtF p q)=some (a,b)∧(SzS a∧SzS b)∧0<veZ a b∧a.2.2.2.1≠b.2.2.2.1∧a.2.2.2.2.natAbs<2 ^ 1400∧b.2.2.2.2.natAbs<2 ^ 1400)∧R (xr (B8 (f8 ls)) p q).toD M)):=fun c=>by
  have k:=k
  unfold gr at k
  rw[if_neg c]at k
  refine⟨hls.ok,fun h0=>?_,fun h0=>⟨fun h1=>?_,fun h1=>?_⟩⟩
  ·have e:B8 (f8 ls)=[]:=by
    rw[LF]at h0
    exact NM (by omega)
   rw[e]at k
   exact k
  ·obtain⟨h0',e⟩:∃ h,B8 (f8 ls)=[h]:=by
    rw[LF]at h1
    exact List.length_eq_one_iff.mp (by omega)
   have hne:ls≠[]:=fun z=>by rw[z]at e;cases e
   obtain⟨g0,m,e',m0,_⟩:=V2 hlo hne
   rw[e]at e'
   cases e'
   obtain⟨l,j,el,en,_⟩:=kW m0
   rw[e]at k ⊢
   have k:R (Y8 (ls.getD h0'.2.2.2.1.toNat (0,0,0)) h0'.2.2.2.1 p q).toD M:=k
   rw[en,Mp,Mr,el]at k
   refine⟨sdD h0',rfl,.int h0'.2.2.2.1,rfl,ls,h0'.2.2.2.1,p,q,rfl,l,j,en,el,hls.2 l (LS el),c,⟨hp,hq⟩,?_⟩
   rw[en];exact k
  ·obtain⟨h0',x,l,e⟩:∃ h0 x l,B8 (f8 ls)=h0 :: x :: l:=by
    cases e:B8 (f8 ls)with
    | nil=>rw[e]at h0;exact absurd rfl h0
    | cons a r =>
     cases r with
     | nil=>rw[e]at h1;exact absurd rfl h1
     | cons b r=>exact⟨a,b,r,rfl⟩
   obtain⟨a,b,ea,A⟩:=mF hlo e (BU c)
   have hne:ls≠[]:=fun z=>by rw[z]at e;cases e
   have hin:∀ s∈B8 (f8 ls),s∈f8 ls:=AB hlo
   rw[e]at k hlen hin ⊢
   refine⟨⟨⟨by omega,fun s hs=>hsz s (hin s hs)⟩,⟨hp,hq⟩,a,b,ea,⟨hsz a A.ma,hsz b A.mb⟩,A.ve,Ah A.ma A.mb (by have:=A.ve;omega),hsc a A.ma,hsc b A.mb⟩,k⟩
 exact⟨fun c1=>⟨fun c2=>kz ⟨c1,c2⟩,fun c2=>fin fun z=>c2 z.2⟩,fun c1=>fin fun z=>c1 z.1⟩
theorem eU(T:Txt K mg)(d:Df K mg "_law_asked" O9 ["pool","lines"])(IG:Fn P w K mg base "_law_sum" 2 ["one","other"] N3)(ID:Fn P w K mg base "_law_next" 1 ["pool","base"] C2)(IF:Fn P w K mg base "_law_taken" 2 ["one","other"] E3)(IE:Fn P w K mg base "_law_low" 1 ["top","bottom"] D2)(IH:Fn P w K mg base "_law_number" 3 ["pool"] R0):Fn P w K mg base "_law_asked" 4 ["pool","lines"] nJ:=by
 have sc:=eE
 walk_at "fn"
 obtain⟨p,ls,rfl,⟨hp,hls⟩,k⟩:=h
 have h12:=hls.1
 refine⟨_,(d7 (aD (i:=2) (j:=3) rfl sc.nd rfl rfl (by decide) rfl rfl (a9 (jc IH hr (a9 (d4 0) d5)) (a9 (jc IH hr (a9 (d4 0) d5)) d5))) (d7 (jst 4 sc.nd (jc ID hr (a9 (d4 0) (a9 d6 d5)))) (d7 (g6 (jtm q9 (d4 4) d6) (d8 (d9 (f6 (a9 (f6 (a9 d6 (a9 d6 d5))) (a9 (f6 (a9 d6 (a9 d6 d5))) d5))))) g5) (d7 (g6 (A6 (B7 (jtm (bI hu) (d4 1) (p8 d5)) (C7 (jtm dD (d4 4) d6)))) (d8 (d9 (f6 (a9 (d4 2) (a9 (d4 3) d5))))) g5) (d7 (jst 5 sc.nd (jx (d4 1) (jc ID hr (a9 (d4 0) (a9 (j2 F8 rfl T.b_len B2 (a9 (d4 1) d5)) d5))))) (d7 (g6 (jtm dD (d4 4) d6) (d7 (jst 6 sc.nd (jc IE hr (a9 (e8 A5 d6 (jc ID hr (a9 (d4 0) (a9 d6 d5)))) (a9 (jx (p8 (a9 d6 (a9 d6 (a9 (C9 d6) d5)))) (jc ID hr (a9 (d4 0) (a9 d6 d5)))) d5)))) (d8 (d9 (f6 (a9 (jc IF hr (a9 (d4 6) (a9 (jx (d4 5) d6) d5))) (a9 (jc IF hr (a9 (d4 6) (a9 (jx (d4 5) d6) d5))) d5)))))) g5) (d7 (jst 7 sc.nd (jx (d4 1) (jc ID hr (a9 (d4 0) (a9 (j2 F8 rfl T.b_len B2 (a9 (d4 1) d5)) d5))))) (d8 (d9 (f6 (a9 (jc IG hr (a9 (jx (d4 5) d6) (a9 (jx (d4 7) d6) d5))) (a9 (jc IG hr (a9 (jx (d4 5) d6) (a9 (jx (d4 7) d6) d5))) d5)))))))))))),?_⟩
 walk_at "sim"
 rw[LF]
 refine⟨hp,fun a M1 ha s1=>⟨s1.pool,fun b M2 hb s2=>⟨s2.pool,by decide,fun r M3 r0 r8 s3=>⟨fun _=>?_,fun _=>⟨?_,fun _=>?_,fun hne=>⟨fun _=>?_,fun _=>⟨s3.pool,?_,?_,fun t M4 t0 t1 s4=>?_⟩⟩⟩⟩⟩⟩⟩
 ·exact k 0 0 M3 (by rw[RM.Z3];decide) (by rw[RM.Z3];decide) (s1.trans (s2.trans s3))
 ·exact bo fun x hx=>by
   obtain⟨z,hz,rfl⟩:=LM.mp hx
   rfl
 ·exact k a b M3 (by omega) (by omega) (s1.trans (s2.trans s3))
 ·exact k a b M3 (by omega) (by omega) (s1.trans (s2.trans s3))
 ·have:ls≠[]:=fun z=>hne (by rw[z];rfl)
  have:=Pe.mpr this
  omega
 ·exact LR (OB _) (by omega)
 ·refine E6 t0 (by rw[LF];exact t1) fun d hd=>?_
  obtain⟨l,hl,rfl⟩:=LM.mp hd
  have ok:=(hls.2 l hl).z
  have z1:=ok.p
  have z2:=ok.q
  have st4:=s1.trans (s2.trans (s3.trans s4))
  refine⟨fun _=>⟨s4.pool,by decide,fun c M5 c0 c5 s5=>⟨s5.pool,by decide,fun e M6 e0 e3 s6=>?_⟩⟩,fun _=>?_⟩
  ·refine E6 e0 (by show e<3;exact e3) fun d hd=>?_
   obtain⟨f,rfl,f0,f1⟩:∃ f:Int,d = .int f∧f≠0∧f.natAbs≤2:=by
    simp only[LB,LK,or_false]at hd
    rcases hd with rfl|rfl|rfl
    ·exact⟨1,rfl,by decide,by decide⟩
    ·exact⟨2,rfl,by decide,by decide⟩
    ·exact⟨-1,rfl,by decide,by decide⟩
   walk_at "sim"
   have sm:sz (LW (1+c) f)≤4:=G9 (by decide) (by omega) (by omega) f0
   have m1:=RM.r9 (LW (1+c) f) l.1
   have m2:=RM.r9 (LW (1+c) f) l.2.1
   refine⟨f0,LR (OB _) (by omega),by omega,by omega,?_⟩
   exact k _ _ M6 (by omega) (by omega) (st4.trans (s5.trans s6))
  ·refine⟨s4.pool,?_,?_,fun v M5 v0 v1 s5=>?_⟩
   ·have:ls≠[]:=fun z=>by rw[z]at hl;cases hl
    have:=Pe.mpr this
    omega
   ·exact LR (OB _) (by omega)
   ·refine E6 v0 (by rw[LF];exact v1) fun d hd=>?_
    obtain⟨m,hm,rfl⟩:=LM.mp hd
    have ok2:=(hls.2 m hm).z
    have y1:=ok2.p
    have y2:=ok2.q
    have m1:=RM.E9 l.1 m.1
    have m2:=RM.E9 l.2.1 m.2.1
    walk_at "sim"
    exact⟨by omega,by omega,k _ _ M5 (by omega) (by omega) (st4.trans s5)⟩
theorem jh(T:Txt K mg)(d:Df K mg "_law_line" R9 ["pool"])(IE:Fn P w K mg base "_law_low" 1 ["top","bottom"] D2)(ID:Fn P w K mg base "_law_next" 1 ["pool","base"] C2)(IH:Fn P w K mg base "_law_number" 3 ["pool"] R0):Fn P w K mg base "_law_line" 4 ["pool"] nB:=by
 have sc:=ic
 walk_at "fn"
 obtain⟨p,rfl,hp,k⟩:=h
 refine⟨_,(d7 (jst 1 sc.nd (jc IH hr (a9 (d4 0) d5))) (d7 (jst 2 sc.nd (jc IH hr (a9 (d4 0) d5))) (d7 (g6 (A6 (K3 (jtm q9 (jx (d4 1) d6) d6) (E5 (jtm q9 (jx (d4 2) d6) d6)))) (d8 (jst 1 sc.nd (f6 (a9 (e8 A5 d6 (jc ID hr (a9 (d4 0) (a9 d6 d5)))) (a9 d6 d5))))) g5) (d8 (d9 (f6 (a9 (d4 1) (a9 (d4 2) (a9 (jc IE hr (a9 (e8 A5 d6 (jc ID hr (a9 (d4 0) (a9 d6 d5)))) (a9 (jx (p8 (a9 d6 (a9 d6 (a9 d6 (a9 d6 d5))))) (jc ID hr (a9 (d4 0) (a9 d6 d5)))) d5))) d5))))))))),?_⟩
 walk_at "sim"
 have lg:∀{b:Int},b.natAbs<2 ^ 41→b.natAbs.log2<9000:=fun{b} hb=>F3 (Lz hb (LD (by decide) (by decide))) (by decide)
 have fin:∀(a b:Rat) (M1:Mem),sz a≤41→sz b≤41→¬ (a=0∧b=0)→j1 p M M1→p7 M1 p∧(Qa 12).log2<9000∧∀(r:Int) (M2:Mem),0≤r→r<12→j1 p M1 M2→p7 M2 p∧(Qa 4).log2<9000∧∀(t:Int) (M3:Mem),0≤t→t<4→j1 p M2 M3→gIx (D.vl [D.int 1,D.int 1,D.int 2,D.int 5]) (D.int t) M3 fun x M1=>D2 [D.int (1+r),x] M1 (fun x M1=>R (D.tup [e7 a,e7 b,x]) M1) Y0:=fun a b M1 ha hb hn s1=>by
  refine⟨s1.pool,by decide,fun r M2 r0 r1 s2=>⟨s2.pool,by decide,fun t M3 t0 t1 s3=>E6 t0 (by show t<4;omega) fun d hd=>?_⟩⟩
  have hd':∃ b:Int,d = .int b∧0<b∧b≤5:=by
   simp only[LB,LK,or_false]at hd
   rcases hd with rfl|rfl|rfl|rfl
   ·exact⟨1,rfl,by decide,by decide⟩
   ·exact⟨1,rfl,by decide,by decide⟩
   ·exact⟨2,rfl,by decide,by decide⟩
   ·exact⟨5,rfl,by decide,by decide⟩
  obtain⟨c,rfl,c0,c1⟩:=hd'
  walk_at "sim"
  exact⟨by omega,lg (by omega),k (a,b,LW (1+r) c) _ ⟨⟨ha,hb,G9 (by decide) (by omega) (by omega) (by omega)⟩,hn⟩ (wK (by omega) c0) (s1.trans (s2.trans s3))⟩
 refine⟨hp,fun a M1 ha s1=>⟨s1.pool,fun b M2 hb s2=>⟨fun h1=>⟨fun h2=>⟨s2.pool,by decide,fun r M3 r0 r1 s3=>?_⟩,fun h2=>fin a b M2 ha hb (fun z=>h2 (by rw[z.2];rfl)) (s1.trans s2)⟩,fun h1=>fin a b M2 ha hb (fun z=>h1 (by rw[z.1];rfl)) (s1.trans s2)⟩⟩⟩
 have e:D.tup [.int (1+r),.int 1]=e7 ((1+r:Int):Rat):=(uV _).symm
 rw[e]
 exact fin _ b M3 (Dd (by decide) (by omega)) hb (fun z=>by have h:=z.1;rw[Rat.intCast_eq_zero_iff]at h;omega) (s1.trans (s2.trans s3))
theorem eQ(T:Txt K mg)(d:Df K mg "_law_lines" O6 ["pool","most_lines"])(ID:Fn P w K mg base "_law_next" 1 ["pool","base"] C2)(IG:Fn P w K mg base "_law_sum" 2 ["one","other"] N3)(IF:Fn P w K mg base "_law_taken" 2 ["one","other"] E3)(IE:Fn P w K mg base "_law_low" 1 ["top","bottom"] D2)(JH:Fn P w K mg base "_law_line" 4 ["pool"] nB):Fn P w K mg base "_law_lines" 5 ["pool","most_lines"] iJ:=by
 have sc:=eB
 walk_at "fn"
 obtain⟨p,nn,rfl,hp,⟨n0,n5⟩,k⟩:=h
 have lg:∀{b:Int},b.natAbs<2 ^ 41→b.natAbs.log2<9000:=fun{b} hb=>F3 (Lz hb (LD (by decide) (by decide))) (by decide)
 refine⟨_,(d7 (jst 2 sc.nd (dH d5)) (d7 (t4 PassesOwn.never rfl (js rfl T.b_range (a9 (jc ID hr (a9 (d4 0) (a9 (e8 A5 (d4 1) d6) d5))) d5)) (jn 3 sc.nd) (d7 (jst 4 sc.nd (jc JH hr (a9 (d4 0) d5))) (d7 (jst 5 sc.nd (jc ID hr (a9 (d4 0) (a9 d6 d5)))) (U9 (g6 (A6 (K3 (jtm ba (d4 3) d6) (E5 (jtm dD (d4 5) d6)))) (d7 (jst 6 sc.nd (jx (d4 2) (jc ID hr (a9 (d4 0) (a9 (d4 3) d5))))) (d7 (jst 7 sc.nd (jx (p8 (a9 (f6 (a9 d6 (a9 d6 d5))) (a9 (jc IE hr (a9 (e8 C6 (jc ID hr (a9 (d4 0) (a9 d6 d5))) d6) (a9 (e8 A5 d6 (jc ID hr (a9 (d4 0) (a9 d6 d5)))) d5))) d5))) (d4 5))) (U9 (g6 (jtm q9 (jx (d4 7) d6) d6) (d8 (jst 7 sc.nd (f6 (a9 d6 (a9 d6 d5))))) g5) (d8 (jst 4 sc.nd (f6 (a9 (jc IF hr (a9 (d4 7) (a9 (jx (d4 6) d6) d5))) (a9 (jc IF hr (a9 (d4 7) (a9 (jx (d4 6) d6) d5))) (a9 (jx (p8 (a9 (jx (d4 6) d6) (a9 (jx (d4 4) d6) d5))) (jc ID hr (a9 (d4 0) (a9 d6 d5)))) d5))))))))) g5) (U9 (g6 (A6 (K3 (jtm ba (d4 3) d6) (E5 (jtm q9 (d4 5) d6)))) (d7 (aD (i:=8) (j:=9) rfl sc.nd rfl rfl (by decide) rfl rfl (a9 (jx (d4 2) (e8 C6 (d4 3) d6)) (a9 (jx (d4 2) (e8 C6 (d4 3) d6)) d5))) (d7 (jst 4 sc.nd (f6 (a9 (jc IG hr (a9 (jx (d4 8) d6) (a9 (jx (d4 9) d6) d5))) (a9 (jc IG hr (a9 (jx (d4 8) d6) (a9 (jx (d4 9) d6) d5))) (a9 (jc IG hr (a9 (jx (d4 8) d6) (a9 (jx (d4 9) d6) d5))) d5))))) (d8 (g6 (A6 (K3 (jtm q9 (jx (jx (d4 4) d6) d6) d6) (E5 (jtm q9 (jx (jx (d4 4) d6) d6) d6)))) (d8 (jst 4 sc.nd (d4 8))) g5)))) g5) (d8 (B6 (aE PySem.F.slot_list_append PySem.F.type_list_append D8 (d4 2) (a9 (d4 4) d5))))))))) (d8 (d9 (bg (bf (d4 2))))))),?_⟩
 walk_at "sim"
 intro l hl
 have hlp:l≠p:=hp.ne hl
 have st0:j1 p M (v7 M l (.lst [])):=j1.mk' hp (MK.new hl)
 refine⟨st0.pool,by omega,lg (by omega),fun t M1 t0 t1 s1=>⟨by omega,?_⟩⟩
 refine T5.by (fun i e M'=>∃(ls:List (Rat × Rat × Rat)) (x3 x4 x5 x6 x7 x8 x9:Option D),e=[some (.ref p),some (.int nn),some (.ref l),x3,x4,x5,x6,x7,x8,x9]∧ls.length=i∧CP i ls∧M' l=some (.lst (ls.map f9))∧j1 p M M')
  ⟨[],_,_,_,_,_,_,_,rfl,rfl,CP.nil,s1.keep l _ hlp f7,st0.trans s1⟩ (fun _ _ _ _ _=>trivial) ?_ ?_
 ·rintro i dd e M2 hd ⟨ls,x3,x4,x5,x6,x7,x8,x9,rfl,hll,hc,hm,st⟩
  obtain⟨hi,rfl⟩:=gc hd
  have ok:=hc.cols.ok (by omega)
  have hlen:(ls.map f9).length=i:=by rw[LF];exact hll
  rw[Int.zero_add]
  walk_at "sim"
  refine⟨st.pool,fun l0 M3 hl0 lp0 s3=>⟨s3.pool,by decide,fun pick M4 p0 p1 s4=>?_⟩⟩
  have st4:=st.trans (s3.trans s4)
  have hm4:=(s3.trans s4).keep l _ hlp hm
  refine jQ (fun e' M'=>∃(ln:Rat × Rat × Rat) (x6 x7:Option D),e'=[some (.ref p),some (.int nn),some (.ref l),some (.int (i:Nat)),some (f9 ln),some (.int pick),x6,x7,x8,x9]∧CP (i+1) (ls++[ln])∧M' l=some (.lst (ls.map f9))∧j1 p M M') ?_ ?_
  ·have fin0:∃(ln:Rat × Rat × Rat) (y6 y7:Option D),[some (.ref p),some (.int nn),some (.ref l),some (.int (i:Int)),some (f9 l0),some (.int pick),x6,x7,x8,x9]=[some (.ref p),some (.int nn),some (.ref l),some (.int (i:Int)),some (f9 ln),some (.int pick),y6,y7,x8,x9]∧CP (i+1) (ls++[ln])∧M4 l=some (.lst (ls.map f9))∧j1 p M M4:=⟨l0,_,_,rfl,hc.app (hc.cols.new hl0) lp0,hm4,st4⟩
   walk_at "sim"
   refine⟨fun h0=>⟨fun h1=>⟨st4.pool,by omega,lg (by omega),fun r M5 r0 r1 s5=>?_⟩,fun h1=>fin0⟩,fun h0=>fin0⟩
   have hm5:=s5.keep l _ hlp hm4
   refine dJ hm5 r0 (by rw[hlen];exact r1) fun d hd=>?_
   obtain⟨a,ha,rfl⟩:=LM.mp hd
   refine⟨s5.pool,by decide,fun v M6 v0 v1 s6=>⟨s6.pool,by decide,fun u M7 u0 u1 s7=>⟨by omega,lg (by omega),E6 p0 (by show pick<2;exact h1) fun w hw=>?_⟩⟩⟩
   obtain⟨w0,rfl,hw0⟩:∃ w0:Rat,w=e7 w0∧(w0≠0→dP w0):=by
    simp only[LB,LK,or_false]at hw
    rcases hw with rfl|rfl
    ·exact⟨1,rfl,fun _=>small_one⟩
    ·exact⟨_,rfl,fun h=>gQ (by omega) (by omega) (by omega) h⟩
   have s57:=s5.trans (s6.trans s7)
   have hm7:=s57.keep l _ hlp hm4
   refine jQ (fun e' M'=>M'=M7∧∃ w1:Rat,e'=[some (.ref p),some (.int nn),some (.ref l),some (.int (i:Int)),some (f9 l0),some (.int pick),some (f9 a),some (e7 w1),x8,x9]∧dP w1) ?_ ?_
   ·walk_at "sim"
    exact⟨fun _=>⟨1,rfl,small_one⟩,fun z=>⟨w0,rfl,hw0 fun y=>z (by rw[y];rfl)⟩⟩
   ·rintro e' M8 ⟨rfl,w1,rfl,hw1⟩
    have z1:=hw1.sz
    have oa:=ok a ha
    have o1:=oa.p
    have o2:=oa.q
    walk_at "sim"
    refine⟨by omega,by omega,s7.pool,by decide,fun c M9 c0 c1 s9=>?_⟩
    have st9:=st4.trans (s57.trans s9)
    have hm9:=s9.keep l _ hlp hm7
    refine E6 c0 (by show c<2;exact c1) fun x hx=>?_
    simp only[LB,LK,or_false]at hx
    rcases hx with rfl|rfl
    ·exact⟨(w1*a.1,w1*a.2.1,a.2.2),_,_,rfl,hc.app (hc.cols.taken ha hw1 (.inl rfl)) (hc.pos a ha),hm9,st9⟩
    ·exact⟨(w1*a.1,w1*a.2.1,l0.2.2),_,_,rfl,hc.app (hc.cols.taken ha hw1 (.inr hl0.r)) lp0,hm9,st9⟩
  ·rintro e' M5 ⟨ln,x6,x7,rfl,hc5,hm5,st5⟩
   walk_at "sim"
   refine jQ (fun e' M'=>M'=M5∧∃(ln:Rat × Rat × Rat) (y8 y9:Option D),e'=[some (.ref p),some (.int nn),some (.ref l),some (.int (i:Int)),some (f9 ln),some (.int pick),x6,x7,y8,y9]∧CP (i+1) (ls++[ln])) ?_ ?_
   ·walk_at "sim"
    refine⟨fun h0=>⟨fun h1=>?_,fun _=>⟨_,_,_,rfl,hc5⟩⟩,fun _=>⟨_,_,_,rfl,hc5⟩⟩
    refine dJ hm5 (by omega) (by rw[hlen];omega) fun d hd=>?_
    obtain⟨a,ha,rfl⟩:=LM.mp hd
    refine dJ hm5 (by omega) (by rw[hlen];omega) fun d hd=>?_
    obtain⟨b,hb,rfl⟩:=LM.mp hd
    walk_at "sim"
    have oa:=ok a ha
    have ob:=ok b hb
    have o1:=oa.p
    have o2:=oa.q
    have o3:=oa.r
    have o4:=ob.p
    have o5:=ob.q
    have o6:=ob.r
    have go:¬ ((a.1+b.1).num=0∧(a.2.1+b.2.1).num=0)→CP (i+1) (ls++[(a.1+b.1,a.2.1+b.2.1,a.2.2+b.2.2)]):=fun z=>hc.app (hc.cols.sum ha hb fun y=>z ⟨Ng.mpr y.1,Ng.mpr y.2⟩) (show 0<a.2.2+b.2.2 by have:=hc.pos a ha;have:=hc.pos b hb;grind)
    exact⟨by omega,by omega,by omega,fun h2=>⟨fun h3=>⟨_,_,_,rfl,hc.app (hc.cols.again ha) (hc.pos a ha)⟩,fun h3=>⟨_,_,_,rfl,go fun z=>h3 z.2⟩⟩,fun h2=>⟨_,_,_,rfl,go fun z=>h2 z.1⟩⟩
   ·rintro e' M6 ⟨rfl,ln,y8,y9,rfl,hc6⟩
    walk_at "sim"
    refine K6 hm5 (Y9 hm5 (by rw[hlen];omega) ⟨ls++[ln],_,_,_,_,_,_,_,rfl,by simp[hll],hc6,by rw[f7];simp,st5.put hl hlp⟩)
 ·rw[B4]
  rintro e M2 ⟨ls,x3,x4,x5,x6,x7,x8,x9,rfl,hll,hc,hm,st⟩
  walk_at "sim"
  rw[cT hm]
  walk_at "sim"
  exact⟨_,fun _ _ h=>h,k ls _ (by omega) (hc.l24 (by omega)) (st.del hl hlp)⟩
theorem jf(T:Txt K mg)(d:Df K mg "_law_pool" R7 ["cell"]):Fn P w K mg base "_law_pool" 1 ["cell"] mV:=by
 have sc:=hV
 refine g9 d sc (fun ds M R Y h=>?_) (fun f cdv A outer s H E ds M R Y hr h=>?_)
 ·obtain⟨c,rfl,_⟩:=h;rfl
 ·obtain⟨c,rfl,k⟩:=h
  refine⟨_,(d8 (d9 (dH (a9 (j2 (Cy rfl) rfl T.b_max xp (a9 d6 (a9 (e8 C6 (d4 0) (e8 gn d6 d6)) d5))) (a9 (e8 S5 (d4 0) (e8 gn d6 d6)) (a9 d6 d5)))))),?_⟩
  refine⟨_,rfl,_,_,rfl,rfl,Hk,_,rfl,_,_,rfl,_,rfl,_,_,rfl,rfl,Hk,_,_,rfl,rfl,(by show(0:Int)<10 ^ 18;decide),sl 3,fun p hp=>?_⟩
  exact k p _ hp (MK.new hp) ⟨_,_,_,f7⟩
theorem DZ{f:Addr}{fd:FuncData}(T:Txt K mg)(d:Bd K "law" uH f fd)(Ju:Fn P w K mg base "_law_cells" 1 ["script","bound"] iP)(Je:Fn P w K mg base "most_right" 4 ["lines","p","q","told"] nA)(Jv:Fn P w K mg base "_law_truth" 1 ["found","due"] nu)(Jw:Fn P w K mg base "_law_right" 5 ["lines","p","q","told"] iK)(IS:Fn P w K mg base "_law_back" 1 ["one"] cV)(Ja:Fn P w K mg base "_law_turned" 5 ["pool","told","lines"] iB)(JP:Fn P w K mg base "_law_ray" 4 ["pool"] uv)(KP:Fn P w K mg base "most" 7 ["lines","p","q"] uN)(Jx:Fn P w K mg base "_law_asked" 4 ["pool","lines"] nJ)(Jy:Fn P w K mg base "_law_lines" 5 ["pool","most_lines"] iJ)(JJ:Fn P w K mg base "_law_pool" 1 ["cell"] mV):Q8 P w K mg base CX0 8 f fd ["script"] (kM K pX):=by
 have sc:=Dj
 refine Cf d sc (fun ds M R Y h=>by obtain⟨n,rfl,_⟩:=h;rfl) (fun cdv A outer s H E ds M R Y hr h=>?_)
 obtain⟨ns,rfl,hlen,k⟩:=h
 have hu:=hr.units
 refine⟨_,(d7 (t4 PassesOwn.never rfl (o8 (jc Ju hr (a9 (d4 0) (a9 d6 d5)))) (jn 1 sc.nd) (d7 (jst 2 sc.nd (jc JJ hr (a9 (d4 1) d5))) (d7 (jst 3 sc.nd (jc Jy hr (a9 (d4 2) (a9 d6 d5)))) (d7 (m7 (jc Jx hr (a9 (d4 2) (a9 (d4 3) d5))) (j5 (n:=2) rfl (e5 (jn 4 sc.nd) (e5 (jn 5 sc.nd) i6)))) (d7 (jst 6 sc.nd (jc KP hr (a9 (d4 3) (a9 (d4 4) (a9 (d4 5) d5))))) (d7 (jst 7 sc.nd (dH (a9 (d4 6) (a9 (jc Ja hr (a9 (d4 2) (a9 (d4 6) (a9 (d4 3) d5)))) (a9 (f6 (a9 A1 (a9 (jc JP hr (a9 (d4 2) d5)) d5))) d5))))) (d7 (B6 (aE PySem.F.slot_list_append PySem.F.type_list_append D8 (d4 7) (a9 (jc Ja hr (a9 (d4 2) (a9 (jx (d4 7) d6) (a9 (d4 3) d5)))) d5))) (U9 (g6 (A6 (K3 (jtm (gp hu) (d4 3) (p8 d5)) (E5 (A6 (B7 (jtm vJ (jx (d4 4) d6) d6) (C7 (jtm vJ (jx (d4 5) d6) d6))))))) (d7 (B6 (aE PySem.F.slot_list_append PySem.F.type_list_append D8 (d4 7) (a9 (f6 (a9 A1 (a9 (f6 (a9 (jc IS hr (a9 (jx (jx (d4 3) d6) d6) d5)) (a9 (jx (jx (d4 3) d6) d6) d5))) d5))) d5))) (d8 (B6 (aE PySem.F.slot_list_append PySem.F.type_list_append D8 (d4 7) (a9 (f6 (a9 A1 (a9 (f6 (a9 (jx (jx (d4 3) d6) d6) (a9 (jc IS hr (a9 (jx (jx (d4 3) d6) d6) d5)) d5))) d5))) d5))))) g5) (d8 (t4 PassesOwn.never rfl (o8 (d4 7)) (jn 8 sc.nd) (d7 (jst 9 sc.nd (jc Jw hr (a9 (d4 3) (a9 (d4 4) (a9 (d4 5) (a9 (d4 8) d5)))))) (d7 (jst 10 sc.nd (aF rfl T.b_list aO (a9 (d4 3) d5))) (d7 (jst 11 sc.nd (aF rfl T.b_list aO (a9 (jx (d4 8) (C9 d6)) d5))) (d7 (g6 (A6 (B7 (C8 (u6 (jc Jv hr (a9 (jc Je hr (a9 (d4 10) (a9 (d4 4) (a9 (d4 5) (a9 (d4 8) d5))))) (a9 (d4 9) d5))))) (B7 (jtm (gp hu) (d4 10) (d4 3)) (C7 (jtm (gp hu) (aF rfl T.b_list aO (a9 (jx (d4 8) (C9 d6)) d5)) (d4 11)))))) (d8 (d9 F7)) g5) (d8 (g6 (A6 (K3 (jtm vI (jx (d4 8) d6) A1) (E5 (jtm Gs (jc Je hr (a9 (d4 3) (a9 (d4 4) (a9 (d4 5) (a9 (e8 Ea (V1 (d4 8) L5 (L4 d6)) (f6 (a9 (qo EB rfl T.b_tuple xo (a9 (jx (d4 8) d6) d5)) d5))) d5))))) (d4 9))))) (d8 (d9 F7)) g5)))))))))))))))) (d8 (d9 F7))),?_⟩
 walk_at "sim"
 refine⟨ns,4,rfl,⟨by decide,by decide⟩,rfl,by omega,fun ms hml=>?_⟩
 refine T5.by (fun i e M'=>∃ x1 x2 x3 x4 x5 x6 x7 x8 x9 x10 x11:Option D,e=[some (.vl (ns.map D.int)),x1,x2,x3,x4,x5,x6,x7,x8,x9,x10,x11]) ⟨_,_,_,_,_,_,_,_,_,_,_,rfl⟩ (fun i e M' _ _=>by simp only[t5]) ?_ ?_
 ·rintro i dd e M' hd ⟨x1,x2,x3,x4,x5,x6,x7,x8,x9,x10,x11,rfl⟩
  obtain⟨n,rfl⟩:∃ n:Int,dd = .int n:=by
   have hm:=LS hd
   obtain⟨n,_,rfl⟩:=LM.mp hm
   exact⟨n,rfl⟩
  walk_at "sim"
  refine fun p M1 hp mk hP=>⟨hP,fun ls M2 hl4 hlo s2=>?_⟩
  have hls:jP ls:=⟨by omega,hlo⟩
  refine⟨⟨s2.pool,hls⟩,fun a b M3 ha hb s3=>?_⟩
  walk_at "sim"
  have ms0:=Am hls ha hb
  generalize gr ls a b=m0 at *
  have hlz:∀ l∈ls,sz l.1≤262∧sz l.2.1≤262:=fun l hl=>⟨(hlo l hl).z.p,(hlo l hl).z.q⟩
  refine⟨⟨hls.a,by omega,by omega⟩,m0,0,rfl,s3.pool,hls.1,by decide,ms0,fun m1 M4 hm1 s4=>⟨s4.pool,fun y u M5 hyu s5 l hl=>?_⟩⟩
  have hlp:l≠p:=s5.pool.ne hl
  have st6:j1 p M5 (v7 M5 l (.lst [m0.toD,m1.toD,D.tup [D.str "free",p9 y u]])):=j1.mk' s5.pool (MK.new hl)
  refine K6 f7 ?_
  refine⟨_,B0 f7 (m8 (n:=1) rfl),m1,1,rfl,st6.pool,hls.1,by decide,hm1,fun m2 M6 hm2 s6=>?_⟩
  have hm6:=s6.keep l _ hlp f7
  refine Y9 hm6 (by show 3<1000;decide) ?_
  have fr:∀ z:Zr,sz z.1≤262→sz z.2≤262→MSk 2 (.free z):=fun z h1 h2=>⟨fun w e=>by cases e;omega,fun _ _ _ e=>by cases e⟩
  refine jQ (fun e' M'=>∃(mm:List F6) (y8 y9 y10 y11:Option D),e'=[some (D.vl (MM D.int ns)),some (D.int n),some (D.ref p),some (D.vl (MM f9 ls)),some (e7 a),some (e7 b),some m0.toD,some (D.ref l),y8,y9,y10,y11]∧M' l=some (.lst (mm.map F6.toD))∧mm.length≤10∧∀ m∈mm,MSk 2 m) ?_ ?_
  ·have base:∀ m∈[m0,m1,.free (y,u),m2],MSk 2 m:=fun m hm=>by
    simp only[LB,LK,or_false]at hm
    rcases hm with rfl|rfl|rfl|rfl
    ·exact ms0.up.up
    ·exact hm1.up
    ·exact fr (y,u) (by have:=hyu.1;show sz y≤_;omega) (by have:=hyu.2;show sz u≤_;omega)
    ·exact hm2
   have base0:∃(mm:List F6) (y8 y9 y10 y11:Option D),[some (D.vl (MM D.int ns)),some (D.int n),some (D.ref p),some (D.vl (MM f9 ls)),some (e7 a),some (e7 b),some m0.toD,some (D.ref l),x8,x9,x10,x11]=[some (D.vl (MM D.int ns)),some (D.int n),some (D.ref p),some (D.vl (MM f9 ls)),some (e7 a),some (e7 b),some m0.toD,some (D.ref l),y8,y9,y10,y11]∧v7 M6 l (MO.lst [m0.toD,m1.toD,D.tup [D.str "free",p9 y u],m2.toD]) l=some (MO.lst (mm.map F6.toD))∧mm.length≤10∧∀ m∈mm,MSk 2 m:=⟨[m0,m1,.free (y,u),m2],_,_,_,_,rfl,f7,by show 4≤10;decide,base⟩
   walk_at "sim"
   refine⟨?_,fun hne=>⟨fun _=>?_,fun _=>⟨fun _=>?_,fun _=>base0⟩⟩,fun _=>base0⟩
   ·exact bo (k:=59) fun d hd=>by
     obtain⟨z,_,rfl⟩:=LM.mp hd
     rfl
   all_goals
    cases ls with
    | nil=>exact absurd rfl hne
    | cons l0 r =>
     obtain⟨q1,q2⟩:=hlz l0 LI
     refine K6 f7 ?_
     walk_at "sim"
     refine Y9 f7 (by show 4<1000;decide) (K6 f7 ?_)
     walk_at "sim"
     refine Y9 f7 (by show 5<1000;decide) ?_
     refine⟨[m0,m1,.free (y,u),m2,.free (-l0.2.1,l0.1),.free (l0.2.1,-l0.1)],_,_,_,_,rfl,f7,by show 6≤10;decide,fun m hm=>?_⟩
     simp only[LB,LK,or_false]at hm
     rcases hm with h|h|h|h|rfl|rfl
     ·exact base m (by simp[h])
     ·exact base m (by simp[h])
     ·exact base m (by simp[h])
     ·exact base m (by simp[h])
     ·exact fr _ (by show sz (-l0.2.1)≤_;rw[RM.N0];exact q2) q1
     ·exact fr _ q2 (by show sz (-l0.1)≤_;rw[RM.N0];exact q1)
  ·rintro e' M7 ⟨mm,y8,y9,y10,y11,rfl,hm7,h10,hmm⟩
   walk_at "sim"
   refine J6 (.inr (.inl ⟨l,rfl,hm7⟩)) ?_
   refine T5.by (fun i e M'=>M'=M7∧∃(y8 y9 y10 y11:Option D),e=[some (D.vl (MM D.int ns)),some (D.int n),some (D.ref p),some (D.vl (MM f9 ls)),some (e7 a),some (e7 b),some m0.toD,some (D.ref l),y8,y9,y10,y11]) ⟨rfl,_,_,_,_,rfl⟩ (fun i e M' _ h=>by rw[h.1];exact .inr (.inl ⟨l,rfl,hm7⟩)) ?_ ?_
   ·rintro j dj e M8 hj ⟨rfl,z8,z9,z10,z11,rfl⟩
    obtain⟨m,hm,rfl⟩:=LM.mp (LS hj)
    have hms:=(hmm m hm).sz (by decide)
    have lcl:clL 59 (MM f9 ls)=true:=bo (k:=59) fun d hd=>by
     obtain⟨z,_,rfl⟩:=LM.mp hd
     rfl
    walk_at "sim"
    refine⟨m,kN _ m,hls,⟨ha,hb⟩,hms,?_⟩
    have told:=kN M8 m
    cases m with
    | free z =>
     have td:(F6.free z).toD = .tup [.str "free",p9 z.1 z.2]:=rfl
     rw[td]at told ⊢
     refine⟨_,rfl,?_⟩
     walk_at "sim"
     refine⟨.free z,told,hls.a,⟨by omega,by omega⟩,hms,fun c=>absurd rfl c,fun _=>⟨lcl,lcl,_,rfl,?_⟩⟩
     walk_at "sim"
     exact⟨_,_,_,_,rfl⟩
    | most v z sh =>
     have td:(F6.most v z sh).toD = .tup [.str "most",e7 v,p9 z.1 z.2,.vl (sh.map shD)]:=rfl
     rw[td]at told ⊢
     refine⟨_,rfl,?_⟩
     walk_at "sim"
     refine⟨.most v z sh,told,hls.a,⟨by omega,by omega⟩,hms,fun c=>absurd rfl c,fun _=>⟨lcl,lcl,_,rfl,?_⟩⟩
     walk_at "sim"
     have scl:clL 59 (MM shD sh)=true:=bo (k:=59) fun d hd=>by
      obtain⟨s,_,rfl⟩:=LM.mp hd
      rfl
     refine⟨scl,scl,fun _=>⟨by decide,?_⟩,fun c=>absurd c (by decide)⟩
     rw[show DL.Y5 [D.str "most",e7 v,p9 z.1 z.2,D.vl (MM shD sh)] none (some 3)=[D.str "most",e7 v,p9 z.1 z.2]from rfl]
     refine⟨_,_,rfl,rfl,(fun z=>nomatch z),(fun z=>nomatch z),(by show 4≤sizeLine;decide),.most v z sh,⟨_,rfl,.inl rfl⟩,hls.a,⟨by omega,by omega⟩,hms,fun c=>?_,fun _=>⟨rfl,_,_,_,_,rfl⟩⟩
     rw[beq_self_eq_true]at c
     cases c
   ·rintro e M8 ⟨rfl,z8,z9,z10,z11,rfl⟩
    exact⟨_,_,_,_,_,_,_,_,_,_,_,rfl⟩
 ·rintro e M' ⟨x1,x2,x3,x4,x5,x6,x7,x8,x9,x10,x11,rfl⟩
  walk_at "sim"
  exact k _
end
end K25
namespace K25
open PySem PySem.Spec L2 DL GM
theorem EK{P:Program}{w:World}{K:Ly}{mg:Str→Option Value}{fa:Addr}(T:Txt K mg)(hfa:mg "law" = some (.ref fa))(Ki:Df K mg "_law_cells" O7 ["script","bound"])(Lo:Df K mg "same" ni ["one","other"])(Kw:Df K mg "sum_by" Z6 ["p","q","ray"])(KQ:Df K mg "unsigned" X1 ["one"])(Li:Df K mg "added" ix ["lines","shares"])(Kj:Df K mg "are_shares" O0 ["lines","shares"])(KR:Df K mg "bound_by" X6 ["lines","shares","p","q"])(Le:Df K mg "lets_by" aW ["line","ray"])(Lp:Df K mg "lets" nr ["lines","ray"])(Kk:Df K mg "free_right" N9 ["lines","p","q","ray"])(Kl:Df K mg "most_right" N7 ["lines","p","q","told"])(Km:Df K mg "_law_truth" O2 ["found","due"])(KS:Df K mg "_law_low" X9 ["top","bottom"])(KU:Df K mg "_law_sum" X7 ["one","other"])(Kn:Df K mg "_law_taken" O3 ["one","other"])(Kx:Df K mg "_law_bare" S1 ["one"])(Ko:Df K mg "_law_added" P0 ["lines","shares"])(JQ:Df K mg "_law_are_shares" C5 ["lines","shares"])(Kp:Df K mg "_law_worth" O1 ["p","q","ray"])(Kq:Df K mg "_law_below" O8 ["one","other"])(Ky:Df K mg "_law_lets" S0 ["lines","ray"])(Kr:Df K mg "_law_right" O4 ["lines","p","q","told"])(Kz:Df K mg "_law_back" S2 ["one"])(KA:Df K mg "_law_next" R8 ["pool","base"])(Ks:Df K mg "_law_other" O5 ["pool","number"])(JK:Df K mg "_law_shares_turned" A7 ["pool","shares","many_lines"])(JR:Df K mg "_law_ray_turned" C4 ["pool","ray"])(Ka:Df K mg "_law_turned" K0 ["pool","told","lines"])(KC:Df K mg "_law_wide" R6 ["pool","base"])(Kb:Df K mg "_law_number" K1 ["pool"])(KW:Df K mg "_law_ray" X8 ["pool"])(Lf:Df K mg "divisor" aX ["one","other"])(KY:Df K mg "is_whole" X4 ["thing"])(Lj:Df K mg "ratio" iq ["top","bottom"])(KZ:Df K mg "veer" de ["one","other"])(Lg:Df K mg "met_at" df ["one","other"])(Lh:Df K mg "facing" dg ["side"])(JZ:Df K mg "sides_around" G4 ["half","wanted"])(JV:Df K mg "tops_over" J3 ["ratios","bottom"])(Jz:Df K mg "common_bottom" B9 ["ratios"])(Kc:Df K mg "most_around" J9 ["half","p","q"])(Lk:Df K mg "times" ip ["one","other"])(Ll:Df K mg "grown" iu ["ray","share"])(Lq:Df K mg "over" nk ["one","other"])(La:Df K mg "value_of" X0 ["p","q","ray"])(Lb:Df K mg "opposite" X3 ["one"])(Lr:Df K mg "plus" nj ["one","other"])(Lm:Df K mg "minus" ir ["one","other"])(Ln:Df K mg "cross" iw ["one","other"])(Kt:Df K mg "most_along" N8 ["lines","number","p","q"])(Ls:Df K mg "turn" nh ["one","other","third"])(KD:Df K mg "next_side" R4 ["sides","here"])(KG:Df K mg "juts_more" R5 ["one","other"])(KH:Df K mg "outermost" R3 ["sides"])(Lc:Df K mg "sides_of" X2 ["lines"])(Ld:Df K mg "half_rim" X5 ["lines"])(Lu:Df K mg "most" nq ["lines","p","q"])(Ku:Df K mg "_law_asked" O9 ["pool","lines"])(KI:Df K mg "_law_line" R9 ["pool"])(Kv:Df K mg "_law_lines" O6 ["pool","most_lines"])(KJ:Df K mg "_law_pool" R7 ["cell"])(Lv:DfL K mg "law" uH ["script"]) :
  ∃ fd:FuncData,(∀(s:Shared) (u:Value),BindsTo s fd ⟨[u],[]⟩ [("script",u)])∧∀ base:Heap,Q8 P w K mg base CX0 8 fa fd ["script"] (kM K pX):=by
 obtain⟨f,fd,F,hm,hb⟩:=Lv.ex
 have e:f=fa:=by rw[hm]at hfa;injection hfa with z;injection z
 subst e
 refine⟨fd,fun s u=>.of_eq (hb [u] rfl),fun base=>?_⟩
 have Ju:=eR (P:=P) (w:=w) (base:=base) T Ki
 have Jm:=Ab (P:=P) (w:=w) (base:=base) T Lo
 have JB:=iZ (P:=P) (w:=w) (base:=base) T Kw
 have IZ:=lI (P:=P) (w:=w) (base:=base) T KQ
 have Kd:=vH (P:=P) (w:=w) (base:=base) T Li JB IZ
 have Jp:=eK (P:=P) (w:=w) (base:=base) T Kj
 have Jq:=lN (P:=P) (w:=w) (base:=base) T KR Jm Kd Jp
 have IL:=rA (P:=P) (w:=w) (base:=base) T Kw
 have JU:=nR (P:=P) (w:=w) (base:=base) T Le IL
 have Ke:=Af (P:=P) (w:=w) (base:=base) T Lp JU
 have Jc:=eJ (P:=P) (w:=w) (base:=base) T Kk IL
 have Je:=eG (P:=P) (w:=w) (base:=base) T Kl Jm Jq IL Ke Jc
 have Jv:=eM (P:=P) (w:=w) (base:=base) T Km
 have IE:=lQ (P:=P) (w:=w) (base:=base) T KS
 have IG:=lO (P:=P) (w:=w) (base:=base) T KU IE
 have IF:=eN (P:=P) (w:=w) (base:=base) T Kn IE
 have IX:=jj (P:=P) (w:=w) (base:=base) T Kx
 have Jd:=eV (P:=P) (w:=w) (base:=base) T Ko IG IF IX
 have IP:=Y2 (P:=P) (w:=w) (base:=base) T JQ
 have II:=eL (P:=P) (w:=w) (base:=base) T Kp IG IF
 have Jr:=eT (P:=P) (w:=w) (base:=base) T Kq
 have Jj:=ji (P:=P) (w:=w) (base:=base) T Ky Jr IX II
 have Jw:=eO (P:=P) (w:=w) (base:=base) T Kr Jd IP II Jj
 have IS:=jk (P:=P) (w:=w) (base:=base) T Kz
 have ID:=jg (P:=P) (w:=w) (base:=base) T KA
 have IJ:=eP (P:=P) (w:=w) (base:=base) T Ks IG ID
 have IT:=Q7 (P:=P) (w:=w) (base:=base) T JK ID IS IJ
 have IQ:=Y1 (P:=P) (w:=w) (base:=base) T JR IJ ID
 have Ja:=dq (P:=P) (w:=w) (base:=base) T Ka IT IQ IJ ID
 have Jk:=je (P:=P) (w:=w) (base:=base) T KC ID
 have IH:=dz (P:=P) (w:=w) (base:=base) T Kb IE Jk ID
 have JP:=lP (P:=P) (w:=w) (base:=base) T KW IH
 have IU:=nS (P:=P) (w:=w) (base:=base) T Lf
 have Js:=lL (P:=P) (w:=w) (base:=base) T KY
 have IK:=vD (P:=P) (w:=w) (base:=base) T Lj Js IU
 have IM:=zZ (P:=P) (w:=w) (base:=base) T KZ
 have JX:=rB (P:=P) (w:=w) (base:=base) T Lg IK IM
 have Jg:=nQ (P:=P) (w:=w) (base:=base) T KZ
 have Jf:=nP (P:=P) (w:=w) (base:=base) T KZ
 have Jo:=rC (P:=P) (w:=w) (base:=base) T Lh
 have Jh:=bS (P:=P) (w:=w) (base:=base) T JZ Jf Jg Jo
 have Ji:=bR (P:=P) (w:=w) (base:=base) T JV
 have IV:=V9 (P:=P) (w:=w) (base:=base) T Jz IU
 have Jn:=dn (P:=P) (w:=w) (base:=base) T Kc JX IK IM Jg Jf Jh Ji IV
 have IY:=vC (P:=P) (w:=w) (base:=base) T Lk IK
 have Kg:=vF (P:=P) (w:=w) (base:=base) T Ll IY
 have JY:=Ad (P:=P) (w:=w) (base:=base) T Lq IK
 have JL:=lH (P:=P) (w:=w) (base:=base) T La IK IL
 have IW:=lK (P:=P) (w:=w) (base:=base) T Lb
 have KN:=Ac (P:=P) (w:=w) (base:=base) T Lr IK
 have Kf:=vE (P:=P) (w:=w) (base:=base) T Lm KN IW
 have Kh:=vG (P:=P) (w:=w) (base:=base) T Ln Kf IY
 have Jt:=eI (P:=P) (w:=w) (base:=base) T Kt Kg JY JL IY IZ IW Kh
 have KO:=Aa (P:=P) (w:=w) (base:=base) T Ls IM
 have Jl:=jb (P:=P) (w:=w) (base:=base) T KD IM KO
 have JC:=jd (P:=P) (w:=w) (base:=base) T KG
 have JF:=ja (P:=P) (w:=w) (base:=base) T KH JC
 have JD:=iY (P:=P) (w:=w) (base:=base) T JV
 have Jb:=aZ (P:=P) (w:=w) (base:=base) T Jz IU
 have JM:=lJ (P:=P) (w:=w) (base:=base) T Lc Jo JD Jb
 have JN:=lM (P:=P) (w:=w) (base:=base) T Ld IM Jl JF JM
 have KP:=Ae (P:=P) (w:=w) (base:=base) T Lu Jn Jt JN
 have Jx:=eU (P:=P) (w:=w) (base:=base) T Ku IG ID IF IE IH
 have JH:=jh (P:=P) (w:=w) (base:=base) T KI IE ID IH
 have Jy:=eQ (P:=P) (w:=w) (base:=base) T Kv ID IG IF IE JH
 have JJ:=jf (P:=P) (w:=w) (base:=base) T KJ
 exact DZ T F Ju Je Jv Jw IS Ja JP KP Jx Jy JJ
theorem mM{l:PySem.W.OpenLaw}{q:Program}{loose:List Str}{XP:(Str→Option Value)→Heap→Prop}{YP:World→Heap→Prop}{d:DefRec}{K:Params→Ly}(hn:l.most=some 63)(hdf:d.params.defaults=[])
  (hY:∀(w:World) (h:Heap),YP w h→(K w.params).In h)
  (F:∀(w:World) (mg:Str→Option Value) (fa:Addr) (h:Heap),(K w.params).In h→h.Ns mainGlobals mg→mg d.name=some (.ref fa) →
   ∃ fd:FuncData,(∀(s:Shared) (u:Value),BindsTo s fd ⟨[u],[]⟩ [("script",u)])∧∀ base:Heap,Q8 l.prog w (K w.params) mg base CX0 8 fa fd ["script"] (kM (K w.params) pX)) :
  PySem.W.WalkO q loose XP YP l.row.toRowW d [] (fun f vs=>PySem.call f vs) :=
 L2.tX (n:=63) (k:=8) (x := "script") (CX:=CX0) (sp:=fun K=>kM K pX) hn (by decide) hdf ⟨rfl,by decide,by decide⟩ hY (fun w mg fa h a b c=>let ⟨fd,h1,h2⟩:=F w mg fa h a b c;⟨fd,h1,fun base _ _=>h2 base⟩)
  (fun K H a ns hl hO hS=>Ee hO hS ⟨ns,rfl,hl,fun _=>rfl⟩) fun _ _ _ _ z=>z
end K25
namespace PySem.W.Fast
theorem te12182181592066562920:True:=trivial
theorem tw10121249203127506872:True:=⟨⟩
theorem tw1537383662498119585:True:=⟨⟩
theorem tw8683196531556144379:True:=⟨⟩
theorem tw1341566818196080109:True:=⟨⟩
theorem tw6048311985581076867:True:=⟨⟩
theorem tw3825284701694465253:True:=⟨⟩
theorem tw9099171137922516555:True:=⟨⟩
theorem tw17996935985550278899:True:=⟨⟩
theorem tw1712458050396773602:True:=⟨⟩
theorem tw5886710003001404656:True:=⟨⟩
theorem tw3626639461364273339:True:=⟨⟩
theorem tw17093795878287599903:True:=⟨⟩
theorem tw8773673636481216412:True:=⟨⟩
theorem tw9610300536322875545:True:=⟨⟩
theorem tw14560644457379864120:True:=⟨⟩
theorem tw5834107690360649046:True:=⟨⟩
theorem tw8460367338203890157:True:=⟨⟩
theorem tw12978909866815680647:True:=⟨⟩
theorem tw15855612025479264544:True:=⟨⟩
theorem tw4824309891323852581:True:=⟨⟩
theorem tw3523002628062633186:True:=⟨⟩
theorem tw13406874682597149265:True:=⟨⟩
theorem tw11011802925192201558:True:=⟨⟩
theorem tw17740960005876006804:True:=⟨⟩
theorem tw16619937241045068360:True:=⟨⟩
theorem tw4355742991780961607:True:=⟨⟩
theorem tw10830989964263064205:True:=⟨⟩
theorem tw1123545376656936922:True:=⟨⟩
theorem tw16736622815001102922:True:=⟨⟩
theorem tw7533051386705777920:True:=⟨⟩
theorem tw8646686743719252168:True:=⟨⟩
theorem tw3285755879305518622:True:=⟨⟩
theorem tw12995069041234467163:True:=⟨⟩
theorem tw1858747534989362045:True:=⟨⟩
theorem tw13914717866754467546:True:=⟨⟩
theorem tw1437614106969222965:True:=⟨⟩
theorem tw2273173420427947029:True:=⟨⟩
theorem tw14446833890040512909:True:=⟨⟩
theorem tw17408877635031929836:True:=⟨⟩
theorem tw1397124007313839817:True:=⟨⟩
theorem tw416021295726766457:True:=⟨⟩
theorem tw6781413429042038235:True:=⟨⟩
theorem tw12601055380149010072:True:=⟨⟩
theorem tw9853477972390874512:True:=⟨⟩
theorem tw10714127714945555436:True:=⟨⟩
theorem tw1941105544723054865:True:=⟨⟩
theorem tw3587632576844741684:True:=⟨⟩
theorem tw6314636671016336898:True:=⟨⟩
theorem tw10938948413853703476:True:=⟨⟩
theorem tw9094746695900399946:True:=⟨⟩
theorem tw10353663924436547:True:=⟨⟩
theorem tw4803866473613596660:True:=⟨⟩
theorem tw8163637128905532945:True:=⟨⟩
theorem tw14309689404866709344:True:=⟨⟩
theorem tw7569609545947053539:True:=⟨⟩
theorem tw11681181399695516765:True:=⟨⟩
theorem tw5682028119198010123:True:=⟨⟩
theorem tw2397636909887217039:True:=⟨⟩
theorem tw9770941142641183186:True:=⟨⟩
theorem tw14173677525697162411:True:=⟨⟩
theorem tw14925998115027589826:True:=⟨⟩
theorem tw3945484714934145484:True:=⟨⟩
theorem tw1367644852665700989:True:=⟨⟩
theorem tw6842263258026240434:True:=⟨⟩
theorem tw18394189631382068956:True:=⟨⟩
theorem tw2021193170466625171:True:=⟨⟩
theorem tw13081759079121041542:True:=⟨⟩
theorem tw11754551017960084996:True:=⟨⟩
theorem tw3434180858140691567:True:=⟨⟩
theorem tw17955245538684450330:True:=⟨⟩
theorem tw5186779900231455737:True:=⟨⟩
theorem tw9234197206248873675:True:=⟨⟩
theorem tw3964656329876971482:True:=⟨⟩
theorem tw10153625359404980951:True:=⟨⟩
theorem tw597550241838550846:True:=⟨⟩
theorem tw17691006724101985073:True:=⟨⟩
theorem tw11050276465887354531:True:=⟨⟩
theorem tw12114338163603244710:True:=⟨⟩
theorem tw10791384569893251175:True:=⟨⟩
theorem tw11858741305412086613:True:=⟨⟩
theorem tw1393418684330604323:True:=⟨⟩
theorem tw7838552158482001617:True:=⟨⟩
theorem tw12575578131842184477:True:=⟨⟩
theorem tw1675499243712815511:True:=⟨⟩
theorem tw4630507119636592823:True:=⟨⟩
theorem tw7461973305387361894:True:=⟨⟩
theorem tw15221767663023166855:True:=⟨⟩
theorem tw5400101411155150812:True:=⟨⟩
theorem tw7101659109546698758:True:=⟨⟩
theorem tw2253096605453657926:True:=⟨⟩
theorem tw5077280981682262882:True:=⟨⟩
theorem tw3588404925369024524:True:=⟨⟩
theorem tw7458453542975501083:True:=⟨⟩
theorem tw15378674807377551244:True:=⟨⟩
theorem tw2333989080099054824:True:=⟨⟩
theorem tw6936773456510513213:True:=⟨⟩
theorem tw9002273779335674672:True:=⟨⟩
theorem tw11564388771619541704:True:=⟨⟩
theorem tw6701747985401327283:True:=⟨⟩
theorem tw7044327189718576783:True:=⟨⟩
theorem tw4359046768718809899:True:=⟨⟩
theorem tw17851965823056688720:True:=⟨⟩
theorem tw4818800367567820181:True:=⟨⟩
theorem tw8590865693988087480:True:=⟨⟩
theorem tw12053680331679668495:True:=⟨⟩
theorem tw3152257221169898257:True:=⟨⟩
theorem tw8764999312127430210:True:=⟨⟩
theorem tw16054297310071736922:True:=⟨⟩
theorem tw9056218232211203254:True:=⟨⟩
theorem tw7568980247076081725:True:=⟨⟩
theorem tw8789952473852745377:True:=⟨⟩
theorem tw6775160605797635415:True:=⟨⟩
theorem tw10493058211505261637:True:=⟨⟩
theorem tw1548250629208873688:True:=⟨⟩
theorem tw13889007541366732017:True:=⟨⟩
theorem tw14884207558629031240:True:=⟨⟩
theorem tw3579461764006232773:True:=⟨⟩
theorem tw6289081996660614109:True:=⟨⟩
theorem tw10934442569195789222:True:=⟨⟩
theorem tw10107488163364749805:True:=⟨⟩
theorem tw5601428301835005368:True:=⟨⟩
theorem tw15930773004126379647:True:=⟨⟩
theorem tw4028310745278894298:True:=⟨⟩
theorem tw13772584374417175340:True:=⟨⟩
theorem tw13962295317890493169:True:=⟨⟩
theorem tw8448105718305545568:True:=⟨⟩
theorem tw3387375185841188429:True:=⟨⟩
theorem tw15649305119721628085:True:=⟨⟩
theorem tw6861558107200986242:True:=⟨⟩
theorem tw8193711920157452868:True:=⟨⟩
theorem tw45494491524103345:True:=⟨⟩
theorem tw4996436168406333614:True:=⟨⟩
theorem tw7556513162303063215:True:=⟨⟩
theorem tw7038591719929640194:True:=⟨⟩
theorem tw10558733922699866794:True:=⟨⟩
theorem tw8378370619702734666:True:=⟨⟩
theorem tw4375945523046709446:True:=⟨⟩
theorem tw14997628171927903748:True:=⟨⟩
theorem tw2407965122787070619:True:=⟨⟩
theorem tw5339308995888013701:True:=⟨⟩
theorem tw3508963885988436187:True:=⟨⟩
theorem tw9291602634688932398:True:=⟨⟩
end PySem.W.Fast
open PySem PySem.W PyProof.Rows
set_option maxRecDepth 100000 in
set_option maxHeartbeats 0 in
theorem PySem.Challenge.cw_roundglass_k25_most_judged_holds : PySem.Challenge.rw_roundglass_k25_most_judged.Holds := by
 w_on;o_law;k_head;(case hw=>w_witness2)
 k_fill
 refine K25.mM (l:=PySem.Challenge.rw_roundglass_k25_most_judged) rfl rfl (fun w h Y=>PySem.W.kIn_of Y) ?F
 case F =>
  intro w mg fa h KX G hmg
  refine' K25.EK ⟨PySem.W.mg_none_of KX G ?z_abs,PySem.W.mg_none_of KX G ?z_all,PySem.W.mg_none_of KX G ?z_any,PySem.W.mg_none_of KX G ?z_bool,PySem.W.mg_none_of KX G ?z_enumerate,PySem.W.mg_none_of KX G ?z_int,PySem.W.mg_none_of KX G ?z_isinstance,PySem.W.mg_none_of KX G ?z_len,PySem.W.mg_none_of KX G ?z_list,PySem.W.mg_none_of KX G ?z_max,PySem.W.mg_none_of KX G ?z_min,PySem.W.mg_none_of KX G ?z_range,PySem.W.mg_none_of KX G ?z_set,PySem.W.mg_none_of KX G ?z_sorted,PySem.W.mg_none_of KX G ?z_tuple,PySem.W.mg_none_of KX G ?z_zip,DL.FU _,DL.Em KX G ?c0_MOST_SHARES,DL.qr KX G ?c0_NOUGHT ?c1_NOUGHT,DL.qr KX G ?c0_ONE ?c1_ONE⟩ hmg (DL.h9 KX G ?n0 ?l0 ?c0 ?k0 ?b0) (DL.h9 KX G ?n1 ?l1 ?c1 ?k1 ?b1) (DL.h9 KX G ?n2 ?l2 ?c2 ?k2 ?b2) (DL.h9 KX G ?n3 ?l3 ?c3 ?k3 ?b3) (DL.h9 KX G ?n4 ?l4 ?c4 ?k4 ?b4) (DL.h9 KX G ?n5 ?l5 ?c5 ?k5 ?b5) (DL.h9 KX G ?n6 ?l6 ?c6 ?k6 ?b6) (DL.h9 KX G ?n7 ?l7 ?c7 ?k7 ?b7) (DL.h9 KX G ?n8 ?l8 ?c8 ?k8 ?b8) (DL.h9 KX G ?n9 ?l9 ?c9 ?k9 ?b9) (DL.h9 KX G ?n10 ?l10 ?c10 ?k10 ?b10) (DL.h9 KX G ?n11 ?l11 ?c11 ?k11 ?b11) (DL.h9 KX G ?n12 ?l12 ?c12 ?k12 ?b12) (DL.h9 KX G ?n13 ?l13 ?c13 ?k13 ?b13) (DL.h9 KX G ?n14 ?l14 ?c14 ?k14 ?b14) (DL.h9 KX G ?n15 ?l15 ?c15 ?k15 ?b15) (DL.h9 KX G ?n16 ?l16 ?c16 ?k16 ?b16) (DL.h9 KX G ?n17 ?l17 ?c17 ?k17 ?b17) (DL.h9 KX G ?n18 ?l18 ?c18 ?k18 ?b18) (DL.h9 KX G ?n19 ?l19 ?c19 ?k19 ?b19) (DL.h9 KX G ?n20 ?l20 ?c20 ?k20 ?b20) (DL.h9 KX G ?n21 ?l21 ?c21 ?k21 ?b21) (DL.h9 KX G ?n22 ?l22 ?c22 ?k22 ?b22) (DL.h9 KX G ?n23 ?l23 ?c23 ?k23 ?b23) (DL.h9 KX G ?n24 ?l24 ?c24 ?k24 ?b24) (DL.h9 KX G ?n25 ?l25 ?c25 ?k25 ?b25) (DL.h9 KX G ?n26 ?l26 ?c26 ?k26 ?b26) (DL.h9 KX G ?n27 ?l27 ?c27 ?k27 ?b27) (DL.h9 KX G ?n28 ?l28 ?c28 ?k28 ?b28) (DL.h9 KX G ?n29 ?l29 ?c29 ?k29 ?b29) (DL.h9 KX G ?n30 ?l30 ?c30 ?k30 ?b30) (DL.h9 KX G ?n31 ?l31 ?c31 ?k31 ?b31) (DL.h9 KX G ?n32 ?l32 ?c32 ?k32 ?b32) (DL.Et KX G ?n33 ?l33 ?c33 ?k33 ?b33) (DL.h9 KX G ?n34 ?l34 ?c34 ?k34 ?b34) (DL.h9 KX G ?n35 ?l35 ?c35 ?k35 ?b35) (DL.h9 KX G ?n36 ?l36 ?c36 ?k36 ?b36) (DL.h9 KX G ?n37 ?l37 ?c37 ?k37 ?b37) (DL.h9 KX G ?n38 ?l38 ?c38 ?k38 ?b38) (DL.h9 KX G ?n39 ?l39 ?c39 ?k39 ?b39) (DL.h9 KX G ?n40 ?l40 ?c40 ?k40 ?b40) (DL.h9 KX G ?n41 ?l41 ?c41 ?k41 ?b41) (DL.h9 KX G ?n42 ?l42 ?c42 ?k42 ?b42) (DL.h9 KX G ?n43 ?l43 ?c43 ?k43 ?b43) (DL.h9 KX G ?n44 ?l44 ?c44 ?k44 ?b44) (DL.h9 KX G ?n45 ?l45 ?c45 ?k45 ?b45) (DL.h9 KX G ?n46 ?l46 ?c46 ?k46 ?b46) (DL.h9 KX G ?n47 ?l47 ?c47 ?k47 ?b47) (DL.h9 KX G ?n48 ?l48 ?c48 ?k48 ?b48) (DL.h9 KX G ?n49 ?l49 ?c49 ?k49 ?b49) (DL.h9 KX G ?n50 ?l50 ?c50 ?k50 ?b50) (DL.h9 KX G ?n51 ?l51 ?c51 ?k51 ?b51) (DL.h9 KX G ?n52 ?l52 ?c52 ?k52 ?b52) (DL.h9 KX G ?n53 ?l53 ?c53 ?k53 ?b53) (DL.h9 KX G ?n54 ?l54 ?c54 ?k54 ?b54) (DL.h9 KX G ?n55 ?l55 ?c55 ?k55 ?b55) (DL.h9 KX G ?n56 ?l56 ?c56 ?k56 ?b56) (DL.h9 KX G ?n57 ?l57 ?c57 ?k57 ?b57) (DL.h9 KX G ?n58 ?l58 ?c58 ?k58 ?b58) (DL.h9 KX G ?n59 ?l59 ?c59 ?k59 ?b59) (DL.h9 KX G ?n60 ?l60 ?c60 ?k60 ?b60) (DL.Es KX G ?n61 ?l61 ?c61 ?k61 ?b61)
  (case n0=>k_is);(case l0=>k_is);(case c0=>k_is);(case k0=>k_is);(case b0=>(intro us hl;exact match us,hl with|[_,_],_=>rfl))
  (case n1=>k_is);(case l1=>k_is);(case c1=>k_is);(case k1=>k_is);(case b1=>(intro us hl;exact match us,hl with|[_,_],_=>rfl))
  (case n2=>k_is);(case l2=>k_is);(case c2=>k_is);(case k2=>k_is);(case b2=>(intro us hl;exact match us,hl with|[_,_,_],_=>rfl))
  (case n3=>k_is);(case l3=>k_is);(case c3=>k_is);(case k3=>k_is);(case b3=>(intro us hl;exact match us,hl with|[_],_=>rfl))
  (case n4=>k_is);(case l4=>k_is);(case c4=>k_is);(case k4=>k_is);(case b4=>(intro us hl;exact match us,hl with|[_,_],_=>rfl))
  (case n5=>k_is);(case l5=>k_is);(case c5=>k_is);(case k5=>k_is);(case b5=>(intro us hl;exact match us,hl with|[_,_],_=>rfl))
  (case n6=>k_is);(case l6=>k_is);(case c6=>k_is);(case k6=>k_is);(case b6=>(intro us hl;exact match us,hl with|[_,_,_,_],_=>rfl))
  (case n7=>k_is);(case l7=>k_is);(case c7=>k_is);(case k7=>k_is);(case b7=>(intro us hl;exact match us,hl with|[_,_],_=>rfl))
  (case n8=>k_is);(case l8=>k_is);(case c8=>k_is);(case k8=>k_is);(case b8=>(intro us hl;exact match us,hl with|[_,_],_=>rfl))
  (case n9=>k_is);(case l9=>k_is);(case c9=>k_is);(case k9=>k_is);(case b9=>(intro us hl;exact match us,hl with|[_,_,_,_],_=>rfl))
  (case n10=>k_is);(case l10=>k_is);(case c10=>k_is);(case k10=>k_is);(case b10=>(intro us hl;exact match us,hl with|[_,_,_,_],_=>rfl))
  (case n11=>k_is);(case l11=>k_is);(case c11=>k_is);(case k11=>k_is);(case b11=>(intro us hl;exact match us,hl with|[_,_],_=>rfl))
  (case n12=>k_is);(case l12=>k_is);(case c12=>k_is);(case k12=>k_is);(case b12=>(intro us hl;exact match us,hl with|[_,_],_=>rfl))
  (case n13=>k_is);(case l13=>k_is);(case c13=>k_is);(case k13=>k_is);(case b13=>(intro us hl;exact match us,hl with|[_,_],_=>rfl))
  (case n14=>k_is);(case l14=>k_is);(case c14=>k_is);(case k14=>k_is);(case b14=>(intro us hl;exact match us,hl with|[_,_],_=>rfl))
  (case n15=>k_is);(case l15=>k_is);(case c15=>k_is);(case k15=>k_is);(case b15=>(intro us hl;exact match us,hl with|[_],_=>rfl))
  (case n16=>k_is);(case l16=>k_is);(case c16=>k_is);(case k16=>k_is);(case b16=>(intro us hl;exact match us,hl with|[_,_],_=>rfl))
  (case n17=>k_is);(case l17=>k_is);(case c17=>k_is);(case k17=>k_is);(case b17=>(intro us hl;exact match us,hl with|[_,_],_=>rfl))
  (case n18=>k_is);(case l18=>k_is);(case c18=>k_is);(case k18=>k_is);(case b18=>(intro us hl;exact match us,hl with|[_,_,_],_=>rfl))
  (case n19=>k_is);(case l19=>k_is);(case c19=>k_is);(case k19=>k_is);(case b19=>(intro us hl;exact match us,hl with|[_,_],_=>rfl))
  (case n20=>k_is);(case l20=>k_is);(case c20=>k_is);(case k20=>k_is);(case b20=>(intro us hl;exact match us,hl with|[_,_],_=>rfl))
  (case n21=>k_is);(case l21=>k_is);(case c21=>k_is);(case k21=>k_is);(case b21=>(intro us hl;exact match us,hl with|[_,_,_,_],_=>rfl))
  (case n22=>k_is);(case l22=>k_is);(case c22=>k_is);(case k22=>k_is);(case b22=>(intro us hl;exact match us,hl with|[_],_=>rfl))
  (case n23=>k_is);(case l23=>k_is);(case c23=>k_is);(case k23=>k_is);(case b23=>(intro us hl;exact match us,hl with|[_,_],_=>rfl))
  (case n24=>k_is);(case l24=>k_is);(case c24=>k_is);(case k24=>k_is);(case b24=>(intro us hl;exact match us,hl with|[_,_],_=>rfl))
  (case n25=>k_is);(case l25=>k_is);(case c25=>k_is);(case k25=>k_is);(case b25=>(intro us hl;exact match us,hl with|[_,_,_],_=>rfl))
  (case n26=>k_is);(case l26=>k_is);(case c26=>k_is);(case k26=>k_is);(case b26=>(intro us hl;exact match us,hl with|[_,_],_=>rfl))
  (case n27=>k_is);(case l27=>k_is);(case c27=>k_is);(case k27=>k_is);(case b27=>(intro us hl;exact match us,hl with|[_,_,_],_=>rfl))
  (case n28=>k_is);(case l28=>k_is);(case c28=>k_is);(case k28=>k_is);(case b28=>(intro us hl;exact match us,hl with|[_,_],_=>rfl))
  (case n29=>k_is);(case l29=>k_is);(case c29=>k_is);(case k29=>k_is);(case b29=>(intro us hl;exact match us,hl with|[_],_=>rfl))
  (case n30=>k_is);(case l30=>k_is);(case c30=>k_is);(case k30=>k_is);(case b30=>(intro us hl;exact match us,hl with|[_],_=>rfl))
  (case n31=>k_is);(case l31=>k_is);(case c31=>k_is);(case k31=>k_is);(case b31=>(intro us hl;exact match us,hl with|[_,_],_=>rfl))
  (case n32=>k_is);(case l32=>k_is);(case c32=>k_is);(case k32=>k_is);(case b32=>(intro us hl;exact match us,hl with|[_],_=>rfl))
  (case n33=>k_is);(case l33=>k_is);(case c33=>k_is);(case k33=>k_is);(case b33=>(intro us hl S;exact match us,hl with|[_,_],_=>rfl))
  (case n34=>k_is);(case l34=>k_is);(case c34=>k_is);(case k34=>k_is);(case b34=>(intro us hl;exact match us,hl with|[_,_],_=>rfl))
  (case n35=>k_is);(case l35=>k_is);(case c35=>k_is);(case k35=>k_is);(case b35=>(intro us hl;exact match us,hl with|[_,_],_=>rfl))
  (case n36=>k_is);(case l36=>k_is);(case c36=>k_is);(case k36=>k_is);(case b36=>(intro us hl;exact match us,hl with|[_],_=>rfl))
  (case n37=>k_is);(case l37=>k_is);(case c37=>k_is);(case k37=>k_is);(case b37=>(intro us hl;exact match us,hl with|[_,_],_=>rfl))
  (case n38=>k_is);(case l38=>k_is);(case c38=>k_is);(case k38=>k_is);(case b38=>(intro us hl;exact match us,hl with|[_,_],_=>rfl))
  (case n39=>k_is);(case l39=>k_is);(case c39=>k_is);(case k39=>k_is);(case b39=>(intro us hl;exact match us,hl with|[_],_=>rfl))
  (case n40=>k_is);(case l40=>k_is);(case c40=>k_is);(case k40=>k_is);(case b40=>(intro us hl;exact match us,hl with|[_,_,_],_=>rfl))
  (case n41=>k_is);(case l41=>k_is);(case c41=>k_is);(case k41=>k_is);(case b41=>(intro us hl;exact match us,hl with|[_,_],_=>rfl))
  (case n42=>k_is);(case l42=>k_is);(case c42=>k_is);(case k42=>k_is);(case b42=>(intro us hl;exact match us,hl with|[_,_],_=>rfl))
  (case n43=>k_is);(case l43=>k_is);(case c43=>k_is);(case k43=>k_is);(case b43=>(intro us hl;exact match us,hl with|[_,_],_=>rfl))
  (case n44=>k_is);(case l44=>k_is);(case c44=>k_is);(case k44=>k_is);(case b44=>(intro us hl;exact match us,hl with|[_,_,_],_=>rfl))
  (case n45=>k_is);(case l45=>k_is);(case c45=>k_is);(case k45=>k_is);(case b45=>(intro us hl;exact match us,hl with|[_],_=>rfl))
  (case n46=>k_is);(case l46=>k_is);(case c46=>k_is);(case k46=>k_is);(case b46=>(intro us hl;exact match us,hl with|[_,_],_=>rfl))
  (case n47=>k_is);(case l47=>k_is);(case c47=>k_is);(case k47=>k_is);(case b47=>(intro us hl;exact match us,hl with|[_,_],_=>rfl))
  (case n48=>k_is);(case l48=>k_is);(case c48=>k_is);(case k48=>k_is);(case b48=>(intro us hl;exact match us,hl with|[_,_],_=>rfl))
  (case n49=>k_is);(case l49=>k_is);(case c49=>k_is);(case k49=>k_is);(case b49=>(intro us hl;exact match us,hl with|[_,_,_,_],_=>rfl))
  (case n50=>k_is);(case l50=>k_is);(case c50=>k_is);(case k50=>k_is);(case b50=>(intro us hl;exact match us,hl with|[_,_,_],_=>rfl))
  (case n51=>k_is);(case l51=>k_is);(case c51=>k_is);(case k51=>k_is);(case b51=>(intro us hl;exact match us,hl with|[_,_],_=>rfl))
  (case n52=>k_is);(case l52=>k_is);(case c52=>k_is);(case k52=>k_is);(case b52=>(intro us hl;exact match us,hl with|[_,_],_=>rfl))
  (case n53=>k_is);(case l53=>k_is);(case c53=>k_is);(case k53=>k_is);(case b53=>(intro us hl;exact match us,hl with|[_],_=>rfl))
  (case n54=>k_is);(case l54=>k_is);(case c54=>k_is);(case k54=>k_is);(case b54=>(intro us hl;exact match us,hl with|[_],_=>rfl))
  (case n55=>k_is);(case l55=>k_is);(case c55=>k_is);(case k55=>k_is);(case b55=>(intro us hl;exact match us,hl with|[_],_=>rfl))
  (case n56=>k_is);(case l56=>k_is);(case c56=>k_is);(case k56=>k_is);(case b56=>(intro us hl;exact match us,hl with|[_,_,_],_=>rfl))
  (case n57=>k_is);(case l57=>k_is);(case c57=>k_is);(case k57=>k_is);(case b57=>(intro us hl;exact match us,hl with|[_,_],_=>rfl))
  (case n58=>k_is);(case l58=>k_is);(case c58=>k_is);(case k58=>k_is);(case b58=>(intro us hl;exact match us,hl with|[_],_=>rfl))
  (case n59=>k_is);(case l59=>k_is);(case c59=>k_is);(case k59=>k_is);(case b59=>(intro us hl;exact match us,hl with|[_,_],_=>rfl))
  (case n60=>k_is);(case l60=>k_is);(case c60=>k_is);(case k60=>k_is);(case b60=>(intro us hl;exact match us,hl with|[_],_=>rfl))
  (case n61=>k_is);(case l61=>k_is);(case c61=>k_is);(case k61=>k_is);(case b61=>(intro us hl;exact match us,hl with|[_],_=>rfl))
  (case z_abs=>k_is);(case z_all=>k_is);(case z_any=>k_is);(case z_bool=>k_is);(case z_enumerate=>k_is);(case z_int=>k_is);(case z_isinstance=>k_is);(case z_len=>k_is);(case z_list=>k_is);(case z_max=>k_is);(case z_min=>k_is);(case z_range=>k_is);(case z_set=>k_is);(case z_sorted=>k_is);(case z_tuple=>k_is);(case z_zip=>k_is);(case c0_MOST_SHARES=>k_is);(case c0_NOUGHT=>k_is);(case c1_NOUGHT=>k_is);(case c0_ONE=>k_is);(case c1_ONE=>k_is)
end
