import PyProof.Rows.All
import KE.KSortTup
import KE.KSortAsk
import OpenK.KLine
import KE.KPar
import KE.IntBitsLaws
import PyProof.Fits
import KE.KIsAll
import KE.KItem
import KE.KxBytes
import Wide.FinOn
import PyProof.EqAt
import PyProof.EqKinds
import PyProof.TupleCall
import PyProof.ZipIter
import PyProof.EnumMake
import PyProof.EnumFor
import PyProof.Rows.EnumRows
import PyProof.CompMap
import PyProof.CompUse
import KE.KRevSl
import KE.KRevIter
import PyProof.ListRange
import PyProof.AutoRange
import PyProof.FactsAll.range_2
import PyProof.MaxThree
import KE.RegKTryMore
import PyProof.Rows.SumAny
import KE.KMinBuiltin
import PyProof.Rows.CallKwBuiltin
import PyProof.JoinWalk
import PyProof.StrBlockL
import PyProof.StrCalls2
import PyProof.CallStr
import PyProof.Rows.StrWeight2
import PyProof.FitsInt
import PyProof.FactsAll.range_1
import PyProof.SeqRoads2
import KE.RegKIsAll
import PyProof.ExcArgsOwn
import PyProof.NsDelKeeps
import PyProof.RulesAs
import KE.KIntText
import PyProof.Rows.StrNews2
import PyProof.StrBlockH
import PyProof.Rows.RuleDivmod
import KE.IntTextText
import OpenK.KTop
import Lean
import PySem.Challenge.RW_roundglass_k28_whole_corners_and_most
noncomputable section
open PySem.W renaming Frag→Lo
open PySem renaming wpAny_bind→Lp,wpAny_pure→LG
open PySem.Heap renaming get?_push_of_some→Lq,lt_size→LD,get?_push_size→LL,size_push→MA,get?_update_ne→Og,size_update→OG,get?_update_other→OI,get?_update_self→OM,get?_push_ne→PJ
open List renaming length_map→Lr,mem_cons_of_mem→Ls,mem_map→Lv,mem_cons_self→Ly,mem_cons→Lz,length_cons→LA,getD_eq_getElem?_getD→LF,map_append→LH,getElem?_eq_getElem→LJ,mem_of_getElem?→LK,getElem?_eq_some_iff→LP,length_append→LQ,mem_append→LR,getElem?_map→LS,not_mem_nil→LU,size_toArray→LV,mem_append_right→LW,map_cons→LY,length_take→Ma,filter_cons_of_pos→Mb,mem_singleton→Mh,length_drop→Mi,filter_cons_of_neg→Mk,map_inj_right→Mp,map_map→Ms,mem_append_left→Mu,mem_of_mem_take→Mv,take_succ_eq_append_getElem→Mw,getElem?_append_right→Mx,map→MB,getElem?_replicate→MD,length_pos_iff→MG,getElem_cons_succ→MH,range→MJ,all_eq_true→ML,map_nil→MP,getElem?_append_left→MQ,foldl_append→MS,length_zip→MU,length_range→MV,getElem_append_left→MW,getElem_mem→Na,take_length→Nb,replicate→Nc,take_of_length_le→Nd,append_nil→Ng,length_filter_le→Ni,take_add_one→Nl,getElem_append_right→Nn,lookup_cons→Np,zipIdx_cons→Nq,getElem_zip→Nt,mem_filterMap→Nx,map_take→NH,length_replicate→NK,take_append_drop→NO,ext_getElem→NR,eq_nil_of_length_eq_zero→NT,getElem?_append→NV,mem_iff_getElem→NX,filterMap_cons→NZ,nodup_cons→Oa,of_mem_zip→Ob,take_succ_cons→Oc,mem_range→Ol,drop_eq_getElem_cons→Oo,getElem?_take_of_lt→Ou,append_assoc→Ox,any_cons→Oz,getElem?_set_self→OH,drop_of_length_le→OL,forIn_cons→OO,getElem?_set_ne→OX,getElem?_mapIdx→OY,mem_of_mem_drop→Pa,length→Pc,getElem?_range→Pl,length_take_le→Pn,all_cons→Po,filter_append→Pt,zip_cons_cons→Px,map_drop→PC,any_eq_false→PF,reverse_cons→PH,getElem_map→PV,any_eq_true→PZ,mem_filter→Qa,length_set→Qb,zipIdx_nil→Qc,nil_append→Qj,foldl_cons→Ql,forIn_nil→Qo,drop_zero→Qp
open Int renaming natAbs_natCast→Lu,natAbs_mul→Mc,natCast_inj→Me,mul_ne_zero→Mj,natAbs_neg→Ml,emod_lt_of_pos→Nf,toNat_natCast→Nk,mul_nonneg→Nm,mul_pos→Nu,emod_nonneg→NA,natCast_mul→NF,mul_eq_zero→NG,natAbs_add_le→NI,natAbs_sub_le→NJ,mul_le_mul_of_nonneg_right→NN,sign_eq_neg_one_of_neg→Oh,natAbs_ediv_le_natAbs→Om,sign_eq_one_of_pos→OJ,lt_or_le→OQ,zero_mul→OR,zero_add→OV,neg_ediv_of_dvd→Pg,mul_neg→Pk,le_of_lt→PN,zero_sub→PQ,natCast_emod→PY,neg_neg→Qk,natAbs_pos→Qq,natAbs→Qr,gcd→Qt
open Nat renaming lt_of_lt_of_le→Lw,le_trans→LB,le_refl→LM,lt_of_le_of_lt→LO,pow_le_pow_right→LX,ne_of_lt→Md,zero_le→Mn,mul_le_mul_right→Mo,mod_eq_of_lt→Mr,pow_add→My,gcd→Mz,le_of_lt→ME,ne_of_gt→MF,mul_lt_mul_of_lt_of_le→MI,mod_lt→MM,lt_irrefl→MN,pow_succ→MX,mul_lt_mul''→MZ,div_le_self→Nh,mul_comm→Nj,le_add_right→Nr,gcd_pos_of_pos_right→Nv,mul_ne_zero→NC,min_le_right→NQ,dvd_lcm_left→NS,log2_le_self→NU,div_le_of_le_mul→NY,zero_add→Oj,max_le→Ov,dvd_lcm_right→Oy,le_mul_of_pos_right→OB,pow_pos→OC,lcm_pos→OE,le_max_right→OF,le_max_left→ON,not_lt_zero→OS,lt_trans→OU,mod_add_mod→OW,pow_lt_pow_right→OZ,mul_le_mul→Pb,log2_lt→Pd,pos_iff_ne_zero→Pe,mul_le_mul_left→Ph,mul_pos→Pj,eq_zero_or_pos→Pp,one_lt_two_pow→Pu,mul_assoc→Pw,pos_of_ne_zero→Py,mod_eq_sub_mod→Pz,gcd_zero_right→PD,gcd_dvd_right→PK,le_of_eq→PL,gcd_comm→PM,min_le_left→Qe,two_pow_pos→Qi,one_mul→Qm,lcm→Qs
open Rat renaming mul_nonneg→LC,intCast_mul→LI,intCast_natCast→LZ,divInt→Mf,div_mul_cancel→Mm,num_divInt_den→Mq,natCast_mul→Mt,mul_pos→MC,num_eq_zero→MR,intCast_sub→MT,divInt_nonneg_iff_of_pos_right→Nw,intCast_neg→NB,intCast_add→ND,divInt_mul_divInt→NL,mul_comm→NM,zero_mul→NP,divInt_mul_right→NW,le_refl→Od,neg_mul→Oe,intCast_inj→Of,mul_zero→Oi,num_nonneg→Oq,divInt_eq_div→Ow,neg_num→OA,neg_neg→OD,intCast_le_intCast→OK,divInt_add_divInt→OP,add_zero→OT,neg_den→Pf,div_def→Pm,sub_eq_add_neg→Pq,mul_div_cancel→PB,num_intCast→Qg,den_intCast→Qh
open Bool renaming false_ne_true→LN,and_eq_true→MY,eq_iff_iff→Ny,false_eq_true→Nz,and_false→Ot,true_and→Pr,noConfusion→PX,false_and→Qn
open Classical renaming propDecidable→Mg
open Option renaming getD_none→PR
set_option compiler.extract_closed false
set_option Elab.async false
set_option linter.all false
set_option maxRecDepth 100000
section
namespace L2
open PySem PySem.Spec PyProof.Rows
noncomputable abbrev Key:=Sum Int Str
noncomputable def BK:Key→Value→Bool
 | .inl k,v=>Value.isInt k v
 | .inr x,v=>Value.isStrOf x v
noncomputable def Ia(w:World):Key→Int
 | .inl k=>hashInt k
 | .inr x=>hashStr w x
theorem w6:∀{k:Key} {v:Value},BK k v=true→(∃ i t,k=Sum.inl i∧v=Value.int i t)∨(∃ x t,k=Sum.inr x∧v=Value.str x t)
 | .inl i,v,h=>by
  obtain⟨t,e⟩:=Value.isInt_shape (k:=i) (v:=v) h
  exact .inl ⟨i,t,rfl,e⟩
 | .inr x,v,h=>by
  obtain⟨t,e⟩:=Value.isStrOf_shape (x:=x) (v:=v) h
  exact .inr ⟨x,t,rfl,e⟩
theorem Ed(a b:Int):decide ((Sum.inl a:Key)=Sum.inl b)=(a == b):=by
 by_cases e:a=b
 ·subst e;simp
 ·have h:¬ (Sum.inl a:Key)=Sum.inl b:=fun q=>e (Sum.inl.inj q)
  rw[decide_eq_false h]
  exact(beq_eq_false_iff_ne.mpr e).symm
theorem Ea(a b:Str):decide ((Sum.inr a:Key)=Sum.inr b)=decide (a=b):=by
 by_cases e:a=b
 ·subst e;simp
 ·have h:¬ (Sum.inr a:Key)=Sum.inr b:=fun q=>e (Sum.inr.inj q)
  rw[decide_eq_false h,decide_eq_false e]
theorem Ec(a:Int)(b:Str):decide ((Sum.inl a:Key)=Sum.inr b)=false:=decide_eq_false (fun q=>nomatch q)
theorem Eb(a:Str)(b:Int):decide ((Sum.inr a:Key)=Sum.inl b)=false:=decide_eq_false (fun q=>nomatch q)
noncomputable def qD(prog:Program)(w:World):PySem.KeyKind prog w Key where
 is:=BK
 hash:=Ia w
 inj:=fun v a b ha hb=>by
  rcases w6 ha with⟨i,t,rfl,rfl⟩|⟨x,t,rfl,rfl⟩
  ·rcases w6 hb with⟨j,u,rfl,e⟩|⟨y,u,rfl,e⟩
   ·injection e with e1 _;rw[e1]
   ·exact nomatch e
  ·rcases w6 hb with⟨j,u,rfl,e⟩|⟨y,u,rfl,e⟩
   ·exact nomatch e
   ·injection e with e1 _;rw[e1]
 byValue:=fun k v h=>by
  rcases w6 h with⟨i,t,rfl,rfl⟩|⟨x,t,rfl,rfl⟩<;>rfl
 pyHash:=fun hv h=>by
  rcases w6 hv with⟨i,t,rfl,rfl⟩|⟨x,t,rfl,rfl⟩
  ·exact wpAny_pyHash_int h
  ·exact wpAny_pyHash_str h
 eqBool:=fun hu hv h=>by
  rcases w6 hu with⟨i,t,rfl,rfl⟩|⟨x,t,rfl,rfl⟩
  ·rcases w6 hv with⟨j,u,rfl,rfl⟩|⟨y,u,rfl,rfl⟩
   ·rw[Ed]at h;exact wpAny_eqBool_int h
   ·rw[Ec]at h;exact SeqAt.EqAt.int_str i t y u _ _ _ _ h
  ·rcases w6 hv with⟨j,u,rfl,rfl⟩|⟨y,u,rfl,rfl⟩
   ·rw[Eb]at h;exact SeqAt.EqAt.str_int x t j u _ _ _ _ h
   ·rw[Ea]at h;exact wpAny_eqBool_str h
 «strs»:=fun k x t v h=>by
  rcases w6 h with⟨i,u,rfl,e⟩|⟨y,u,rfl,e⟩
  ·exact nomatch e
  ·injection e with e1 _
   subst e1
   cases v<;>rfl
inductive V where
 | non|bl (b:Bool)|int (i:Int)|str (x:Str)|byt (b:Array UInt8)|flt (b:UInt64)|ref (a:Addr)|ty (n:String)
 deriving DecidableEq
noncomputable def j7:V→Value→Prop
 | .non,u=>u=Value.none
 | .bl b,u=>u=Value.bool b
 | .int i,u=>∃ t,u=Value.int i t
 | .str x,u=>∃ t,u=Value.str x t
 | .byt b,u=>∃ t,u=Value.bytes b t
 | .flt b,u=>∃ t,u=Value.float b t
 | .ref a,u=>u=Value.ref a
 | .ty n,u=>u=Value.type n
noncomputable abbrev i7:List V→List Value→Prop:=Paired j7
theorem i7.length{xs:List V}{us:List Value}(r:i7 xs us):xs.length=us.length:=Paired.length r
theorem i7.get:∀{xs:List V} {us:List Value} {i:Nat} {x:V},i7 xs us→xs[i]? = some x→∃ u,us[i]? = some u∧j7 x u
 | _,_,_,_,.nil,e=>by simp at e
 | _,_,0,_,.cons r _,e=>by simp at e;subst e;exact⟨_,rfl,r⟩
 | _,_,i+1,x,.cons _ t,e=>by
  obtain⟨u,h1,h2⟩:=i7.get (i:=i) (x:=x) t (by simpa using e)
  exact⟨u,by simpa using h1,h2⟩
theorem i7.set{x:V}{u:Value}(r:j7 x u):∀{xs:List V} {us:List Value} (i:Nat),i7 xs us→i7 (xs.set i x) (us.set i u)
 | _,_,_,.nil=>.nil
 | _,_,0,.cons _ t=>.cons r t
 | _,_,i+1,.cons q t=>.cons q (i7.set r i t)
theorem i7.append:∀{xs ys:List V} {us ws:List Value},i7 xs us→i7 ys ws→i7 (xs++ys) (us++ws)
 | _,_,_,_,.nil,s=>s
 | _,_,_,_,.cons r t,s=>.cons r (i7.append t s)
theorem i7.take:∀{xs:List V} {us:List Value} (n:Nat),i7 xs us→i7 (xs.take n) (us.take n)
 | _,_,0,_=>.nil
 | _,_,_+1,.nil=>.nil
 | _,_,n+1,.cons r t=>.cons r (i7.take n t)
theorem i7.drop:∀{xs:List V} {us:List Value} (n:Nat),i7 xs us→i7 (xs.drop n) (us.drop n)
 | _,_,0,r=>r
 | _,_,_+1,.nil=>.nil
 | _,_,n+1,.cons _ t=>i7.drop n t
noncomputable def EG:Option V→Option Value→Prop
 | some v,some u=>j7 v u
 | none,none=>True
 | _,_=>False
noncomputable def KV{κ:Type}:List (κ × V)→List (κ × Value)→Prop:=Paired fun(p:κ × V) (q:κ × Value)=>p.1=q.1∧j7 p.2 q.2
noncomputable def kV:Key→V
 | .inl i=>.int i
 | .inr x=>.str x
inductive HO where
 | lst (xs:List V)
 | tup (xs:List V)
 | dK (kvs:List (Key × V))|dT (kvs:List (List Key × V))
 | set (S:Int→Bool) (n:Nat)
 | ins (C dx:Addr) (fs:List (Str × V))
 | own (x:Addr)
 | xd (fs:List (Str × V))
 | met (f x:Addr)
 | rng (lo hi:Int)
 | frz (o:Obj) (u:HO)
 | tbl (ps:Array Value)
 | ext (φ:Heap→Prop)
noncomputable abbrev Hp:=Addr→Option HO
noncomputable def upd(H:Hp)(a:Addr)(o:HO):Hp:=fun b=>if b=a then some o else H b
theorem i8{H:Hp}{a:Addr}{o:HO}:upd H a o a=some o:=by unfold upd;rw[if_pos rfl]
theorem g8{H:Hp}{a b:Addr}{o:HO}(h:b≠a):upd H a o b=H b:=by unfold upd;rw[if_neg h]
theorem aj{H:Hp}{a:Addr}{o u:HO}:upd (upd H a o) a u=upd H a u:=by
 funext b;unfold upd;split<;>rfl
theorem D5{H:Hp}{a b:Addr}{o:HO}(h:H a=some o)(h':H b=none):a≠b:=by
 intro e;subst e;rw[h]at h';cases h'
section
variable (P:Program) (w:World)
noncomputable def B4(H:Hp)(h:Heap)(a:Addr):HO→Prop
 | .lst xs=>xs.length≤sizeLine∧∃(its:List Value) (n:Nat),i7 xs its∧h.get? a=some { cls:=.type "list",data:=.seq its.toArray n }
 | .tup xs=>xs.length≤sizeLine∧∃ its:List Value,i7 xs its∧IsTup h a its.toArray
 | .dK kvs=>kvs.length≤sizeLine∧(a == sysModules)=false∧∃ vs,KV kvs vs∧h.DictOf (qD P w) a vs
 | .dT kvs=>kvs.length≤sizeLine∧(a == sysModules)=false∧∃ xs:List (List Key × Addr × Value),
   Paired (fun(p:List Key × V) (q:List Key × Addr × Value)=>p.1=q.1∧H q.2.1=some (.tup (p.1.map kV))∧j7 p.2 q.2.2) kvs xs ∧
   ∃ o es ep,h.get? a=some o∧o.ExactDict∧o.data = .dict es ep∧es.toList=xs.map (entryOfKey (tupleKind (qD P w)))∧(xs.map (·.1)).Nodup
 | .set S n=>h.SetOf (intKind P w) a S n
 | .ins C dx fs=>H dx=some (.own a)∧fs.length≤1000∧dx≠a∧h.get? a=some (PySem.W.instObj C dx) ∧
   ∃ mA,h.Ns1 dx mA∧(∀ f,EG (fs.lookup f) (mA f))∧PySem.Within mA (fs.map (·.1))
 | .own _=>∃ o,h.get? a=some o
 | .xd fs=>∃ mA,h.Ns1 a mA∧∀ f,EG (fs.lookup f) (mA f)
 | .rng lo hi=>∃ t u v,h.get? a=some { cls:=.type "range",data:=.fields #[.int lo t,.int hi u,.int 1 v] }
 | .frz o u=>h.get? a=some o∧B4 H h a u
 | .tbl ps=>h.get? a=some { cls:=.none,data:=.fields ps }
 | .met f x=>h.get? a=some (PySem.W.methodObj (.ref f) (.ref x))
 | .ext φ=>φ h∧(∃ o,h.get? a=some o)∧∀ h1 h2:Heap,φ h1→(∀ o,h1.get? a=some o→h2.get? a=some o)→φ h2
def HOk(H:Hp)(h:Heap):Prop:=∀ a o,H a=some o→B4 P w H h a o
end
section
variable {P:Program} {w:World} {H H':Hp} {h h':Heap} {a:Addr} {o:HO}
theorem B4.lt(x:B4 P w H h a o):a<h.objs.size:=by
 cases o with
 | lst xs=>obtain⟨_,_,_,_,e⟩:=x;exact LD e
 | tup xs=>obtain⟨_,_,_,p⟩:=x;exact p.lt
 | dK kvs=>obtain⟨_,_,_,_,o,_,_,e,_⟩:=x;exact LD e
 | dT kvs=>obtain⟨_,_,_,_,o,_,_,e,_⟩:=x;exact LD e
 | set S n=>obtain⟨o,_,_,_,e,_⟩:=x;exact LD e
 | ins C dx fs=>obtain⟨_,_,_,e,_⟩:=x;exact LD e
 | own y=>obtain⟨_,e⟩:=x;exact LD e
 | xd fs=>obtain⟨_,⟨_,_,_,e,_⟩,_⟩:=x;exact LD e
 | rng lo hi=>obtain⟨_,_,_,e⟩:=x;exact LD e
 | frz ob u=>obtain⟨e,_⟩:=x;exact LD e
 | tbl ps=>exact LD (show h.get? a=some _ from x)
 | met f y=>exact LD (show h.get? a=some _ from x)
 | ext φ=>obtain⟨_,⟨_,e⟩,_⟩:=x;exact LD e
theorem Paired.mapP{α β:Type}{F G:α→β→Prop}:∀{l₁:List α} {l₂:List β},Paired F l₁ l₂→(∀ a b,F a b→G a b)→Paired G l₁ l₂
 | _,_,.nil,_=>.nil
 | _,_,.cons r t,f=>.cons (f _ _ r) (Paired.mapP t f)
theorem B4.stay(x:B4 P w H h a o)(k:∀ b u,(b=a∨H b=some (.own a))→h.get? b=some u→h'.get? b=some u)
  (ho:∀ b,H b=some (.own a)→H' b=some (.own a)) (ht:∀ b xs,H b=some (.tup xs)→H' b=some (.tup xs)):B4 P w H' h' a o:=by
 induction o with
 | lst xs=>obtain⟨z,its,n,r,e⟩:=x;exact⟨z,its,n,r,k _ _ (.inl rfl) e⟩
 | tup xs=>obtain⟨z,its,r,ob,e,c⟩:=x;exact⟨z,its,r,ob,k _ _ (.inl rfl) e,c⟩
 | dK kvs=>obtain⟨z,y,vs,r,ob,es,ep,e,c⟩:=x;exact⟨z,y,vs,r,ob,es,ep,k _ _ (.inl rfl) e,c⟩
 | dT kvs =>
  obtain⟨z,y,xs,r,ob,es,ep,e,c⟩:=x
  exact⟨z,y,xs,Paired.mapP r fun p q z=>⟨z.1,ht _ _ z.2.1,z.2.2⟩,ob,es,ep,k _ _ (.inl rfl) e,c⟩
 | set S n=>obtain⟨ob,es,ep,t,e,c⟩:=x;exact⟨ob,es,ep,t,k _ _ (.inl rfl) e,c⟩
 | ins C dx fs =>
  obtain⟨d,z,ne,e,mA,⟨od,es,ep,e2,c⟩,r⟩:=x
  exact⟨ho _ d,z,ne,k _ _ (.inl rfl) e,mA,⟨od,es,ep,k _ _ (.inr d) e2,c⟩,r⟩
 | own y=>obtain⟨ob,e⟩:=x;exact⟨ob,k _ _ (.inl rfl) e⟩
 | xd fs=>obtain⟨mA,⟨od,es,ep,e,c⟩,r⟩:=x;exact⟨mA,⟨od,es,ep,k _ _ (.inl rfl) e,c⟩,r⟩
 | rng lo hi=>obtain⟨t,u,v,e⟩:=x;exact⟨t,u,v,k _ _ (.inl rfl) e⟩
 | frz ob u ih=>obtain⟨e,q⟩:=x;exact⟨k _ _ (.inl rfl) e,ih q⟩
 | tbl ps =>
  have e:h.get? a=some { cls:=.none,data:=.fields ps }:=x
  show h'.get? a=some { cls:=.none,data:=.fields ps }
  exact k a _ (.inl rfl) e
 | met f y =>
  have e:h.get? a=some (PySem.W.methodObj (.ref f) (.ref y)):=x
  show h'.get? a=some (PySem.W.methodObj (.ref f) (.ref y))
  exact k a _ (.inl rfl) e
 | ext φ=>obtain⟨p,⟨o,e⟩,st⟩:=x;exact⟨st _ _ p fun o q=>k _ _ (.inl rfl) q,⟨o,k _ _ (.inl rfl) e⟩,st⟩
theorem HOk.lt(x:HOk P w H h)(e:H a=some o):a<h.objs.size:=(x a o e).lt
theorem HOk.fresh(x:HOk P w H h)(e:h.objs.size≤a):H a=none:=by
 cases q:H a with
 | none=>rfl
 | some u=>exact absurd (Lw (x.lt q) e) (MN _)
theorem HOk.kept(x:HOk P w H h)(k:∀ b u,h.get? b=some u→h'.get? b=some u):HOk P w H h':=fun a o e =>
 (x a o e).stay (fun b u _ q=>k b u q) (fun _ q=>q) fun _ _ q=>q
theorem HOk.laid(x:HOk P w H h)(k:∀ b u,h.get? b=some u→h'.get? b=some u)(hp:h.objs.size≤a)(new:B4 P w (upd H a o) h' a o):HOk P w (upd H a o) h':=fun b u e=>by
 have hn:=x.fresh hp
 by_cases hb:b=a
 ·subst hb;rw[i8]at e;cases e;exact new
 ·rw[g8 hb]at e
  exact(x b u e).stay (fun c v _ q=>k c v q) (fun c q=>by rw[g8 (D5 q hn)];exact q) fun c xs q=>by rw[g8 (D5 q hn)];exact q
end
def Rd(H:Hp)(a:Addr)(u:HO):Prop:=H a=some u ∨ ∃ o,H a=some (.frz o u)
theorem Rd.of{H:Hp}{a:Addr}{u:HO}(h:H a=some u):Rd H a u:=.inl h
theorem Rd.ok{P:Program}{w:World}{H:Hp}{h:Heap}{a:Addr}{u:HO}(r:Rd H a u)(x:HOk P w H h):B4 P w H h a u:=by
 rcases r with r|⟨o,r⟩
 ·exact x a u r
 ·obtain⟨_,q⟩:=x a _ r
  exact q
noncomputable def Mut:Option HO→Prop
 | some (.lst _)=>True
 | some (.dK _)=>True
 | some (.dT _)=>True
 | some (.set _ _)=>True
 | some (.ins _ _ _)=>True
 | some (.ext _)=>True
 | _=>False
section
variable {P:Program} {w:World} {H:Hp} {h h':Heap} {x e:Addr} {o':HO}
theorem HOk.write(ok:HOk P w H h)(mu:Mut (H x))(he:e=x∨H e=some (.own x))(k:∀ b u,b≠e→h.get? b=some u→h'.get? b=some u)(heo:∃ u,h'.get? e=some u)
  (new:B4 P w (upd H x o') h' x o'):HOk P w (upd H x o') h':=fun b u q=>by
 have nown:∀ c y,H c=some (.own y)→c≠x:=fun c y r z=>by subst z;rw[r]at mu;exact mu
 have ntup:∀ c xs,H c=some (.tup xs)→c≠x:=fun c xs r z=>by subst z;rw[r]at mu;exact mu
 by_cases hb:b=x
 ·subst hb;rw[i8]at q;cases q;exact new
 ·rw[g8 hb]at q
  by_cases hbe:b=e
  ·have q':H b=some (.own x):=by
    rcases he with z|z
    ·exact absurd (hbe.trans z) hb
    ·rw[hbe];exact z
   rw[q]at q';cases q'
   obtain⟨v,hv⟩:=heo
   exact⟨v,by rw[hbe];exact hv⟩
  ·refine(ok b u q).stay (fun c v hc r=>k c v ?_ r) (fun c r=>by rw[g8 (nown c b r)];exact r) fun c xs r=>by rw[g8 (ntup c xs r)];exact r
   rcases hc with rfl|hc
   ·exact hbe
   ·rintro rfl
    rcases he with z|z
    ·exact nown c b hc z
    ·rw[hc]at z;cases z;exact hb rfl
end
structure Un(fs ex:List Addr)(H H':Hp)(h h':Heap):Prop where
 keep:∀ b o,h.get? b=some o→H b=none→b∉fs→b∉ex→h'.get? b=some o
 slot:∀ b o,h.get? b=some o→H b=none→b∈fs→b∉ex→∃ sl,h'.get? b=some { o with slots:=sl }
 free:∀ b o,h.get? b=some o→H b=none→b∉ex→H' b=none
 there:∀ b o,h.get? b=some o→b∉ex→∃ o',h'.get? b=some o'
 tups:∀ b xs,H b=some (.tup xs)→H' b=some (.tup xs)
 frzs:∀ b o u,H b=some (.frz o u)→H' b=some (.frz o u)
 tbls:∀ b ps,H b=some (.tbl ps)→∃ more,H' b=some (.tbl (ps++more))
section
variable {fs fs' ex ex':List Addr} {H H1 H2:Hp} {h h1 h2 h':Heap} {a x e:Addr} {o:HO}
theorem Un.any(u:Un fs ex H H1 h h1){b:Addr}{ob:Obj}(q:h.get? b=some ob)(n:H b=none)(hx:b∉ex):∃ sl,h1.get? b=some { ob with slots:=sl }:=by
 by_cases hb:b∈fs
 ·exact u.slot b ob q n hb hx
 ·exact⟨ob.slots,u.keep b ob q n hb hx⟩
theorem Un.trans(a:Un fs ex H H1 h h1)(b:Un fs ex H1 H2 h1 h2):Un fs ex H H2 h h2 where
 keep:=fun c ob q n hc hx=>b.keep c ob (a.keep c ob q n hc hx) (a.free c ob q n hx) hc hx
 slot:=fun c ob q n hc hx=>by
  obtain⟨sl,e1⟩:=a.slot c ob q n hc hx
  obtain⟨sl',e2⟩:=b.slot c _ e1 (a.free c ob q n hx) hc hx
  exact⟨sl',e2⟩
 free:=fun c ob q n hx=>by
  obtain⟨o',e1⟩:=a.there c ob q hx
  exact b.free c o' e1 (a.free c ob q n hx) hx
 there:=fun c ob q hx=>by
  obtain⟨o',e1⟩:=a.there c ob q hx
  exact b.there c o' e1 hx
 tups:=fun c xs q=>b.tups c xs (a.tups c xs q)
 frzs:=fun c ob xs q=>b.frzs c ob xs (a.frzs c ob xs q)
 tbls:=fun c ps q=>by
  obtain⟨m1,e1⟩:=a.tbls c ps q
  obtain⟨m2,e2⟩:=b.tbls c _ e1
  exact⟨m1++m2,by rw[e2,Array.append_assoc]⟩
theorem Un.kept(k:∀ b u,h.get? b=some u→h'.get? b=some u):Un fs ex H H h h' :=
 ⟨fun b ob q _ _ _=>k b ob q,fun b ob q _ _ _=>⟨ob.slots,k b ob q⟩,fun _ _ _ n _=>n,fun b ob q _=>⟨ob,k b ob q⟩,fun _ _ q=>q,fun _ _ _ q=>q,fun _ ps q=>⟨#[],by rw[q];simp⟩⟩
theorem Un.refl:Un fs ex H H h h:=Un.kept fun _ _ q=>q
theorem Un.laid(k:∀ b u,h.get? b=some u→h'.get? b=some u)(hp:h.objs.size≤a)(hn:H a=none):Un fs ex H (upd H a o) h h' where
 keep:=fun b u q _ _ _=>k b u q
 slot:=fun b u q _ _ _=>⟨u.slots,k b u q⟩
 free:=fun b u q n _=>by rw[g8 (Md (Lw (LD q) hp))];exact n
 there:=fun b u q _=>⟨u,k b u q⟩
 tups:=fun b xs q=>by rw[g8 (D5 q hn)];exact q
 frzs:=fun b u xs q=>by rw[g8 (D5 q hn)];exact q
 tbls:=fun b ps q=>⟨#[],by rw[g8 (D5 q hn),q];simp⟩
theorem Un.write(mu:Mut (H x))(he:e=x∨H e=some (.own x))(k:∀ b u,b≠e→h.get? b=some u→h'.get? b=some u)(heo:∃ u,h'.get? e=some u):Un fs ex H (upd H x o) h h':=by
 have hx:∀ b,H b=none→b≠x:=fun b n z=>by subst z;rw[n]at mu;exact mu
 have hb:∀ b,H b=none→b≠e:=fun b n z=>by
  subst z
  rcases he with r|r
  ·exact hx b n r
  ·rw[n]at r;cases r
 have hm:∀ b u,H b=some u→¬ Mut (some u)→b≠x:=fun b u q nm z=>by subst z;rw[q]at mu;exact nm mu
 refine⟨fun b u q n _ _=>k b u (hb b n) q,fun b u q n _ _=>⟨u.slots,k b u (hb b n) q⟩,fun b u q n _=>by rw[g8 (hx b n)];exact n,fun b u q _=>?_,
  fun b xs q=>by rw[g8 (hm b _ q fun z=>z)];exact q,fun b u xs q=>by rw[g8 (hm b _ q fun z=>z)];exact q,fun b ps q=>⟨#[],by rw[g8 (hm b _ q fun z=>z),q];simp⟩⟩
 by_cases hbe:b=e
 ·subst hbe;exact heo
 ·exact⟨u,k b u hbe q⟩
theorem Un.mono(u:Un fs ex H H1 h h1)(hs:∀ b∈fs,b∈fs')(hx:∀ b∈ex,b∈ex'):Un fs' ex' H H1 h h1 :=
 ⟨fun b ob q n hb he=>u.keep b ob q n (fun z=>hb (hs b z)) fun z=>he (hx b z),fun _ _ q n _ he=>u.any q n fun z=>he (hx _ z),fun b ob q n he=>u.free b ob q n fun z=>he (hx b z),fun b ob q he=>u.there b ob q fun z=>he (hx b z),u.tups,u.frzs,u.tbls⟩
end
noncomputable def trk(h:Heap)(H:Hp):List Addr:=(MJ h.objs.size).filter fun a=>(H a).isSome
noncomputable def jW(h:Heap)(H:Hp):Heap:=PySem.W.hideAll h (trk h H)
theorem sI(h:Heap)(H:Hp):(jW h H).objs.size=h.objs.size:=PySem.W.hideAll_size _ _
theorem wM{h:Heap}{H:Hp}{b:Addr}{o:Obj}(e:h.get? b=some o)(n:H b=none):(jW h H).get? b=some o :=
 PySem.W.hideAll_get _ e fun hm=>by
  have q:(H b).isSome=true:=(Qa.mp hm).2
  rw[n]at q;simp at q
theorem zV{h:Heap}{H:Hp}{b:Addr}{o:Obj}(e:(jW h H).get? b=some o):h.get? b=some o∧H b=none:=by
 have e':h.get? b=some o:=PySem.W.of_hideAll (trk h H) e
 refine⟨e',?_⟩
 cases q:H b with
 | none=>rfl
 | some x =>
  have hm:b∈trk h H:=Qa.mpr ⟨Ol.mpr (LD e'),by simp[q]⟩
  have z:(jW h H).get? b=none:=PySem.W.hideAll_none (trk h H) hm
  rw[z]at e;cases e
noncomputable def dg(g h:Heap)(L:Addr):List (Addr × Obj):=(MJ h.objs.size).filterMap fun a=>if a=L∨(g.get? a).isSome=true then none else(h.get? a).map fun o=>(a,o)
theorem T8{g h:Heap}{L a:Addr}{o:Obj}(h1:a≠L)(h2:g.get? a=none)(h3:h.get? a=some o):(a,o)∈dg g h L :=
 Nx.mpr ⟨a,Ol.mpr (LD h3),by simp[h1,h2,h3]⟩
theorem eT{g h:Heap}{L:Addr}{p:Addr × Obj}(hp:p∈dg g h L):p.1≠L∧g.get? p.1=none∧h.get? p.1=some p.2:=by
 obtain⟨b,_,e⟩:=Nx.mp hp
 split at e
 ·cases e
 ·rename_i hn
  cases q:h.get? b with
  | none=>rw[q]at e;simp at e
  | some u =>
   rw[q]at e
   simp only[Option.map_some,Option.some.injEq]at e
   subst e
   refine⟨fun z=>hn (.inl z),?_,q⟩
   show g.get? b=none
   cases r:g.get? b with
   | none=>rfl
   | some v=>exact(hn (.inr (by simp[r]))).elim
noncomputable def E4(g h:Heap)(L d:Addr):List (Addr × Obj):=(dg g h L).filter fun p=>decide (p.1≠d)
theorem wt{g h:Heap}{L:Addr}:News g L h (dg g h L):=fun p hp=>let ⟨a,b,c⟩:=eT hp;⟨c,a,b⟩
structure Mod(K:Lo)(mg:Str→Option Value)(base:Heap):Prop where
 kin:K.In base
 glob:base.Ns mainGlobals mg
 blt:∃ mb,base.Ns builtinsNs mb∧∀ x:Str,x ≠ "__name__" → mb x=bootBuiltins x
 nolimit:base.NoLimit
structure Cx where
 prog:Program
 w:World
 K:Lo
 mg:Str→Option Value
 base:Heap
 A:Around
 N:List Str
 s₀:Shared
 H₀:Hp
 env:Env
 outer:List Env
 stack:List Env
 ex:List Addr
 fn:Str→Bool
 calm:Bool
 pn:List (Addr × Obj)
 xe:Value→Shared→Prop
noncomputable def frs(l:List Env):List Addr:=l.filterMap (·.frame)
noncomputable abbrev Cx.fs(X:Cx):List Addr:=frs X.outer
def Vis(sc:Scope)(x:Str):Prop:=sc.names.lookup x=some .local∨sc.names.lookup x=some .cell∨sc.names.lookup x=some .free
def Loc(sc:Scope)(x:Str):Prop:=sc.names.lookup x=some .local∨sc.names.lookup x=some .cell
def Ir(env:Env)(h:Heap)(m:Str→Option Value)(x:Str)(u:Value):Prop :=
 (env.kindOf x=some .local∧m x=some u)∨((env.kindOf x=some .cell∨env.kindOf x=some .free)∧∃ c,env.cells.lookup x=some c∧h.IsCell c (some u))
structure Cx.Ok(X:Cx):Prop where
 mod:Mod X.K X.mg X.base
 kind:X.env.scope.kind = .function
 glob:X.env.globals=mainGlobals
 blt:X.env.builtins=builtinsNs
 above:X.s₀.heap.objs.size≤X.env.locals
 inj:∀ x y c,X.env.cells.lookup x=some c→X.env.cells.lookup y=some c→x=y
 has:∀ x,(X.env.kindOf x=some .cell∨X.env.kindOf x=some .free)→∃ c,X.env.cells.lookup x=some c
 cab:∀ x c,X.fn x=true→X.env.cells.lookup x=some c→X.s₀.heap.objs.size≤c
 hd:X.calm=true→X.A.handled=none
 frames:X.A.frames=some X.stack
 stk:X.stack=X.outer∨(X.stack=X.env :: X.outer∧X.env.frame=some X.env.locals)
 exf:∀ b∈X.ex,b≠X.env.locals∧∀ x c,X.env.cells.lookup x=some c→c≠b
 bs:∀ b o,X.base.get? b=some o→X.s₀.heap.get? b=some o∧X.H₀ b=none
 bsz:X.base.objs.size≤X.s₀.heap.objs.size
 noex:∀ b o,X.base.get? b=some o→b∉X.ex
 exfs:∀ b∈X.ex,b∉X.fs
 funs:X.s₀.heap.FunFrames X.base X.outer
 frf:∀ b∈X.fs,X.H₀ b=none
structure Inv(X:Cx)(pins:List (Addr × Obj))(σ:List (Option V))(H:Hp)(s:Shared):Prop where
 ok:X.Ok
 os:s.os=X.s₀.os
 bare:AllBare s.gens
 base:Un X.fs X.ex X.H₀ H X.s₀.heap s.heap
 loc:∃ m,s.heap.Ns X.env.locals m∧∀(i:Nat) (x:Str) (v:V),X.N[i]? = some x→σ[i]? = some (some v)→Vis X.env.scope x→∃ u,j7 v u∧Ir X.env s.heap m x u
 cell:∀ x c,X.env.cells.lookup x=some c→∃ v,s.heap.IsCell c v
 free:H X.env.locals=none
 freeC:∀ x c,X.env.cells.lookup x=some c→H c=none
 pin:∀ p∈X.pn++pins,s.heap.get? p.1=some p.2∧H p.1=none∧p.1≠X.env.locals∧p.1∉X.fs∧∀ v,p.2.data ≠ .cell v
 hok:HOk X.prog X.w H s.heap
 len:σ.length=X.N.length
section
variable {X:Cx} {pins:List (Addr × Obj)} {σ:List (Option V)} {H H':Hp} {s:Shared} {h':Heap}
theorem Cx.Ok.nofr(ok:X.Ok){b:Addr}{o:Obj}(e:X.base.get? b=some o):b∉X.fs:=fun hb=>by
 have:=(ok.funs.mem hb).1
 rw[e]at this;cases this
theorem Inv.bs(I:Inv X pins σ H s):∀ b o,X.base.get? b=some o→s.heap.get? b=some o∧H b=none:=fun b o e =>
 ⟨I.base.keep b o (I.ok.bs b o e).1 (I.ok.bs b o e).2 (I.ok.nofr e) (I.ok.noex b o e),I.base.free b o (I.ok.bs b o e).1 (I.ok.bs b o e).2 (I.ok.noex b o e)⟩
theorem Inv.bk(I:Inv X pins σ H s):∀ b o,X.base.get? b=some o→s.heap.get? b=some o:=fun b o e=>(I.bs b o e).1
theorem Inv.mod(I:Inv X pins σ H s):Mod X.K X.mg X.base:=I.ok.mod
theorem Inv.kIn(I:Inv X pins σ H s):X.K.In s.heap:=I.ok.mod.kin.keeps I.bk
theorem Inv.nolimit(I:Inv X pins σ H s):s.heap.NoLimit:=I.ok.mod.nolimit.keeps I.bk
theorem Inv.fr(I:Inv X pins σ H s):∃ m,Fr X.base X.env.locals s.heap m :=
 let ⟨m,hn,_⟩:=I.loc
 ⟨m,hn,I.bk,LB I.ok.bsz I.ok.above⟩
theorem Inv.lt(I:Inv X pins σ H s):X.env.locals<s.heap.objs.size:=let ⟨_,hn,_⟩:=I.loc;hn.lt
theorem Inv.sz(I:Inv X pins σ H s):X.s₀.heap.objs.size≤s.heap.objs.size:=LB I.ok.above (ME I.lt)
theorem Inv.nofs(I:Inv X pins σ H s){a:Addr}(h:s.heap.objs.size≤a):a∉X.fs:=fun hb=>by
 obtain⟨_,o,ho,_⟩:=I.ok.funs.mem hb
 exact absurd (Lw (LD ho) (LB I.sz h)) (MN _)
theorem Inv.cne(I:Inv X pins σ H s):∀ x c,X.env.cells.lookup x=some c→c≠X.env.locals:=fun x c e z=>by
 obtain⟨v,o,ho,hd⟩:=I.cell x c e
 obtain⟨m,⟨o',es,ep,ho',hd',_⟩,_⟩:=I.loc
 rw[z,ho']at ho;cases ho;rw[hd']at hd;cases hd
theorem Inv.funs(I:Inv X pins σ H s):s.heap.FunFrames X.base X.outer:=by
 have all:∀(l:List Env),(∀ b∈frs l,b∈X.fs)→X.s₀.heap.FunFrames X.base l→s.heap.FunFrames X.base l:=by
  intro l
  induction l with
  | nil=>intro _ _;trivial
  | cons env r ih =>
   intro hs hl
   obtain⟨hk,⟨L,o,hf,hn,ho,hd⟩,hr⟩:=hl
   have hL:L∈X.fs:=hs L (by unfold frs;rw[NZ,hf];exact Ly)
   obtain⟨sl,e⟩:=I.base.slot L o ho (I.ok.frf L hL) hL fun z=>I.ok.exfs L z hL
   exact⟨hk,⟨L,_,hf,hn,e,hd⟩,ih (fun b hb=>hs b (by unfold frs;rw[NZ,hf];exact Ls _ hb)) hr⟩
 exact all X.outer (fun _ hb=>hb) I.ok.funs
theorem Inv.stack(I:Inv X pins σ H s):s.heap.FunFrames X.base X.stack:=by
 rcases I.ok.stk with e|⟨e,hf⟩
 ·rw[e];exact I.funs
 ·rw[e]
  obtain⟨m,hn,_⟩:=I.loc
  refine .cons (by rw[I.ok.kind];decide) hf hn ?_ I.funs
  exact Heap.get?_none_of_le (LB I.ok.bsz I.ok.above)
theorem Inv.stkSub(I:Inv X pins σ H s):∀ b∈frs X.stack,b∈X.env.locals :: X.fs:=fun b hb=>by
 rcases I.ok.stk with e|⟨e,hf⟩
 ·rw[e]at hb;exact Ls _ hb
 ·rw[e]at hb
  unfold frs at hb
  rw[NZ,hf]at hb
  exact hb
theorem Inv.stkFree(I:Inv X pins σ H s):∀ b∈frs X.stack,H b=none:=fun b hb=>by
 rcases Lz.mp (I.stkSub b hb)with e|hb
 ·rw[e];exact I.free
 ·obtain⟨_,o,ho,_⟩:=I.ok.funs.mem hb
  exact I.base.free b o ho (I.ok.frf b hb) fun z=>I.ok.exfs b z hb
theorem Inv.step{g':Array GenState}{t':Nat}{d':Drawn}{ch:List Addr}(I:Inv X pins σ H s)
  (hch:∀ b∈ch,(b∈X.ex∨X.s₀.heap.objs.size≤b)∧b≠X.env.locals∧(∀ x c,X.env.cells.lookup x=some c→c≠b)∧∀ p∈X.pn++pins,p.1≠b)
  (keep:∀ b o,b≠X.env.locals→b∉X.fs→b∉ch→s.heap.get? b=some o→H b=none→h'.get? b=some o)
  (slot:∀ b o,b≠X.env.locals→b∈X.fs→b∉ch→s.heap.get? b=some o→H b=none→∃ sl,h'.get? b=some { o with slots:=sl }) (free:∀ b o,b∉ch→s.heap.get? b=some o→H b=none→H' b=none)
  (there:∀ b o,b∉ch→s.heap.get? b=some o→∃ o',h'.get? b=some o')
  (tups:∀ b xs,H b=some (.tup xs)→H' b=some (.tup xs)) (frzs:∀ b o u,H b=some (.frz o u)→H' b=some (.frz o u)) (tbls:∀ b ps,H b=some (.tbl ps)→∃ more,H' b=some (.tbl (ps++more)))
  (ns:∀ m,s.heap.Ns X.env.locals m→h'.Ns X.env.locals m) (hok:HOk X.prog X.w H' h') (hg:AllBare g') :
  Inv X pins σ H' { s with heap:=h',gens:=g',drawn:=d',toks:=t' }:=by
 have neL:∀ b o,X.s₀.heap.get? b=some o→b≠X.env.locals:=fun b o e=>Md (Lw (LD e) I.ok.above)
 have neC:∀ b o,X.s₀.heap.get? b=some o→b∉X.ex→b∉ch:=fun b o e hx hb=>by
  rcases(hch b hb).1 with z|z
  ·exact hx z
  ·exact absurd (Lw (LD e) z) (MN _)
 have cellK:∀ x c,X.env.cells.lookup x=some c→∀ v,s.heap.IsCell c v→h'.IsCell c v:=fun x c e v zz=>by
  obtain⟨o,ho,hd⟩:=zz
  have nch:c∉ch:=fun z=>(hch c z).2.2.1 x c e rfl
  by_cases hc:c∈X.fs
  ·obtain⟨sl,q⟩:=slot c o (I.cne x c e) hc nch ho (I.freeC x c e)
   exact⟨_,q,hd⟩
  ·exact⟨o,keep c o (I.cne x c e) hc nch ho (I.freeC x c e),hd⟩
 refine⟨I.ok,I.os,hg,⟨fun b o e n hb hx=>?_,fun b o e n hb hx=>?_,fun b o e n hx=>?_,fun b o e hx=>?_,fun b xs e=>tups b xs (I.base.tups b xs e),fun b o xs e=>frzs b o xs (I.base.frzs b o xs e),fun b ps e=>?_⟩,?_,fun x c e=>?_,?_,fun x c e=>?_,fun p hp=>?_,hok,I.len⟩
 ·exact keep b o (neL b o e) hb (neC b o e hx) (I.base.keep b o e n hb hx) (I.base.free b o e n hx)
 ·obtain⟨sl,e1⟩:=I.base.slot b o e n hb hx
  obtain⟨sl',e2⟩:=slot b _ (neL b o e) hb (neC b o e hx) e1 (I.base.free b o e n hx)
  exact⟨sl',e2⟩
 ·obtain⟨o',e1⟩:=I.base.there b o e hx
  exact free b o' (neC b o e hx) e1 (I.base.free b o e n hx)
 ·obtain⟨o',e1⟩:=I.base.there b o e hx
  exact there b o' (neC b o e hx) e1
 ·obtain⟨m1,e1⟩:=I.base.tbls b ps e
  obtain⟨m2,e2⟩:=tbls b _ e1
  exact⟨m1++m2,by rw[e2,Array.append_assoc]⟩
 ·obtain⟨m,hn,hl⟩:=I.loc
  refine⟨m,ns m hn,fun i x v e1 e2 e3=>?_⟩
  obtain⟨u,r,l⟩:=hl i x v e1 e2 e3
  refine⟨u,r,?_⟩
  rcases l with l|⟨k,c,e,z⟩
  ·exact .inl l
  ·exact .inr ⟨k,c,e,cellK x c e _ z⟩
 ·obtain⟨v,z⟩:=I.cell x c e
  exact⟨v,cellK x c e v z⟩
 ·obtain⟨m,⟨o,_,_,ho,_⟩,_⟩:=I.loc
  exact free _ o (fun z=>(hch _ z).2.1 rfl) ho I.free
 ·obtain⟨v,o,ho,hd⟩:=I.cell x c e
  exact free c o (fun z=>(hch c z).2.2.1 x c e rfl) ho (I.freeC x c e)
 ·obtain⟨e,n,ne,nf,d⟩:=I.pin p hp
  have nch:p.1∉ch:=fun z=>(hch p.1 z).2.2.2 p hp rfl
  exact⟨keep p.1 p.2 ne nf nch e n,free p.1 p.2 nch e n,ne,nf,d⟩
theorem Inv.un{t':Nat}(I:Inv X pins σ H s)(u:Un X.fs [] H H' s.heap h')(hok:HOk X.prog X.w H' h'):Inv X pins σ H' { s with heap:=h',toks:=t' }:=by
 obtain⟨m,⟨o,es,ep,ho,r⟩,_⟩:=id I.loc
 obtain⟨sl,hL⟩:=u.any ho I.free (by simp)
 exact I.step (g':=s.gens) (d':=s.drawn) (ch:=[]) (fun _ z=>nomatch z) (fun b o _ hb _ e n=>u.keep b o e n hb (by simp)) (fun b o _ hb _ e n=>u.slot b o e n hb (by simp)) (fun b o _ e n=>u.free b o e n (by simp)) (fun b o _ e=>u.there b o e (by simp)) u.tups u.frzs u.tbls (fun m' hm=>by
  obtain⟨o',es',ep',ho',r'⟩:=hm
  rw[ho]at ho';cases ho'
  exact⟨_,es',ep',hL,r'⟩) hok I.bare
theorem Inv.call{g':Array GenState}{t':Nat}{d':Drawn}{ch:List Addr}(I:Inv X pins σ H s)(u:Un (frs X.stack) ch H H' s.heap h')(hok:HOk X.prog X.w H' h')(hg:AllBare g')
  (hch:∀ b∈ch,(b∈X.ex∨X.s₀.heap.objs.size≤b)∧b≠X.env.locals∧(∀ x c,X.env.cells.lookup x=some c→c≠b)∧∀ p∈X.pn++pins,p.1≠b) :
  Inv X pins σ H' { s with heap:=h',gens:=g',drawn:=d',toks:=t' }:=by
 obtain⟨m,⟨o,es,ep,ho,r⟩,_⟩:=id I.loc
 obtain⟨sl,hL⟩:=u.any ho I.free fun z=>(hch _ z).2.1 rfl
 exact I.step (ch:=ch) hch (fun b o hL hb hc e n=>u.keep b o e n (fun z=>(Lz.mp (I.stkSub b z)).elim hL hb) hc) (fun b o _ _ hc e n=>u.any e n hc) (fun b o hc e n=>u.free b o e n hc) (fun b o hc e=>u.there b o e hc) u.tups u.frzs u.tbls (fun m' hm=>by
  obtain⟨o',es',ep',ho',r'⟩:=hm
  rw[ho]at ho';cases ho'
  exact⟨_,es',ep',hL,r'⟩) hok hg
theorem Inv.turned{t':Nat}{it:Addr}(I:Inv X pins σ H s)(k:∀ b o,b≠it→s.heap.get? b=some o→h'.get? b=some o)(hn:H it=none)(hL:it≠X.env.locals)
  (h1:it∈X.ex∨X.s₀.heap.objs.size≤it) (h2:∀ x c,X.env.cells.lookup x=some c→c≠it) (h3:∀ p∈X.pn++pins,p.1≠it):Inv X pins σ H { s with heap:=h',toks:=t' }:=by
 have nit:∀ b u,H b=some u→b≠it:=fun b u e z=>by rw[z,hn]at e;cases e
 refine I.step (g':=s.gens) (d':=s.drawn) (ch:=[it]) (fun b hb=>?_) (fun b o _ _ hc e _=>k b o (fun z=>hc (by simp[z])) e) (fun b o _ _ hc e _=>⟨o.slots,k b o (fun z=>hc (by simp[z])) e⟩) (fun _ _ _ _ n=>n)
  (fun b o hc e=>⟨o,k b o (fun z=>hc (by simp[z])) e⟩) (fun _ _ e=>e) (fun _ _ _ e=>e) (fun b ps e=>⟨#[],by rw[e];simp⟩) (fun m hm=>?_) (fun b u e=>?_) I.bare
 ·have e:b=it:=by simpa using hb
  subst e
  exact⟨h1,hL,h2,h3⟩
 ·obtain⟨o,es,ep,ho,r⟩:=hm
  exact⟨o,es,ep,k _ o (Ne.symm hL) ho,r⟩
 ·refine(I.hok b u e).stay (fun c v hc q=>k c v ?_ q) (fun _ q=>q) fun _ _ q=>q
  rcases hc with z|z
  ·rw[z];exact nit b u e
  ·exact nit c _ z
theorem Inv.tok(I:Inv X pins σ H s)(t:Nat):Inv X pins σ H { s with toks:=t }:=I.un (h':=s.heap) (t':=t) Un.refl I.hok
theorem Inv.kept{t':Nat}(I:Inv X pins σ H s)(k:∀ b u,s.heap.get? b=some u→h'.get? b=some u):Inv X pins σ H { s with heap:=h',toks:=t' }:=I.un (Un.kept k) (I.hok.kept k)
theorem Inv.laid{a:Addr}{o:HO}{t':Nat}(I:Inv X pins σ H s)(k:∀ b u,s.heap.get? b=some u→h'.get? b=some u)(hp:s.heap.objs.size≤a)(new:B4 X.prog X.w (upd H a o) h' a o) :
  Inv X pins σ (upd H a o) { s with heap:=h',toks:=t' }:=I.un (Un.laid k hp (I.hok.fresh hp)) (I.hok.laid k hp new)
theorem Inv.write{x e:Addr}{o:HO}{t':Nat}(I:Inv X pins σ H s)(mu:Mut (H x))(he:e=x∨H e=some (.own x))(k:∀ b u,b≠e→s.heap.get? b=some u→h'.get? b=some u)(heo:∃ u,h'.get? e=some u)
  (new:B4 X.prog X.w (upd H x o) h' x o):Inv X pins σ (upd H x o) { s with heap:=h',toks:=t' }:=I.un (Un.write mu he k heo) (I.hok.write mu he k heo new)
theorem Inv.pins_of{pins':List (Addr × Obj)}(I:Inv X pins σ H s)(h:∀ p∈pins',s.heap.get? p.1=some p.2∧H p.1=none∧p.1≠X.env.locals∧p.1∉X.fs∧∀ v,p.2.data ≠ .cell v):Inv X pins' σ H s :=
 ⟨I.ok,I.os,I.bare,I.base,I.loc,I.cell,I.free,I.freeC,fun p hp=>(LR.mp hp).elim (fun z=>I.pin p (Mu _ z)) (h p),I.hok,I.len⟩
theorem mH{N:List Str}(hN:N.Nodup){i j:Nat}{x:Str}(a:N[i]? = some x)(b:N[j]? = some x):i=j:=by
 obtain⟨h1,e1⟩:=LP.mp a
 obtain⟨h2,e2⟩:=LP.mp b
 exact(List.getElem_inj hN).mp (e1.trans e2.symm)
theorem gM{M:Model}{A:Around}{E:Value→Shared→Prop}{i:Nat}{x:Str}{v:V}{u:Value}{Q:Unit→Shared→Prop}(I:Inv X pins σ H s)(hN:X.N.Nodup)(hi:X.N[i]? = some x)(hx:Loc X.env.scope x)(r:j7 v u)
  (h:∀ s',Inv X pins (σ.set i (some v)) H s'→(∃ a,Heap.SameBut a s.heap s'.heap∧(a=X.env.locals∨X.env.cells.lookup x=some a))→Q () s') (hf:X.fn x=true∨X.env.scope.names.lookup x=some .local:=by first|exact .inl rfl|exact .inr rfl|assumption):wpAny M A (storeName X.env x u) Q E s:=by
 obtain⟨m,hn,hl⟩:=id I.loc
 have hcls:(X.env.scope.kind == .class || (X.env.scope.kind == .module && X.env.locals != X.env.globals))=false:=by rw[I.ok.kind];rfl
 have hiσ:i<σ.length:=by rw[I.len];exact(LP.mp hi).1
 have cne:=I.cne
 have tracked:∀{a:Addr} {h':Heap},(∃ o,s.heap.get? a=some o∧H a=none)→Heap.SameBut a s.heap h'→HOk X.prog X.w H h':=fun{a h'} ha hs b ob e=>by
  obtain⟨_,_,hfree⟩:=ha
  refine(I.hok b ob e).stay (fun c w' hc q=>(hs.2 c ?_).trans q) (fun _ q=>q) fun _ _ q=>q
  rintro rfl
  rcases hc with rfl|hc
  ·rw[hfree]at e;cases e
  ·rw[hfree]at hc;cases hc
 rcases hx with hk|hk
 ·refine wpAny_storeName_local hk hn (fun h' hn' hs=>?_) hcls
  obtain⟨oL,_,_,hoL,_⟩:=id hn
  refine h _ ⟨I.ok,I.os,I.bare,⟨fun b o e n hb hx=>?_,fun b o e n hb hx=>?_,I.base.free,fun b o e hx=>?_,I.base.tups,I.base.frzs,I.base.tbls⟩,⟨_,hn',fun j y v' e1 e2 e3=>?_⟩,fun y c e=>?_,I.free,I.freeC,fun p hp=>?_,tracked ⟨oL,hoL,I.free⟩ hs,by simpa using I.len⟩ ⟨_,hs,.inl rfl⟩
  ·exact(hs.2 b (Md (Lw (LD e) I.ok.above))).trans (I.base.keep b o e n hb hx)
  ·obtain⟨sl,e1⟩:=I.base.slot b o e n hb hx
   exact⟨sl,(hs.2 b (Md (Lw (LD e) I.ok.above))).trans e1⟩
  ·obtain⟨o',e1⟩:=I.base.there b o e hx
   exact⟨o',(hs.2 b (Md (Lw (LD e) I.ok.above))).trans e1⟩
  ·by_cases hj:j=i
   ·subst hj
    rw[hi]at e1;cases e1
    rw[OH hiσ]at e2
    cases e2
    exact⟨u,r,.inl ⟨hk,by simp⟩⟩
   ·rw[OX (Ne.symm hj)]at e2
    obtain⟨u',r',q⟩:=hl j y v' e1 e2 e3
    refine⟨u',r',?_⟩
    rcases q with⟨k,e⟩|⟨k,c,e,z⟩
    ·refine .inl ⟨k,?_⟩
     have:y≠x:=fun e=>hj (mH hN e1 (e▸hi))
     simp[this,e]
    ·exact .inr ⟨k,c,e,z.sameBut hs (cne y c e)⟩
  ·obtain⟨w',z⟩:=I.cell y c e
   exact⟨w',z.sameBut hs (cne y c e)⟩
  ·obtain⟨e,n,ne,nf,d⟩:=I.pin p hp
   exact⟨(hs.2 p.1 ne).trans e,n,ne,nf,d⟩
 ·have hfn:X.fn x=true:=by
   rcases hf with z|z
   ·exact z
   ·rw[z]at hk;cases hk
  obtain⟨c,hc⟩:=I.ok.has x (.inl hk)
  obtain⟨w',z⟩:=I.cell x c hc
  refine wpAny_storeName_cell I.ok.kind hk hc z (fun h' hc' hs=>?_)
  obtain⟨oc,hoc,hocd⟩:=id z
  refine h { s with heap:=h' } ⟨I.ok,I.os,I.bare,⟨fun b o e n hb hx=>?_,fun b o e n hb hx=>?_,I.base.free,fun b o e hx=>?_,I.base.tups,I.base.frzs,I.base.tbls⟩,⟨m,hn.sameBut hs (Ne.symm (cne x c hc)),fun j y v' e1 e2 e3=>?_⟩,fun y c' e=>?_,I.free,I.freeC,fun p hp=>?_,tracked ⟨oc,hoc,I.freeC x c hc⟩ hs,by simpa using I.len⟩ ⟨c,hs,.inr hc⟩
  ·exact(hs.2 b (Md (Lw (LD e) (I.ok.cab x c hfn hc)))).trans (I.base.keep b o e n hb hx)
  ·obtain⟨sl,e1⟩:=I.base.slot b o e n hb hx
   exact⟨sl,(hs.2 b (Md (Lw (LD e) (I.ok.cab x c hfn hc)))).trans e1⟩
  ·obtain⟨o',e1⟩:=I.base.there b o e hx
   exact⟨o',(hs.2 b (Md (Lw (LD e) (I.ok.cab x c hfn hc)))).trans e1⟩
  ·by_cases hj:j=i
   ·subst hj
    rw[hi]at e1;cases e1
    rw[OH hiσ]at e2
    cases e2
    exact⟨u,r,.inr ⟨.inl hk,c,hc,hc'⟩⟩
   ·rw[OX (Ne.symm hj)]at e2
    obtain⟨u',r',q⟩:=hl j y v' e1 e2 e3
    refine⟨u',r',?_⟩
    rcases q with q|⟨k,c',e,z'⟩
    ·exact .inl q
    ·refine .inr ⟨k,c',e,z'.sameBut hs ?_⟩
     rintro rfl
     exact hj (mH hN e1 (I.ok.inj _ _ _ e hc▸hi))
  ·by_cases hcc:c'=c
   ·subst hcc;exact⟨_,hc'⟩
   ·obtain⟨w2,z2⟩:=I.cell y c' e
    exact⟨w2,z2.sameBut hs hcc⟩
  ·obtain⟨e,n,ne,nf,d⟩:=I.pin p hp
   refine⟨(hs.2 p.1 ?_).trans e,n,ne,nf,d⟩
   intro q
   rw[q,hoc]at e
   have q':oc=p.2:=Option.some.inj e
   exact d w' (by rw[← q'];exact hocd)
theorem ao{M:Model}{A:Around}{E:Value→Shared→Prop}{i:Nat}{x:Str}{v:V}{u:Value}{Q:Unit→Shared→Prop}(I:Inv X pins σ H s)(hN:X.N.Nodup)(hi:X.N[i]? = some x)(hx:Loc X.env.scope x)(r:j7 v u)
  (h:∀ s',Inv X pins (σ.set i (some v)) H s'→Q () s') (hf:X.fn x=true∨X.env.scope.names.lookup x=some .local:=by first|exact .inl rfl|exact .inr rfl|assumption):wpAny M A (storeName X.env x u) Q E s :=
 gM I hN hi hx r (fun s' I' _=>h s' I') hf
theorem Inv.call'{s':Shared}{ch:List Addr}(I:Inv X pins σ H s)(ho:s'.os=s.os)(u:Un (frs X.stack) ch H H' s.heap s'.heap)(hok:HOk X.prog X.w H' s'.heap)(hg:AllBare s'.gens)
  (hch:∀ b∈ch,(b∈X.ex∨X.s₀.heap.objs.size≤b)∧b≠X.env.locals∧(∀ x c,X.env.cells.lookup x=some c→c≠b)∧∀ p∈X.pn++pins,p.1≠b):Inv X pins σ H' s':=by
 obtain⟨h',g',d',t',o'⟩:=s'
 have e:o'=s.os:=ho
 subst e
 exact I.call (g':=g') (t':=t') (d':=d') u hok hg hch
end
noncomputable abbrev XK:=Value→Option Addr→Hp→Prop
noncomputable abbrev St:=List (Option V)
noncomputable abbrev VK:=V→Hp→Prop
noncomputable abbrev TE:=St→Hp→VK→Prop
noncomputable abbrev TT:=St→Hp→(Bool→Hp→Prop)→Prop
noncomputable abbrev TA:=St→Hp→(List V→Hp→Prop)→Prop
structure nq where
 nx:St→Hp→Prop
 rt:VK
 bk:St→Hp→Prop:=fun _ _=>False
 ct:St→Hp→Prop:=fun _ _=>False
noncomputable abbrev TS:=nq→St→Hp→Prop
def EP(X:Cx)(pins:List (Addr × Obj))(σ:St)(Q:VK)(u:Value)(s':Shared):Prop:=∃ v H',Inv X pins σ H' s'∧j7 v u∧Q v H'
def TP(X:Cx)(pins:List (Addr × Obj))(σ:St)(Q:Bool→Hp→Prop)(b:Bool)(s':Shared):Prop:=∃ H',Inv X pins σ H' s'∧Q b H'
def AP(X:Cx)(pins:List (Addr × Obj))(σ:St)(Q:List V→Hp→Prop)(us:List Value)(s':Shared):Prop:=∃ vs H',Inv X pins σ H' s'∧i7 vs us∧Q vs H'
def SP(X:Cx)(pins:List (Addr × Obj))(D:nq)(f:Flow)(s':Shared):Prop :=
 match f with
 | .next=>∃ σ' H',Inv X pins σ' H' s'∧D.nx σ' H'
 | .brk=>∃ σ' H',Inv X pins σ' H' s'∧D.bk σ' H'
 | .cont=>∃ σ' H',Inv X pins σ' H' s'∧D.ct σ' H'
 | .ret u=>∃ v σ' H',Inv X pins σ' H' s'∧j7 v u∧D.rt v H'
def PE(X:Cx)(e:Expr)(t:TE):Prop :=
 ∀(pins:List (Addr × Obj)) (s:Shared) (σ:St) (H:Hp) (Q:VK),Inv X pins σ H s→t σ H Q→wpAny (model X.prog X.w) X.A (eval e X.env) (EP X pins σ Q) X.xe s
def PT(X:Cx)(e:Expr)(t:TT):Prop :=
 ∀(pins:List (Addr × Obj)) (s:Shared) (σ:St) (H:Hp) (Q:Bool→Hp→Prop),Inv X pins σ H s→t σ H Q→wpAny (model X.prog X.w) X.A (isTrue e X.env (eval e X.env)) (TP X pins σ Q) X.xe s
def PW(X:Cx)(e:Expr)(t:TT):Prop :=
 ∀(whole:Sem Value) (pins:List (Addr × Obj)) (s:Shared) (σ:St) (H:Hp) (Q:Bool→Hp→Prop),Inv X pins σ H s→t σ H Q→wpAny (model X.prog X.w) X.A (isTrue e X.env whole) (TP X pins σ Q) X.xe s
theorem PW.pt{X:Cx}{e:Expr}{t:TT}(h:PW X e t):PT X e t:=h _
def PA(X:Cx)(es:List Expr)(t:TA):Prop :=
 ∀(pos:Pos) (pins:List (Addr × Obj)) (s:Shared) (σ:St) (H:Hp) (Q:List V→Hp→Prop),Inv X pins σ H s→t σ H Q→wpAny (model X.prog X.w) X.A (spliced (backTo pos (starEach es X.env))) (AP X pins σ Q) X.xe s
def PS(X:Cx)(st:Stmt)(t:TS):Prop :=
 ∀(pins:List (Addr × Obj)) (s:Shared) (σ:St) (H:Hp) (D:nq),Inv X pins σ H s→t D σ H→wpAny (model X.prog X.w) X.A (exec st X.env) (SP X pins D) X.xe s
def PSs(X:Cx)(st:List Stmt)(t:TS):Prop :=
 ∀(pins:List (Addr × Obj)) (s:Shared) (σ:St) (H:Hp) (D:nq),Inv X pins σ H s→t D σ H→wpAny (model X.prog X.w) X.A (execs st X.env) (SP X pins D) X.xe s
theorem thn{α:Type}{t:Sem α}{Q Q':α→Shared→Prop}{M:Model}{A:Around}{E:Value→Shared→Prop}{s:Shared}(h:wpAny M A t Q E s)(hQ:∀ a s,Q a s→Q' a s):wpAny M A t Q' E s:=wpAny_mono h hQ fun _ _ x=>x
section
variable {X:Cx}
def Hx(i:Nat):TE:=fun σ H Q=>∃ v,σ[i]? = some (some v)∧Q v H
def tC(v:V):TE:=fun _ H Q=>Q v H
theorem Dz{i:Nat}{x:Str}{pos:Pos}(hN:X.N[i]? = some x)(hv:Vis X.env.scope x)(hd:(x == ("__debug__" : Str))=false:=by decide)(hcd:(x == ("__classdict__" : Str))=false:=by decide):PE X (.Name x pos) (Hx i):=by
 intro pins s σ H Q I h
 obtain⟨v,e,h⟩:=h
 obtain⟨m,hn,hl⟩:=I.loc
 obtain⟨u,r,l⟩:=hl i x v hN e hv
 have fin:EP X pins σ Q u s:=⟨v,H,I,r,h⟩
 rcases l with⟨hk,hm⟩|⟨hk,c,hc,hcell⟩
 ·exact wpAny_Name (wpAny_loadName_local I.ok.kind hk hn hm fin) hd
 ·rcases hk with hk|hk
  ·exact wpAny_Name (wpAny_loadName_cell I.ok.kind hk hc hcell fin) hd
  ·exact wpAny_Name (wpAny_loadName_free I.ok.kind hk hc hcell fin hcd) hd
theorem DF{i j pos}:PE X (.Constant (.int i) j pos) (tC (.int i)):=fun _ _ _ H _ I h=>wpAny_Constant_int ⟨.int i,H,I.tok _,⟨_,rfl⟩,h⟩
theorem FW{b j pos}:PE X (.Constant (.bool b) j pos) (tC (.bl b)):=fun _ _ _ H _ I h=>Constant_bool ⟨.bl b,H,I,rfl,h⟩
theorem DE{j pos}:PE X (.Constant .none j pos) (tC .non):=fun _ _ _ H _ I h=>Constant_none ⟨.non,H,I,rfl,h⟩
theorem DB{x j pos}:PE X (.Constant (.str x) j pos) (tC (.str x)):=fun _ _ _ H _ I h=>Calls.Constant_str ⟨.str x,H,I.tok _,⟨_,rfl⟩,h⟩
def Gl(X:Cx)(x:Str):Prop:=X.env.kindOf x=some .globalImplicit
theorem qF{E:Value→Shared→Prop}{pins:List (Addr × Obj)}{s:Shared}{σ:St}{H:Hp}{x:Str}{u:Value}{pos:Pos}{Q:Value→Shared→Prop}(I:Inv X pins σ H s)(hg:Gl X x)(hm:X.mg x=some u)(h:Q u s)
  (hd:(x == ("__debug__" : Str))=false:=by decide):wpAny (model X.prog X.w) X.A (eval (.Name x pos) X.env) Q E s :=
 Calls.Name_function_global I.ok.kind hg (Calls.loadGlobal_global (by rw[I.ok.glob];exact I.mod.glob.keeps I.bk) hm h) hd
theorem Z7{E:Value→Shared→Prop}{pins:List (Addr × Obj)}{s:Shared}{σ:St}{H:Hp}{x:Str}{u:Value}{pos:Pos}{Q:Value→Shared→Prop}(I:Inv X pins σ H s)(hg:Gl X x)(hm:X.mg x=none)(hv:bootBuiltins x=some u)(h:Q u s)
  (hn:x ≠ "__name__" := by decide) (hd:(x == ("__debug__" : Str))=false:=by decide):wpAny (model X.prog X.w) X.A (eval (.Name x pos) X.env) Q E s:=by
 obtain⟨mb,h1,h2⟩:=I.mod.blt
 exact Calls.Name_function_global I.ok.kind hg (Calls.loadGlobal_builtin (by rw[I.ok.glob];exact I.mod.glob.keeps I.bk) hm (by rw[I.ok.blt];exact h1.keeps I.bk) ((h2 x hn).trans hv) h) hd
theorem zw{x:Str}{v:V}{u:Value}{pos:Pos}(hg:Gl X x)(hm:X.mg x=some u)(r:j7 v u)(hd:(x == ("__debug__" : Str))=false:=by decide):PE X (.Name x pos) (tC v) :=
 fun _ _ _ H _ I h=>qF I hg hm ⟨v,H,I,r,h⟩ hd
theorem zG{x:Str}{v:V}{u:Value}{pos:Pos}(hg:Gl X x)(hm:X.mg x=none)(hv:bootBuiltins x=some u)(r:j7 v u)(hn:x ≠ "__name__" := by decide)(hd:(x == ("__debug__" : Str))=false:=by decide):PE X (.Name x pos) (tC v) :=
 fun _ _ _ H _ I h=>Z7 I hg hm hv ⟨v,H,I,r,h⟩ hn hd
variable {a b:Expr} {ta tb:TE} {pos:Pos}
theorem j7.none_iff{x:V}{v:Value}(r:j7 x v):(v == Value.none)=decide (x = .non):=by
 cases x with
 | non=>cases r;rfl
 | bl _=>cases r;rfl
 | int _=>obtain⟨t,rfl⟩:=r;rfl
 | str _=>obtain⟨t,rfl⟩:=r;rfl
 | byt _=>obtain⟨t,rfl⟩:=r;rfl
 | flt _=>obtain⟨t,rfl⟩:=r;rfl
 | ref _=>cases r;rfl
 | ty _=>cases r;rfl
def tB(t:TE):TT:=fun σ H Q=>t σ H fun x H1=>∃ c,x = .bl c∧Q c H1
theorem Dn{e:Expr}{t:TE}(h:PE X e t)(he:∀ whole,isTrue e X.env whole=(do let v ← whole;standAt e.pos;holding [v] (truthy v)):=by intro _;rfl):PT X e (tB t):=by
 intro pins s σ H Q I hw
 refine isTrue_plain (thn (h pins s σ H _ I hw) fun v s1 ⟨x,H1,I1,r1,q1⟩=>?_) (he _)
 obtain⟨d,rfl,q⟩:=q1
 cases r1
 exact wpAny_truthy_bool ⟨H1,I1,q⟩
variable {tA tB':TT} {E4:List Expr}
def HJ(t u:TT):TT:=fun σ H Q=>t σ H fun c H1=>if c=true then u σ H1 Q else Q false H1
def tOr(t u:TT):TT:=fun σ H Q=>t σ H fun c H1=>if c=true then Q true H1 else u σ H1 Q
def HD(t:TT):TT:=fun σ H Q=>t σ H fun c H1=>Q (!c) H1
theorem zi(ha:PT X a tA):PW X (.BoolOp .And [a] pos) tA:=by
 intro wh pins s σ H Q I h
 refine isTrue_and (thn (ha pins s σ H Q I h) fun c s1 e=>?_)
 cases c with
 | true=>exact isTrue_and_nil e
 | false=>exact e
theorem Dj(ha:PT X a tA):PW X (.BoolOp .Or [a] pos) tA:=by
 intro wh pins s σ H Q I h
 refine isTrue_or (thn (ha pins s σ H Q I h) fun c s1 e=>?_)
 cases c with
 | false=>exact isTrue_or_nil e
 | true=>exact e
theorem Dk(ha:PT X a tA)(hb:PW X (.BoolOp .And (b :: E4) pos) tB'):PW X (.BoolOp .And (a :: b :: E4) pos) (HJ tA tB'):=by
 intro wh pins s σ H Q I h
 refine isTrue_and (thn (ha pins s σ H _ I h) fun c s1 zz=>?_)
 obtain⟨H1,I1,q1⟩:=zz
 cases c with
 | true=>exact hb wh pins s1 σ H1 Q I1 q1
 | false=>exact⟨H1,I1,q1⟩
theorem FP(ha:PT X a tA)(hb:PW X (.BoolOp .Or (b :: E4) pos) tB'):PW X (.BoolOp .Or (a :: b :: E4) pos) (tOr tA tB'):=by
 intro wh pins s σ H Q I h
 refine isTrue_or (thn (ha pins s σ H _ I h) fun c s1 zz=>?_)
 obtain⟨H1,I1,q1⟩:=zz
 cases c with
 | true=>exact⟨H1,I1,q1⟩
 | false=>exact hb wh pins s1 σ H1 Q I1 q1
theorem Dp(ha:PT X a tA):PT X (.UnaryOp .Not a pos) (HD tA):=by
 intro pins s σ H Q I h
 exact isTrue_not (ha pins s σ H (fun c H1=>Q (!c) H1) I h)
def FI(ta tb:TE):TE:=fun σ H Q=>ta σ H fun x H1=>∃ c,x = .bl c∧if c=true then tb σ H1 Q else Q (.bl false) H1
def HC(ta tb:TE):TE:=fun σ H Q=>ta σ H fun x H1=>∃ c,x = .bl c∧if c=true then Q (.bl true) H1 else tb σ H1 Q
def FA(ta:TE):TE:=fun σ H Q=>ta σ H fun x H1=>∃ c,x = .bl c∧Q (.bl (!c)) H1
theorem DC{op}{t:TE}(h:PE X a t):PE X (.BoolOp op [a] pos) t:=fun pins s σ H Q I hw=>BoolOp_one (h pins s σ H Q I hw)
theorem DH(ha:PE X a ta)(hb:PE X (.BoolOp .And (b :: E4) pos) tb):PE X (.BoolOp .And (a :: b :: E4) pos) (FI ta tb):=by
 intro pins s σ H Q I h
 refine BoolOp_and (thn (ha pins s σ H _ I h) fun v s1 zz=>?_)
 obtain⟨x,H1,I1,r1,q1⟩:=zz
 obtain⟨c,rfl,q1⟩:=q1
 cases r1
 refine wpAny_truthy_bool ?_
 cases c with
 | true=>exact hb pins s1 σ H1 Q I1 q1
 | false=>exact⟨.bl false,H1,I1,rfl,q1⟩
theorem FT(ha:PE X a ta)(hb:PE X (.BoolOp .Or (b :: E4) pos) tb):PE X (.BoolOp .Or (a :: b :: E4) pos) (HC ta tb):=by
 intro pins s σ H Q I h
 refine BoolOp_or (thn (ha pins s σ H _ I h) fun v s1 zz=>?_)
 obtain⟨x,H1,I1,r1,q1⟩:=zz
 obtain⟨c,rfl,q1⟩:=q1
 cases r1
 refine wpAny_truthy_bool ?_
 cases c with
 | false=>exact hb pins s1 σ H1 Q I1 q1
 | true=>exact⟨.bl true,H1,I1,rfl,q1⟩
theorem DD(ha:PE X a ta):PE X (.UnaryOp .Not a pos) (FA ta):=by
 intro pins s σ H Q I h
 refine UnaryOp_ (thn (ha pins s σ H _ I h) fun v s1 zz=>?_)
 obtain⟨x,H1,I1,r1,q1⟩:=zz
 obtain⟨c,rfl,q1⟩:=q1
 cases r1
 exact not_of (wpAny_truthy_bool ⟨.bl (!c),H1,I1,rfl,q1⟩)
def tIf(t:TT)(ta tb:TE):TE:=fun σ H Q=>t σ H fun c H1=>if c=true then ta σ H1 Q else tb σ H1 Q
theorem vQ{c:Expr}(hc:PT X c tA)(ha:PE X a ta)(hb:PE X b tb):PE X (.IfExp c a b pos) (tIf tA ta tb):=by
 intro pins s σ H Q I h
 refine wpAny_IfExp (thn (hc pins s σ H _ I h) fun d s1 zz=>?_)
 obtain⟨H1,I1,q1⟩:=zz
 cases d with
 | true=>exact ha pins s1 σ H1 Q I1 q1
 | false=>exact hb pins s1 σ H1 Q I1 q1
end
def SqL(K:Lo)(H:Hp)(a:Addr)(xs:List V):Prop :=
 Rd H a (.lst xs) ∨
  ∃(o:Obj) (its:Array Value) (n:Nat),K.lookup a=some o∧o.cls = .type "list" ∧ o.dict=none∧o.data = .seq its n∧its.size≤sizeLine∧i7 xs its.toList
def SqT(K:Lo)(H:Hp)(a:Addr)(xs:List V):Prop :=
 Rd H a (.tup xs) ∨
  ∃(o:Obj) (its:Array Value) (n:Nat),K.lookup a=some o∧o.cls = .type "tuple" ∧ o.data = .seq its n∧its.size≤sizeLine∧i7 xs its.toList
noncomputable def Iq:Value→Option V
 | .none=>some .non
 | .bool b=>some (.bl b)
 | .int i _=>some (.int i)
 | .str x _=>some (.str x)
 | .bytes b _=>some (.byt b)
 | .float b _=>some (.flt b)
 | .ref a=>some (.ref a)
 | .type n=>some (.ty n)
 | _=>none
theorem j7.abs{x:V}{u:Value}(r:j7 x u):Iq u=some x:=by
 cases x with
 | non=>cases r;rfl
 | bl _=>cases r;rfl
 | int _=>obtain⟨t,rfl⟩:=r;rfl
 | str _=>obtain⟨t,rfl⟩:=r;rfl
 | byt _=>obtain⟨t,rfl⟩:=r;rfl
 | flt _=>obtain⟨t,rfl⟩:=r;rfl
 | ref _=>cases r;rfl
 | ty _=>cases r;rfl
theorem j7.inj{x y:V}{u:Value}(r:j7 x u)(q:j7 y u):x=y:=Option.some.inj (r.abs.symm.trans q.abs)
theorem i7.inj:∀{xs ys:List V} {us:List Value},i7 xs us→i7 ys us→xs=ys
 | _,_,_,.nil,.nil=>rfl
 | _,_,_,.cons r t,.cons r' t'=>by rw[r.inj r',i7.inj t t']
section
variable {X:Cx} {pins:List (Addr × Obj)} {σ:St} {H:Hp} {s:Shared} {a:Addr} {xs ys:List V}
theorem SqL.of{K:Lo}(h:H a=some (.lst xs)):SqL K H a xs:=.inl (.inl h)
theorem SqT.of{K:Lo}(h:H a=some (.tup xs)):SqT K H a xs:=.inl (.inl h)
theorem Inv.list(I:Inv X pins σ H s)(h:SqL X.K H a xs):∃ its:List Value,i7 xs its∧PlainL s.heap a its.toArray∧xs.length≤sizeLine:=by
 rcases h with h|⟨o,its,n,hk,hc,hd,hs,hz,r⟩
 ·obtain⟨z,its,n,r,e⟩:=h.ok I.hok
  exact⟨its,r,⟨_,n,e,rfl,rfl,rfl⟩,z⟩
 ·refine⟨its.toList,r,⟨o,n,I.kIn a o hk,hc,hd,by simpa using hs⟩,?_⟩
  have e:=r.length
  simp only[Array.length_toList]at e
  omega
theorem Inv.tuple(I:Inv X pins σ H s)(h:SqT X.K H a xs):∃ its:List Value,i7 xs its∧IsTup s.heap a its.toArray∧xs.length≤sizeLine:=by
 rcases h with h|⟨o,its,n,hk,hc,hs,hz,r⟩
 ·obtain⟨z,its,r,p⟩:=h.ok I.hok
  exact⟨its,r,p,z⟩
 ·refine⟨its.toList,r,⟨o,I.kIn a o hk,hc,n,by simpa using hs⟩,?_⟩
  have e:=r.length
  simp only[Array.length_toList]at e
  omega
theorem Inv.list_inj(I:Inv X pins σ H s)(h:SqL X.K H a xs)(h':SqL X.K H a ys):xs=ys:=by
 obtain⟨its,r,⟨o,n,e,_,_,d⟩,_⟩:=I.list h
 obtain⟨its',r',⟨o',n',e',_,_,d'⟩,_⟩:=I.list h'
 rw[e]at e';cases e'
 rw[d]at d'
 injection d' with d1 _
 have:its=its':=by simpa using congrArg Array.toList d1
 subst this
 exact r.inj r'
theorem Inv.tuple_inj(I:Inv X pins σ H s)(h:SqT X.K H a xs)(h':SqT X.K H a ys):xs=ys:=by
 obtain⟨its,r,⟨o,e,_,n,d⟩,_⟩:=I.tuple h
 obtain⟨its',r',⟨o',e',_,n',d'⟩,_⟩:=I.tuple h'
 rw[e]at e';cases e'
 rw[d]at d'
 injection d' with d1 _
 have:its=its':=by simpa using congrArg Array.toList d1
 subst this
 exact r.inj r'
end
noncomputable abbrev Cx.wish(X:Cx)(E:Value→Shared→Prop):Cx:={ X with xe:=E }
noncomputable abbrev Cx.nox(X:Cx):Cx:=X.wish fun _ _=>False
theorem Cx.Ok.wish{X:Cx}(ok:X.Ok)(E:Value→Shared→Prop):(X.wish E).Ok :=
 ⟨ok.mod,ok.kind,ok.glob,ok.blt,ok.above,ok.inj,ok.has,ok.cab,ok.hd,ok.frames,ok.stk,ok.exf,ok.bs,ok.bsz,ok.noex,ok.exfs,ok.funs,ok.frf⟩
theorem Cx.Ok.unwish{X:Cx}{E:Value→Shared→Prop}(ok:(X.wish E).Ok):X.Ok :=
 ⟨ok.mod,ok.kind,ok.glob,ok.blt,ok.above,ok.inj,ok.has,ok.cab,ok.hd,ok.frames,ok.stk,ok.exf,ok.bs,ok.bsz,ok.noex,ok.exfs,ok.funs,ok.frf⟩
section
variable {X:Cx} {pins:List (Addr × Obj)} {σ:St} {H:Hp} {s:Shared} {E:Value→Shared→Prop}
theorem Inv.wish(I:Inv X pins σ H s)(E:Value→Shared→Prop):Inv (X.wish E) pins σ H s:=⟨I.ok.wish E,I.os,I.bare,I.base,I.loc,I.cell,I.free,I.freeC,I.pin,I.hok,I.len⟩
theorem Inv.unwish(I:Inv (X.wish E) pins σ H s):Inv X pins σ H s:=⟨I.ok.unwish,I.os,I.bare,I.base,I.loc,I.cell,I.free,I.freeC,I.pin,I.hok,I.len⟩
theorem SP.unwish{D:nq}{f:Flow}{s':Shared}(h:SP (X.wish E) pins D f s'):SP X pins D f s':=by
 cases f with
 | next=>obtain⟨σ',H',I,q⟩:=h;exact⟨σ',H',I.unwish,q⟩
 | brk=>obtain⟨σ',H',I,q⟩:=h;exact⟨σ',H',I.unwish,q⟩
 | cont=>obtain⟨σ',H',I,q⟩:=h;exact⟨σ',H',I.unwish,q⟩
 | ret u=>obtain⟨v,σ',H',I,r,q⟩:=h;exact⟨v,σ',H',I.unwish,r,q⟩
theorem PE.nox{e:Expr}{t:TE}(h:PE X.nox e t):PE X e t:=fun pins s σ H Q I hw =>
 wpAny_mono (h pins s σ H Q (I.wish _) hw) (fun _ _ ⟨v,H',I',r,q⟩=>⟨v,H',I'.unwish,r,q⟩) fun _ _ z=>False.elim z
theorem PT.nox{e:Expr}{t:TT}(h:PT X.nox e t):PT X e t:=fun pins s σ H Q I hw =>
 wpAny_mono (h pins s σ H Q (I.wish _) hw) (fun _ _ ⟨H',I',q⟩=>⟨H',I'.unwish,q⟩) fun _ _ z=>False.elim z
theorem PSs.nox{st:List Stmt}{t:TS}(h:PSs X.nox st t):PSs X st t:=fun pins s σ H D I hw =>
 wpAny_mono (h pins s σ H D (I.wish _) hw) (fun _ _ q=>q.unwish) fun _ _ z=>False.elim z
end
section
variable {X:Cx} {st:Stmt} {E4:List Stmt} {t u:TS} {e:Expr} {te:TE} {pos:Pos}
def FC:TS:=fun D σ H=>D.nx σ H
def Hz(t u:TS):TS:=fun D σ H=>t { D with nx:=u D } σ H
theorem zl:PSs X [] FC:=fun _ _ σ H _ I h=>wpAny_execs_nil ⟨σ,H,I,h⟩
theorem me(h1:PS X st t)(h2:PSs X E4 u):PSs X (st :: E4) (Hz t u):=by
 intro pins s σ H D I h
 refine wpAny_execs_cons (thn (h1 pins s σ H { D with nx:=u D } I h) fun f s1 q=>?_)
 cases f with
 | next =>
  obtain⟨σ',H',I',q⟩:=q
  exact h2 pins s1 σ' H' D I' q
 | ret v=>exact q
 | brk=>exact q
 | cont=>exact q
theorem zk(h1:PS X st t):PSs X [st] t:=by
 intro pins s σ H D I h
 refine wpAny_execs_cons (thn (h1 pins s σ H D I h) fun f s1 q=>?_)
 cases f with
 | next=>exact wpAny_execs_nil q
 | ret v=>exact q
 | brk=>exact q
 | cont=>exact q
theorem Inv.quiet{pins:List (Addr × Obj)}{σ:St}{H:Hp}{s:Shared}(I:Inv X pins σ H s):interactive X.env=false:=by simp[interactive,I.ok.kind]
def FF(te:TE):TS:=fun D σ H=>te σ H fun _ H1=>D.nx σ H1
theorem zo(he:PE X e te)(hs:swapsWith e none pos.line X.env=pure false:=by rfl):PS X (.Expr e pos) (FF te):=by
 intro pins s σ H D I h
 exact wpAny_Expr_any (thn (he pins s σ H _ I h) fun v s1 ⟨x,H1,I1,r1,q1⟩=>⟨σ,H1,I1,q1⟩) I.quiet hs
def HA(te:TE):TS:=fun D σ H=>te σ H D.rt
theorem Dr(he:PE X e te):PS X (.Return (some e) pos) (HA te):=by
 intro pins s σ H D I h
 exact wpAny_Return_some (thn (he pins s σ H _ I h) fun v s1 ⟨x,H1,I1,r1,q1⟩=>⟨x,σ,H1,I1,r1,q1⟩)
def HG(c:TT)(t u:TS):TS:=fun D σ H=>c σ H fun b H1=>if b=true then t D σ H1 else u D σ H1
theorem FQ{c:Expr}{a b:List Stmt}{tc:TT}(hc:PT X c tc)(ha:PSs X a t)(hb:PSs X b u):PS X (.If c a b pos) (HG tc t u):=by
 intro pins s σ H D I h
 refine wpAny_If (thn (hc pins s σ H _ I h) fun d s1 zz=>?_)
 obtain⟨H1,I1,q1⟩:=zz
 cases d with
 | true=>exact ha pins s1 σ H1 D I1 q1
 | false=>exact hb pins s1 σ H1 D I1 q1
def CM:TS:=fun _ _ _=>False
theorem vK:PS X st CM:=fun _ _ _ _ _ _ h=>h.elim
end
noncomputable abbrev TG:=V→St→Hp→(St→Hp→Prop)→Prop
noncomputable abbrev TGs:=List V→St→Hp→(St→Hp→Prop)→Prop
def PG(X:Cx)(target:Expr)(t:TG):Prop :=
 ∀(pins:List (Addr × Obj)) (s:Shared) (σ:St) (H:Hp) (v:V) (u:Value) (Q:St→Hp→Prop),Inv X pins σ H s→j7 v u→t v σ H Q →
  wpAny (model X.prog X.w) X.A (assign target X.env u) (fun _ s'=>∃ σ' H',Inv X pins σ' H' s'∧Q σ' H') X.xe s
def PGs(X:Cx)(ts:List Expr)(t:TGs):Prop :=
 ∀(pins:List (Addr × Obj)) (s:Shared) (σ:St) (H:Hp) (vs:List V) (us:List Value) (Q:St→Hp→Prop),Inv X pins σ H s→i7 vs us→t vs σ H Q →
  wpAny (model X.prog X.w) X.A (assignInOrder ((assignEach ts X.env).map (·.2)) us) (fun _ s'=>∃ σ' H',Inv X pins σ' H' s'∧Q σ' H') X.xe s
noncomputable abbrev EF:=V→V→V→Hp→(Hp→Prop)→Prop
def Hr(X:Cx)(t:EF):Prop :=
 ∀(pins:List (Addr × Obj)) (s:Shared) (σ:St) (H:Hp) (o i v:V) (ov iv u:Value) (Q:Hp→Prop),Inv X pins σ H s→j7 o ov→j7 i iv→j7 v u→t o i v H Q →
  wpAny (model X.prog X.w) X.A (setItem ov iv u) (fun _ s'=>∃ H',Inv X pins σ H' s'∧Q H') X.xe s
section
variable {X:Cx} {pos:Pos}
def wR(i:Nat):TG:=fun v σ H Q=>Q (σ.set i (some v)) H
theorem zv{i:Nat}{x:Str}(hN:X.N.Nodup)(hi:X.N[i]? = some x)(hx:Loc X.env.scope x)(hf:X.fn x=true∨X.env.scope.names.lookup x=some .local:=by first|exact .inl rfl|exact .inr rfl|assumption):PG X (.Name x pos) (wR i):=by
 intro pins s σ H v u Q I r h
 exact wpAny_assign_Name (ao I hN hi hx r (fun s' I'=>⟨_,H,I',h⟩) hf)
def Ii:TGs:=fun vs σ H Q=>vs=[]∧Q σ H
def GG(t:TG)(u:TGs):TGs:=fun vs σ H Q=>∃ v r,vs=v :: r∧t v σ H fun σ' H'=>u r σ' H' Q
theorem zt:PGs X [] Ii:=by
 intro pins s σ H vs us Q I r h
 obtain⟨e,h⟩:=h
 subst e
 cases r
 exact assignInOrder_nil ⟨σ,H,I,h⟩
theorem vO{e:Expr}{es:List Expr}{t:TG}{u:TGs}(h1:PG X e t)(h2:PGs X es u)
  (hs:(assignEach (e :: es) X.env).map (·.2)=assign e X.env :: (assignEach es X.env).map (·.2):=by rfl):PGs X (e :: es) (GG t u):=by
 intro pins s σ H vs us Q I r h
 obtain⟨v,vr,e1,h⟩:=h
 subst e1
 cases r with
 | cons r rr =>
  rw[hs]
  refine assignInOrder_cons (thn (h1 pins s σ H _ _ _ I r h) fun _ s1 zz=>?_)
  obtain⟨σ1,H1,I1,q1⟩:=zz
  exact h2 pins s1 σ1 H1 _ _ Q I1 rr q1
def Ie(K:Lo)(n:Nat)(t:TGs):TG:=fun v σ H Q=>∃ a xs,v = .ref a∧SqT K H a xs∧xs.length=n∧t xs σ H Q
theorem Dx{es:List Expr}{k:Nat}{t:TGs}{n:Nat}(hc:X.calm=true)(h:PGs X es t)
  (hn:(assignEach es X.env).length=n:=by rfl) (hst:(assignEach es X.env).findIdx? (·.1)=none:=by rfl):PG X (.Tuple es k pos) (Ie X.K n t):=by
 intro pins s σ H v u Q I r hw
 obtain⟨a,xs,e1,hq,hl,hw⟩:=hw
 subst e1
 cases r
 obtain⟨its,rv,ht,hz⟩:=I.tuple hq
 refine assign_Tuple_tuple (I.ok.hd hc) ht (by simp[hn,← hl,rv.length]) hst fun h' hx=>?_
 have I1:Inv X pins σ H { s with heap:=h' }:=I.kept (t':=s.toks) fun b o e=>hx b o (Md (LD e)) e
 exact h pins _ σ H xs _ Q I1 (by simpa using rv) hw
def Ig(to ti:TE)(t:EF):TG:=fun v σ H Q=>to σ H fun o H1=>ti σ H1 fun i H2=>t o i v H2 fun H3=>Q σ H3
theorem Dy{o i:Expr}{to ti:TE}{t:EF}(ho:PE X o to)(hi:PE X i ti)(hs:Hr X t)
  (ha:∀ v,assign (.Subscript o i pos) X.env v=(do
   let ov ← holding [v] (eval o X.env)
   let iv ← holding [v,ov] (eval i X.env)
   standAt pos
   holding [v,ov,iv] (setItem ov iv v)
   release [v,ov,iv] []):=by intro _;rfl):PG X (.Subscript o i pos) (Ig to ti t):=by
 intro pins s σ H v u Q I r h
 rw[ha]
 refine Lp (wpAny_holding (thn (ho pins s σ H _ I h) fun ov s1 zz=>?_))
 obtain⟨x,H1,I1,r1,q1⟩:=zz
 refine Lp (wpAny_holding (thn (hi pins s1 σ H1 _ I1 q1) fun iv s2 zz=>?_))
 obtain⟨y,H2,I2,r2,q2⟩:=zz
 refine Lp (wpAny_standAt (Lp (wpAny_holding (thn (hs pins s2 σ H2 x y v ov iv u _ I2 r1 r2 r q2) fun _ s3 zz=>?_))))
 obtain⟨H3,I3,q3⟩:=zz
 exact wpAny_release ⟨σ,H3,I3,q3⟩
def CN(te:TE)(g:TG):TS:=fun D σ H=>te σ H fun x H1=>g x σ H1 D.nx
theorem Du{tg e:Expr}{te:TE}{g:TG}(he:PE X e te)(hg:PG X tg g)(hs:swapsWithSole [tg] e pos.line X.env=pure false:=by rfl)(hw:swappedStores [tg] e X.env=pure none:=by rfl)
  (h1:(assignEach [tg] X.env).map (·.2)=[assign tg X.env]:=by rfl):PS X (.Assign [tg] e pos) (CN te g):=by
 intro pins s σ H D I h
 refine wpAny_Assign_stores (thn (he pins s σ H _ I h) fun v s1 ⟨x,H1,I1,r1,q1⟩=>?_) hs hw
 rw[h1]
 exact thn (hg pins s1 σ H1 x v _ I1 r1 q1) fun _ s2 q=>q
theorem Dq{i:Nat}{x:Str}{e:Expr}{te:TE}{pos':Pos}(hN:X.N.Nodup)(hi:X.N[i]? = some x)(hx:Loc X.env.scope x)(he:PE X e te)(hs:swapsWith e (some (.Name x pos')) pos.line X.env=pure false:=by rfl)(hf:X.fn x=true∨X.env.scope.names.lookup x=some .local:=by first|exact .inl rfl|exact .inr rfl|assumption) :
  PS X (.Assign [.Name x pos'] e pos) (CN te (wR i)):=by
 intro pins s σ H D I h
 refine wpAny_Assign_Name (thn (he pins s σ H _ I h) fun v s1 ⟨y,H1,I1,r1,q1⟩=>?_) hs
 exact ao I1 hN hi hx r1 (fun s2 I2=>⟨_,H1,I2,q1⟩) hf
def HB(i j:Nat)(ta:TA):TS:=fun D σ H=>ta σ H fun vs H1=>∃ v w,vs=[v,w]∧D.nx ((σ.set i (some v)).set j (some w)) H1
theorem Ds{i j:Nat}{x y:Str}{a b:Expr}{ta:TA}{px py pt:Pos}{kt k2 pt2}(hc:X.calm=true)(hN:X.N.Nodup)(hi:X.N[i]? = some x)(hj:X.N[j]? = some y)(hij:i≠j)
  (hx:X.env.scope.names.lookup x=some .local) (hy:X.env.scope.names.lookup y=some .local) (ha:PA X [a,b] ta)
  (hw:swappedStores [.Tuple [.Name x px,.Name y py] kt pt] (.Tuple [a,b] k2 pt2) X.env=pure (some [x,y]))
  (hs:swapsWithSole [.Tuple [.Name x px,.Name y py] kt pt] (.Tuple [a,b] k2 pt2) pos.line X.env=pure false:=by rfl) :
  PS X (.Assign [.Tuple [.Name x px,.Name y py] kt pt] (.Tuple [a,b] k2 pt2) pos) (HB i j ta):=by
 intro pins s σ H D I h
 rw[exec_Assign_arm]
 refine Lp (wpAny_standAt ?_)
 rw[hs]
 refine Lp (LG ?_)
 rw[if_neg (by decide)]
 refine Lp (Tuple_ (thn (ha _ pins s σ H _ I h) fun us s1 zz=>?_))
 obtain⟨vs,H1,I1,r1,q1⟩:=zz
 obtain⟨v,w,e1,q1⟩:=q1
 subst e1
 obtain⟨u1,u2,rfl,rv,rw'⟩:∃ u1 u2,us=[u1,u2]∧j7 v u1∧j7 w u2:=by
  cases r1 with
  | cons p q =>
   cases q with
   | cons p' q' =>
    cases q'
    exact⟨_,_,rfl,p,p'⟩
 refine wpAny_newObj_type ?_ (by show 2≤sizeLine;decide)
 have I2:Inv X pins σ H1 { s1 with heap:=s1.heap.push { cls:=.type "tuple",data:=.seq [u1,u2].toArray } }:=I1.kept (t':=s1.toks) fun b o e=>Lq _ e
 rw[hw]
 refine Lp (LG ?_)
 show wpAny (model X.prog X.w) X.A (do rule "assign.swapped-stores";let items ← unpackItems (.ref s1.heap.objs.size) 2 none;assignInOrder [fun v=>bindName X.env y v,fun v=>bindName X.env x v] items.reverse;pure Flow.next) _ _ _
 refine Lp (wpAny_rule (Lp (unpackItems_tuple (items:=#[u1,u2]) (I.ok.hd hc) (IsTup.new s1.heap _) fun h' hx'=>?_)))
 have I3:=I2.kept (h':=h') (t':=s1.toks) fun b o e=>hx' b o (Md (LD e)) e
 show wpAny _ _ (assignInOrder [fun v=>bindName X.env y v,fun v=>bindName X.env x v] [u2,u1] >>= fun _=>pure Flow.next) _ _ _
 refine Lp (assignInOrder_cons (wpAny_bindName (ao I3 hN hj (.inl hy) rw' (fun s2 I4=>?_) (.inr hy))))
 refine assignInOrder_cons (wpAny_bindName (ao I4 hN hi (.inl hx) rv (fun s3 I5=>assignInOrder_nil (LG ?_)) (.inr hx)))
 rw[List.set_comm _ _ (Ne.symm hij)]at I5
 exact⟨_,H1,I5,q1⟩
end
section
variable {X:Cx} {pos:Pos}
def CL(c:TT)(tb:TS):TS:=fun D σ H=>∃ W:Nat→St→Hp→Prop,(∃ m,W m σ H)∧∀ m σ H,W m σ H →
 c σ H fun b H1=>if b=true then ∃ N:St→Hp→Prop,(∀ σ' H',N σ' H'→∃ m',m'<m∧W m' σ' H')∧tb { D with nx:=N,ct:=N,bk:=D.nx } σ H1 else D.nx σ H1
theorem vJ{c:Expr}{body:List Stmt}{tc:TT}{tb:TS}(hp:PassesOwn (model X.prog X.w) X.A X.env X.xe)(hc:PT X c tc)(hb:PSs X body tb):PS X (.While c body [] pos) (CL tc tb):=by
 intro pins s σ H D I h
 obtain⟨W,⟨m0,w0⟩,turn⟩:=h
 refine wpAny_While (codeAny_whileLoop (fun n s'=>∃ σ' H',Inv X pins σ' H' s'∧W n σ' H') ?_ m0 ⟨σ,H,I,w0⟩)
 rintro n s1 ⟨σ1,H1,I1,w1⟩
 refine wpAny_passesOwn hp (thn (hc pins s1 σ1 H1 _ I1 (turn n σ1 H1 w1)) fun b s2 zz=>?_)
 obtain⟨H2,I2,q2⟩:=zz
 cases b with
 | true =>
  obtain⟨N,hN,q2⟩:=q2
  rw[if_pos rfl]
  refine wpAny_passesOwn hp (thn (hb pins s2 σ1 H2 _ I2 q2) fun f s3 q3=>?_)
  cases f with
  | next =>
   obtain⟨σ3,H3,I3,n3⟩:=q3
   obtain⟨m',hm,w3⟩:=hN σ3 H3 n3
   exact⟨m',hm,σ3,H3,I3,w3⟩
  | cont =>
   obtain⟨σ3,H3,I3,n3⟩:=q3
   obtain⟨m',hm,w3⟩:=hN σ3 H3 n3
   exact⟨m',hm,σ3,H3,I3,w3⟩
  | brk=>exact q3
  | ret v=>exact q3
 | false =>
  rw[if_neg LN]
  exact wpAny_execs_nil ⟨σ1,H2,I2,q2⟩
end
structure It where
 go:Nat→Hp→Prop
 yld:Nat→Hp→V→Hp→Prop
 stop:Nat→Hp→Prop
def ag(X:Cx)(pins:List (Addr × Obj))(H:Hp)(b:Addr):Prop :=
 H b=none∧b≠X.env.locals∧b∉X.fs∧(b∈X.ex∨X.s₀.heap.objs.size≤b)∧(∀ x c,X.env.cells.lookup x=some c→c≠b)∧∀ p∈X.pn++pins,p.1≠b
theorem Inv.fpOk{X:Cx}{pins:List (Addr × Obj)}{σ:St}{H H':Hp}{s:Shared}{b:Addr}(I:Inv X pins σ H s)(hb:s.heap.objs.size≤b)(hn:H' b=none):ag X pins H' b:=by
 refine⟨hn,MF (Lw I.lt hb),I.nofs hb,.inr (LB I.sz hb),fun x c e z=>?_,fun p hp z=>?_⟩
 ·obtain⟨v,q⟩:=I.cell x c e
  exact absurd (Lw q.lt (by rw[z];exact hb)) (MN _)
 ·exact absurd (Lw (LD (I.pin p hp).1) (by rw[z];exact hb)) (MN _)
structure oQ(P:Program)(w:World)(K:Lo)(tg:Expr)(J:It)(fp:List Addr)(it:Addr)(tn:Nat→Heap→Prop):Prop where
 mem:it∈fp
 obj:∀ i h,tn i h→∀ b∈fp,∃ o,h.get? b=some o∧∀ v,o.data ≠ .cell v
 keep:∀ i h h',tn i h→(∀ b∈fp,∀ o,h.get? b=some o→h'.get? b=some o)→tn i h'
 item:∀(X:Cx),X.prog=P→X.w=w→X.K=K→X.calm=true→∀(i:Nat) (pins:List (Addr × Obj)) (s:Shared) (σ:St) (H:Hp) (E:Value→Shared→Prop),Inv X pins σ H s→(∀ b∈fp,ag X pins H b)→tn i s.heap→J.go i H →
  wpAny (model P w) X.A (pyNext (.ref it)) (fun r s1=>∃ u,r=some u ∧
   wpAny (model P w) X.A (letOwnedTupleGo tg (.ref it) u) (fun _ s2=>∃ x H',Inv X pins σ H' s2∧j7 x u∧J.yld i H x H'∧tn (i+1) s2.heap∧∀ b∈fp,H' b=none) E s1) E s
 done:∀(X:Cx),X.prog=P→X.w=w→X.K=K→X.calm=true→∀(i:Nat) (pins:List (Addr × Obj)) (s:Shared) (σ:St) (H:Hp) (E:Value→Shared→Prop),Inv X pins σ H s→(∀ b∈fp,ag X pins H b)→tn i s.heap→J.stop i H →
  wpAny (model P w) X.A (pyNext (.ref it)) (fun r s1=>r=none∧Inv X pins σ H s1) E s
 self:∀(A:Around) (i:Nat) (s:Shared) (Q:Value→Shared→Prop) (E:Value→Shared→Prop),tn i s.heap→Q (.ref it) s→wpAny (model P w) A (pyIter (.ref it)) Q E s
noncomputable abbrev TI:=St→Hp→(It→Hp→Prop)→Prop
def PIE(X:Cx)(pins:List (Addr × Obj))(σ:St)(tg:Expr)(R:It→Hp→Prop)(itv:Value)(s2:Shared):Prop :=
 ∃(it:Addr) (fp:List Addr) (tn:Nat→Heap→Prop) (J:It) (H':Hp),itv = .ref it∧Inv X pins σ H' s2∧oQ X.prog X.w X.K tg J fp it tn∧tn 0 s2.heap∧(∀ b∈fp,ag X pins H' b)∧R J H'
def PI(X:Cx)(tg iter:Expr)(wi:TI):Prop :=
 ∀(pins:List (Addr × Obj)) (s:Shared) (σ:St) (H:Hp) (R:It→Hp→Prop),Inv X pins σ H s→wi σ H R →
  wpAny (model X.prog X.w) X.A (eval iter X.env) (fun v s1=>wpAny (model X.prog X.w) X.A (pyIter v) (PIE X pins σ tg R) X.xe s1) X.xe s
theorem wN{M:Model}{A:Around}{E:Value→Shared→Prop}{s:Shared}{tg:Expr}{it:Addr}{u:Value}{o:Obj}{n:String}{vs:Array Value}{Q:Unit→Shared→Prop}(ho:s.heap.get? it=some o)(hc:o.cls = .type n)(hd:o.data = .fields vs)
  (hn:["enumerate","zip","dict_itemiterator","dict_reverseitemiterator","odict_iterator","itertools.zip_longest","itertools.pairwise"].contains n=false) (hQ:Q () s):wpAny M A (letOwnedTupleGo tg (.ref it) u) Q E s:=by
 unfold letOwnedTupleGo
 cases tg<;>first
  | exact LG hQ
  | (cases u<;>first
    | exact LG hQ
    | (refine Lp (wpAny_load ho ?_);rw[hc,hd];show wpAny M A (if (["enumerate","zip","dict_itemiterator","dict_reverseitemiterator","odict_iterator","itertools.zip_longest","itertools.pairwise"].contains n && vs[0]? == some (rawInt _))=true then _ else _) Q E s;rw[if_neg (by intro h;rw[hn,Qn]at h;cases h)];exact LG hQ))
noncomputable def Itl(K:Lo)(a:Addr):It :=
 ⟨fun i H=>∃ xs x,SqL K H a xs∧xs[i]? = some x,fun i H x H'=>H'=H∧∀ xs,SqL K H a xs→xs[i]? = some x,fun i H=>∃ xs,SqL K H a xs∧xs.length≤i⟩
noncomputable def Itt(K:Lo)(a:Addr):It :=
 ⟨fun i H=>∃ xs x,SqT K H a xs∧xs[i]? = some x,fun i H x H'=>H'=H∧∀ xs,SqT K H a xs→xs[i]? = some x,fun i H=>∃ xs,SqT K H a xs∧xs.length≤i⟩
noncomputable def Itr(lo:Int)(n:Nat):It:=⟨fun i _=>i<n,fun i H x H'=>H'=H∧x = .int (lo+i),fun i _=>n≤i⟩
theorem rJ{P:Program}{w:World}{K:Lo}{tg:Expr}(a it:Addr):oQ P w K tg (Itl K a) [it] it (fun i h=>h.IsListIter it a i) where
 mem:=by simp
 obj:=fun i h st b hb=>by
  have e:b=it:=by simpa using hb
  subst e
  obtain⟨o,e,c,d⟩:=st
  exact⟨o,e,fun v z=>by rw[d]at z;cases z⟩
 keep:=fun i h h' st k=>st.at fun o e=>k it (by simp) o e
 item:=by
  intro X hP hw hK hc i pins s σ H E I hf st hg
  subst hP hw hK
  obtain⟨xs,x,hq,hx⟩:=hg
  obtain⟨its,rv,p,hz⟩:=I.list hq
  obtain⟨u,hu,ru⟩:=rv.get hx
  obtain⟨f0,f1,f2,f3,f4,f5⟩:=hf it (by simp)
  refine wpAny_pyNext_list_item st p.isList (x:=u) (by simpa using hu) fun h' st' sb=>?_
  have I1:Inv X pins σ H { s with heap:=h' }:=I.turned (t':=s.toks) (fun b o hb e=>(sb.2 b hb).trans e) f0 f1 f3 f4 f5
  obtain⟨o,e,c,d⟩:=id st'
  exact⟨u,rfl,wN (s:={ s with heap:=h' }) e c d (by decide) ⟨x,H,I1,ru,⟨rfl,fun ys hy=>by rw[I.list_inj hy hq];exact hx⟩,st',fun b hb=>(hf b hb).1⟩⟩
 done:=by
  intro X hP hw hK hc i pins s σ H E I hf st hg
  subst hP hw hK
  obtain⟨xs,hq,hx⟩:=hg
  obtain⟨its,rv,p,hz⟩:=I.list hq
  obtain⟨f0,f1,f2,f3,f4,f5⟩:=hf it (by simp)
  have hl:=rv.length
  exact wpAny_pyNext_list_end (I.ok.hd hc) st p.isList (by simp;omega) fun h' eb=>⟨rfl,I.turned (t':=s.toks) (fun b o hb e=>eb b o hb e) f0 f1 f3 f4 f5⟩
 self:=fun _ _ _ _ _ st h=>wpAny_pyIter_listiter st h
theorem nA{P:Program}{w:World}{K:Lo}{tg:Expr}(a it:Addr):oQ P w K tg (Itt K a) [it] it (fun i h=>h.IsTupleIter it a i) where
 mem:=by simp
 obj:=fun i h st b hb=>by
  have e:b=it:=by simpa using hb
  subst e
  obtain⟨o,e,c,d⟩:=st
  exact⟨o,e,fun v z=>by rw[d]at z;cases z⟩
 keep:=fun i h h' st k=>st.at fun o e=>k it (by simp) o e
 item:=by
  intro X hP hw hK hc i pins s σ H E I hf st hg
  subst hP hw hK
  obtain⟨xs,x,hq,hx⟩:=hg
  obtain⟨its,rv,p,hz⟩:=I.tuple hq
  obtain⟨u,hu,ru⟩:=rv.get hx
  obtain⟨f0,f1,f2,f3,f4,f5⟩:=hf it (by simp)
  refine wpAny_pyNext_tuple_item st (show s.heap.IsTuple a its.toArray from p) (x:=u) (by simpa using hu) fun h' st' sb=>?_
  have I1:Inv X pins σ H { s with heap:=h' }:=I.turned (t':=s.toks) (fun b o hb e=>(sb.2 b hb).trans e) f0 f1 f3 f4 f5
  obtain⟨o,e,c,d⟩:=id st'
  exact⟨u,rfl,wN (s:={ s with heap:=h' }) e c d (by decide) ⟨x,H,I1,ru,⟨rfl,fun ys hy=>by rw[I.tuple_inj hy hq];exact hx⟩,st',fun b hb=>(hf b hb).1⟩⟩
 done:=by
  intro X hP hw hK hc i pins s σ H E I hf st hg
  subst hP hw hK
  obtain⟨xs,hq,hx⟩:=hg
  obtain⟨its,rv,p,hz⟩:=I.tuple hq
  obtain⟨f0,f1,f2,f3,f4,f5⟩:=hf it (by simp)
  have hl:=rv.length
  exact wpAny_pyNext_tuple_end (I.ok.hd hc) st (show s.heap.IsTuple a its.toArray from p) (by simp;omega) fun h' eb=>⟨rfl,I.turned (t':=s.toks) (fun b o hb e=>eb b o hb e) f0 f1 f3 f4 f5⟩
 self:=fun _ _ _ _ _ st h=>wpAny_pyIter_tupleiter st h
theorem nB{P:Program}{w:World}{K:Lo}{tg:Expr}(it:Addr)(lo:Int)(n:Nat):oQ P w K tg (Itr lo n) [it] it (fun i h=>IsRangeIter h it (lo+(i:Nat)*1) ((n:Int) - (i:Nat)) 1) where
 mem:=by simp
 obj:=fun i h st b hb=>by
  have e:b=it:=by simpa using hb
  subst e
  exact⟨_,st,fun v z=>by
   have z':Data.fields _=Data.cell v:=z
   cases z'⟩
 keep:=fun i h h' st k=>k it (by simp) _ st
 item:=by
  intro X hP hw hK hc i pins s σ H E I hf st hg
  subst hP hw hK
  obtain⟨f0,f1,f2,f3,f4,f5⟩:=hf it (by simp)
  have W:=Walks.range (prog:=X.prog) (w:=X.w) (I.ok.hd hc) it lo 1 n
  refine W.item i s _ _ hg st fun v h' tk hv st' kk=>?_
  obtain⟨t,rfl⟩:=hv
  have I1:Inv X pins σ H { s with heap:=h',toks:=tk }:=I.turned (fun b o hb e=>kk b o (by simpa using hb) e) f0 f1 f3 f4 f5
  refine⟨_,rfl,wN (s:={ s with heap:=h',toks:=tk }) (n := "range_iterator") st' rfl rfl (by decide) ⟨.int (lo+i),H,I1,⟨t,?_⟩,⟨rfl,rfl⟩,st',fun b hb=>(hf b hb).1⟩⟩
  rw[Int.mul_one]
 done:=by
  intro X hP hw hK hc i pins s σ H E I hf st hg
  subst hP hw hK
  obtain⟨f0,f1,f2,f3,f4,f5⟩:=hf it (by simp)
  exact wpAny_pyNext_range_end (I.ok.hd hc) st (by have:n≤i:=hg;omega) fun h' eb=>⟨rfl,I.turned (t':=s.toks) (fun b o hb e=>eb b o hb e) f0 f1 f3 f4 f5⟩
 self:=fun _ _ _ _ _ st h=>wpAny_pyIter_rangeiter st h
section
variable {X:Cx} {tg:Expr}
theorem lZ{pins:List (Addr × Obj)}{σ:St}{H:Hp}{s:Shared}{R:It→Hp→Prop}{E:Value→Shared→Prop}{lo hi:Int}{t u v:Tok}{tk:Nat}(I:Inv X pins σ H s)(h1:-(2 ^ 62)≤lo)(h2:lo<2 ^ 62)(h3:-(2 ^ 62)≤hi)(h4:hi<2 ^ 62)
  (q:R (Itr lo (hi - lo).toNat) H):wpAny (model X.prog X.w) X.A (pyIter (.ref s.heap.objs.size)) (PIE X pins σ tg R) E { s with heap:=s.heap.push { cls:=.type "range",data:=.fields #[.int lo t,.int hi u,.int 1 v] },toks:=tk }:=by
 refine wpAny_pyIter_range (IsRange.new ..) (small_one h1 h2 h3 h4) ?_
 have I1:Inv X pins σ H { s with heap:=s.heap.push { cls:=.type "range",data:=.fields #[.int lo t,.int hi u,.int 1 v] },toks:=tk }:=I.kept fun b o e=>Lq _ e
 refine⟨(s.heap.push { cls:=.type "range",data:=.fields #[.int lo t,.int hi u,.int 1 v] }).objs.size,[(s.heap.push { cls:=.type "range",data:=.fields #[.int lo t,.int hi u,.int 1 v] }).objs.size],_,_,H,rfl,
  I1.kept (t':=tk) fun b o e=>Lq _ e,nB _ lo (hi - lo).toNat,?_,fun b hb=>?_,q⟩
 ·have e1:lo+((0:Nat):Int)*1=lo:=by simp
  have e2:(((hi - lo).toNat:Nat):Int) - ((0:Nat):Int)=Builtin.Range.rangeSize lo hi 1:=by rw[rangeSize_one];split<;>omega
  show IsRangeIter _ _ (lo+((0:Nat):Int)*1) ((((hi - lo).toNat:Nat):Int) - ((0:Nat):Int)) 1
  rw[e1,e2]
  exact LL _ rfl
 ·have e:b=(s.heap.push { cls:=.type "range",data:=.fields #[.int lo t,.int hi u,.int 1 v] }).objs.size:=by simpa using hb
  subst e
  exact I1.fpOk (LM _) (I1.hok.fresh (LM _))
def Gz(ta:TA):TI:=fun σ H R=>ta σ H fun vs H1=>∃ j:Int,vs=[.int j]∧-(2 ^ 62)≤j∧j<2 ^ 62∧R (Itr 0 j.toNat) H1
def Gy(ta:TA):TI:=fun σ H R=>ta σ H fun vs H1=>∃ i j:Int,vs=[.int i,.int j]∧(-(2 ^ 62)≤i∧i<2 ^ 62∧-(2 ^ 62)≤j∧j<2 ^ 62)∧R (Itr i (j - i).toNat) H1
theorem rW{a:Expr}{ta:TA}{p pos:Pos}(hg:Gl X "range")(hm:X.mg "range" = none)(ha:PA X [a] ta)(hs:starEach [a] X.env=[(false,eval a X.env)]:=by rfl):PI X tg (.Call (.Name "range" p) [a] [] pos) (Gz ta):=by
 intro pins s σ H R I h
 refine Call_ (Z7 I hg hm boot_range (PyProof.Rows.callWith_type1 (thn (ha pos pins s σ H _ I h) fun us s1 ⟨vs,H1,I1,r1,q1⟩=>?_) hs rfl))
 obtain⟨j,e,q1,q2,q⟩:=q1
 subst e
 cases r1 with
 | cons r rr =>
  cases rr
  obtain⟨t,rfl⟩:=r
  exact call_range_1 (lZ I1 (by omega) (by omega) q1 q2 (by simpa using q))
theorem rV{a b:Expr}{ta:TA}{p pos:Pos}(hg:Gl X "range")(hm:X.mg "range" = none)(ha:PA X [a,b] ta)(hs:starEach [a,b] X.env=[(false,eval a X.env),(false,eval b X.env)]:=by rfl)(hs2:starEach [b] X.env=[(false,eval b X.env)]:=by rfl) :
  PI X tg (.Call (.Name "range" p) [a,b] [] pos) (Gy ta):=by
 intro pins s σ H R I h
 refine Call_ (Z7 I hg hm boot_range (PyProof.Rows.callWith_type1 (thn (ha pos pins s σ H _ I h) fun us s1 ⟨vs,H1,I1,r1,q1⟩=>?_) (by rw[hs,hs2]) (by rw[hs2];rfl)))
 obtain⟨i,j,e,⟨q1,q2,q3,q4⟩,q⟩:=q1
 subst e
 cases r1 with
 | cons r rr =>
  cases rr with
  | cons r' rr =>
   cases rr
   obtain⟨t,rfl⟩:=r
   obtain⟨t',rfl⟩:=r'
   exact call_range_2 (lZ I1 q1 q2 q3 q4 q)
def HH(wi:TI)(g:TG)(tb:TS):TS:=fun D σ H=>wi σ H fun J H1=>∃ W:Nat→Nat→St→Hp→Prop,(∃ m,W 0 m σ H1)∧∀ i m σ H,W i m σ H →
 (J.stop i H∧D.nx σ H)∨(J.go i H∧∃ N:St→Hp→Prop,(∀ σ' H',N σ' H'→∃ m',m'<m∧W (i+1) m' σ' H')∧∀ x H',J.yld i H x H'→g x σ H' fun σ2 H2=>tb { D with nx:=N,ct:=N,bk:=D.nx } σ2 H2)
noncomputable def jA(fp:List Addr)(h:Heap):List (Addr × Obj):=fp.filterMap fun b=>(h.get? b).map fun o=>(b,o)
theorem F9{fp:List Addr}{h:Heap}{b:Addr}{o:Obj}(hb:b∈fp)(e:h.get? b=some o):(b,o)∈jA fp h:=Nx.mpr ⟨b,hb,by rw[e];rfl⟩
theorem so{fp:List Addr}{h:Heap}{p:Addr × Obj}(hp:p∈jA fp h):p.1∈fp∧h.get? p.1=some p.2:=by
 obtain⟨b,hb,e⟩:=Nx.mp hp
 cases q:h.get? b with
 | none=>rw[q]at e;cases e
 | some o =>
  rw[q]at e
  have e':(b,o)=p:=Option.some.inj e
  subst e'
  exact⟨hb,q⟩
theorem Inv.pinned{pins:List (Addr × Obj)}{σ:St}{H:Hp}{s:Shared}{fp:List Addr}(I:Inv X pins σ H s)(hf:∀ b∈fp,ag X pins H b)(ho:∀ b∈fp,∃ o,s.heap.get? b=some o∧∀ v,o.data ≠ .cell v):Inv X (pins++jA fp s.heap) σ H s :=
 I.pins_of fun p hp=>(LR.mp hp).elim (fun z=>I.pin p (LW _ z)) fun z=>by
  obtain⟨hb,e⟩:=so z
  obtain⟨f0,f1,f2,_⟩:=hf p.1 hb
  obtain⟨o,e',d⟩:=ho p.1 hb
  rw[e]at e';cases e'
  exact⟨e,f0,f1,f2,d⟩
theorem Inv.unpinned{pins pl:List (Addr × Obj)}{σ:St}{H:Hp}{s:Shared}(I:Inv X (pins++pl) σ H s):Inv X pins σ H s:=I.pins_of fun p hp=>I.pin p (LW _ (Mu _ hp))
theorem Dt{iter:Expr}{body:List Stmt}{wi:TI}{g:TG}{tb:TS}{pos:Pos}(hp:PassesOwn (model X.prog X.w) X.A X.env X.xe)(hc:X.calm=true)(hi:PI X tg iter wi)(hg:PG X tg g)(hb:PSs X body tb)
  (hs:∀ x,foldedSetIterable iter X.env x=pure x:=by intro _;rfl):PS X (.For tg iter body [] pos) (HH wi g tb):=by
 intro pins s σ H D I h
 refine wpAny_For (thn (hi pins s σ H _ I h) fun v s1 h1=>thn h1 fun itv s2 h2=>?_) hs
 obtain⟨it,fp,tn,J,H2,e,I2,T,st2,f2,W,⟨m0,w0⟩,turn⟩:=h2
 subst e
 have stat:∀{H':Hp},(∀ b∈fp,H' b=none)→∀ b∈fp,ag X pins H' b:=fun hn b hb=>⟨hn b hb,(f2 b hb).2⟩
 refine codeAny_forLoop_any (fun n s'=>∃ i σ' H',Inv X pins σ' H' s'∧tn i s'.heap∧(∀ b∈fp,H' b=none)∧W i n σ' H') ?_ m0 ⟨0,σ,H2,I2,st2,fun b hb=>(f2 b hb).1,w0⟩
 rintro n s3 ⟨i,σ3,H3,I3,st3,fr3,w3⟩
 rcases turn i n σ3 H3 w3 with⟨stop,qn⟩|⟨go,N,hN,step⟩
 ·refine wpAny_passesOwn hp (thn (T.done X rfl rfl rfl hc i pins s3 σ3 H3 X.xe I3 (stat fr3) st3 stop) fun r s4 zz=>?_)
  obtain⟨hr,I4⟩:=zz
  subst hr
  exact wpAny_execs_nil ⟨σ3,H3,I4,qn⟩
 ·refine wpAny_passesOwn hp (thn (T.item X rfl rfl rfl hc i pins s3 σ3 H3 X.xe I3 (stat fr3) st3 go) fun r s4 zz=>?_)
  obtain⟨u,hr,h4⟩:=zz
  subst hr
  refine wpAny_passesOwn hp (thn h4 fun _ s5 zz=>?_)
  obtain⟨x,H5,I5,r5,y5,st5,fr5⟩:=zz
  have I5':=I5.pinned (stat fr5) (T.obj _ _ st5)
  refine wpAny_passesOwn hp (thn (hg _ s5 σ3 H5 x u _ I5' r5 (step x H5 y5)) fun _ s6 zz=>?_)
  obtain⟨σ6,H6,I6,q6⟩:=zz
  refine wpAny_passesOwn hp (thn (hb _ s6 σ6 H6 _ I6 q6) fun f s7 q7=>?_)
  have again:∀{σ7:St} {H7:Hp},Inv X (pins++jA fp s5.heap) σ7 H7 s7→N σ7 H7→∃ m,m<n∧∃ i σ' H',Inv X pins σ' H' s7∧tn i s7.heap∧(∀ b∈fp,H' b=none)∧W i m σ' H':=fun{σ7 H7} I7 n7=>by
   obtain⟨m',hm,w7⟩:=hN σ7 H7 n7
   refine⟨m',hm,i+1,σ7,H7,I7.unpinned,T.keep _ _ _ st5 fun b hb o e=>(I7.pin (b,o) (LW _ (LW _ (F9 hb e)))).1,fun b hb=>?_,w7⟩
   obtain⟨o,e,d⟩:=T.obj _ _ st5 b hb
   exact(I7.pin (b,o) (LW _ (LW _ (F9 hb e)))).2.1
  cases f with
  | next=>obtain⟨σ7,H7,I7,n7⟩:=q7;exact again I7 n7
  | cont=>obtain⟨σ7,H7,I7,n7⟩:=q7;exact again I7 n7
  | brk=>obtain⟨σ7,H7,I7,q7⟩:=q7;exact⟨σ7,H7,I7.unpinned,q7⟩
  | ret v=>obtain⟨x7,σ7,H7,I7,r7,q7⟩:=q7;exact⟨x7,σ7,H7,I7.unpinned,r7,q7⟩
end
noncomputable abbrev R2:=V→V→Hp→VK→Prop
def OpR(X:Cx)(f:Value→Value→Sem Value)(r:R2):Prop :=
 ∀(pins:List (Addr × Obj)) (s:Shared) (σ:St) (H:Hp) (x y:V) (v u:Value) (Q:VK),Inv X pins σ H s→j7 x v→j7 y u→r x y H Q →
  wpAny (model X.prog X.w) X.A (f v u) (EP X pins σ Q) X.xe s
def UnR(X:Cx)(f:Value→Sem Value)(r:V→Hp→VK→Prop):Prop :=
 ∀(pins:List (Addr × Obj)) (s:Shared) (σ:St) (H:Hp) (x:V) (v:Value) (Q:VK),Inv X pins σ H s→j7 x v→r x H Q →
  wpAny (model X.prog X.w) X.A (f v) (EP X pins σ Q) X.xe s
def A6(X:Cx)(f:Value)(r:List V→Hp→VK→Prop):Prop :=
 ∀(pins:List (Addr × Obj)) (s:Shared) (σ:St) (H:Hp) (xs:List V) (us:List Value) (Q:VK),Inv X pins σ H s→i7 xs us→r xs H Q →
  wpAny (model X.prog X.w) X.A (call f us) (EP X pins σ Q) X.xe s
def tOp(r:R2)(ta tb:TE):TE:=fun σ H Q=>ta σ H fun x H1=>tb σ H1 fun y H2=>r x y H2 Q
def tUn(r:V→Hp→VK→Prop)(ta:TE):TE:=fun σ H Q=>ta σ H fun x H1=>r x H1 Q
def rI(C:Int→Int→Prop)(g:Int→Int→V):R2:=fun x y H Q=>∃ i j,x = .int i∧y = .int j∧C i j∧Q (g i j) H
def rI0(g:Int→Int→V):R2:=fun x y H Q=>∃ i j,x = .int i∧y = .int j∧Q (g i j) H
noncomputable def rU(g:Int→V):V→Hp→VK→Prop:=fun x H Q=>∃ i,x = .int i∧Q (g i) H
section
variable {X:Cx} {a b c:Expr} {ta tb tc:TE} {pos:Pos}
theorem EB(ha:PE X a ta)(hb:PE X b tb){pins:List (Addr × Obj)}{s:Shared}{σ:St}{H:Hp}{R:V→V→Hp→Prop}(I:Inv X pins σ H s)
  (h:ta σ H fun x H1=>tb σ H1 fun y H2=>R x y H2) {Q:Value→Shared→Prop} {f:Value→Value→Sem Value}
  (hf:∀ v u s2 x y H2,Inv X pins σ H2 s2→j7 x v→j7 y u→R x y H2→wpAny (model X.prog X.w) X.A (f v u) Q X.xe s2) :
  wpAny (model X.prog X.w) X.A (eval a X.env) (fun v s₁=>wpAny (model X.prog X.w) X.A (eval b X.env) (fun u s₂=>wpAny (model X.prog X.w) X.A (f v u) Q X.xe s₂) X.xe s₁) X.xe s:=by
 refine thn (ha pins s σ H _ I h) fun v s1 zz=>?_
 obtain⟨x,H1,I1,r1,q1⟩:=zz
 refine thn (hb pins s1 σ H1 _ I1 q1) fun u s2 zz=>?_
 obtain⟨y,H2,I2,r2,q2⟩:=zz
 exact hf v u s2 x y H2 I2 r1 r2 q2
theorem BI{op:Operator}{r:R2}(ho:OpR X (binaryOp op) r)(ha:PE X a ta)(hb:PE X b tb):PE X (.BinOp a op b pos) (tOp r ta tb):=by
 intro pins s σ H Q I h
 exact wpAny_BinOp (EB ha hb I h fun v u s2 x y H2 I2 rx ry q=>ho pins s2 σ H2 x y v u Q I2 rx ry q)
theorem FR{op:UnaryOp}{r:V→Hp→VK→Prop}(ho:UnR X (unaryOp op) r)(ha:PE X a ta):PE X (.UnaryOp op a pos) (tUn r ta):=by
 intro pins s σ H Q I h
 exact UnaryOp_ (thn (ha pins s σ H _ I h) fun v s1 ⟨x,H1,I1,r1,q1⟩=>ho pins s1 σ H1 x v Q I1 r1 q1)
theorem opI{f:Value→Value→Sem Value}{C:Int→Int→Prop}{g:Int→Int→Int}
  (rule:∀(i j:Int) (t u:Tok) (s:Shared) (Q:Value→Shared→Prop) (E:Value→Shared→Prop),C i j→Q (.int (g i j) s.toks) { s with toks:=s.toks+1 }→wpAny (model X.prog X.w) X.A (f (.int i t) (.int j u)) Q E s) :
  OpR X f (rI C fun i j=>.int (g i j)):=by
 intro pins s σ H x y v u Q I rx ry h
 obtain⟨i,j,rfl,rfl,hc,q⟩:=h
 obtain⟨t,rfl⟩:=rx
 obtain⟨t',rfl⟩:=ry
 exact rule i j t t' s _ _ hc ⟨.int (g i j),H,I.tok _,⟨_,rfl⟩,q⟩
theorem Gd{f:Value→Value→Sem Value}{g:Int→Int→Int}
  (rule:∀(i j:Int) (t u:Tok) (s:Shared) (Q:Value→Shared→Prop) (E:Value→Shared→Prop),Q (.int (g i j) s.toks) { s with toks:=s.toks+1 }→wpAny (model X.prog X.w) X.A (f (.int i t) (.int j u)) Q E s) :
  OpR X f (rI0 fun i j=>.int (g i j)):=by
 intro pins s σ H x y v u Q I rx ry h
 obtain⟨i,j,rfl,rfl,q⟩:=h
 obtain⟨t,rfl⟩:=rx
 obtain⟨t',rfl⟩:=ry
 exact rule i j t t' s _ _ ⟨.int (g i j),H,I.tok _,⟨_,rfl⟩,q⟩
theorem zM{f:Value→Value→Sem Value}{g:Int→Int→Bool}
  (rule:∀(i j:Int) (t u:Tok) (s:Shared) (Q:Value→Shared→Prop) (E:Value→Shared→Prop),Q (.bool (g i j)) s→wpAny (model X.prog X.w) X.A (f (.int i t) (.int j u)) Q E s) :
  OpR X f (rI0 fun i j=>.bl (g i j)):=by
 intro pins s σ H x y v u Q I rx ry h
 obtain⟨i,j,rfl,rfl,q⟩:=h
 obtain⟨t,rfl⟩:=rx
 obtain⟨t',rfl⟩:=ry
 exact rule i j t t' s _ _ ⟨.bl (g i j),H,I,rfl,q⟩
def xO(i j:Int):Prop:=0≤j∧j≤1000000∧i.natAbs<2 ^ 64
theorem DP:OpR X (binaryOp .Add) (rI0 fun i j=>.int (i+j)):=Gd fun _ _ _ _ _ _ _ q=>add_int q
theorem DM:OpR X (binaryOp .Sub) (rI0 fun i j=>.int (i - j)):=Gd fun _ _ _ _ _ _ _ q=>sub_int q
theorem DO:OpR X (binaryOp .Mod) (rI (fun _ j=>0<j) fun i j=>.int (i % j)):=opI fun i j _ _ _ _ _ hc q=>by
 have h1:(0:Int)<j:=hc
 exact mod_int' (by omega) (by rw[Int.fmod_eq_emod_of_nonneg i (by omega)];exact q)
theorem DN:OpR X (binaryOp .Pow) (rI xO fun i j=>.int (i ^ j.toNat)):=opI fun _ _ _ _ _ _ _ hc q=>pow_int_small hc.1 hc.2.1 hc.2.2 q
theorem unI{f:Value→Sem Value}{g:Int→Int}
  (rule:∀(i:Int) (t:Tok) (s:Shared) (Q:Value→Shared→Prop) (E:Value→Shared→Prop),Q (.int (g i) s.toks) { s with toks:=s.toks+1 }→wpAny (model X.prog X.w) X.A (f (.int i t)) Q E s) :
  UnR X f (rU fun i=>.int (g i)):=by
 intro pins s σ H x v Q I rx h
 obtain⟨i,rfl,q⟩:=h
 obtain⟨t,rfl⟩:=rx
 exact rule i t s _ _ ⟨.int (g i),H,I.tok _,⟨_,rfl⟩,q⟩
theorem CI:UnR X (unaryOp .USub) (rU fun i=>.int (-i)):=unI fun _ _ _ _ _ q=>neg_int q
end
noncomputable def FK:V→V→Bool
 | .non,.non=>true|.non,.int _=>true|.int _,.non=>true|.non,.bl _=>true|.bl _,.non=>true|.non,.str _=>true|.str _,.non=>true
 | .int _,.int _=>true|.bl _,.bl _=>true|.str _,.str _=>true|.byt _,.byt _=>true
 | .int _,.str _=>true|.str _,.int _=>true|.bl _,.str _=>true|.str _,.bl _=>true
 | _,_=>false
def rEq:R2:=fun x y H Q=>FK x y=true∧Q (.bl (decide (x=y))) H
def rNe:R2:=fun x y H Q=>FK x y=true∧Q (.bl (!decide (x=y))) H
theorem qT{i j:Int}:decide (V.int i=V.int j)=(i == j):=by
 rw[Ny]
 simp
theorem ke{i j:Bool}:decide (V.bl i=V.bl j)=(i == j):=by
 rw[Ny]
 simp
theorem qS{i j:Str}:decide (V.str i=V.str j)=(i == j):=by
 rw[Ny]
 simp
theorem qU{i j:Array UInt8}:decide (V.byt i=V.byt j)=(i.toList == j.toList):=by
 rw[Ny]
 cases i
 cases j
 simp
section
variable {X:Cx} {a b c:Expr} {ta tb tc:TE} {pos:Pos}
theorem o7{pins:List (Addr × Obj)}{σ:St}{H:Hp}{s:Shared}{Q:VK}{k k':Bool}(I:Inv X pins σ H s)(q:Q (.bl k) H)(e:k=k'):EP X pins σ Q (.bool k') s:=by
 subst e
 exact⟨.bl k,H,I,rfl,q⟩
theorem vW:OpR X (compareOp .Eq) rEq:=by
 intro pins s σ H x y v u Q I rx ry h
 obtain⟨hs,q⟩:=h
 cases x with
 | non =>
  cases rx
  cases y with
  | non=>cases ry;exact PySem.EqNone.eq_none_none (o7 I q (by simp))
  | bl j=>cases ry;exact PySem.EqNone.eq_none_bool (o7 I q (by simp))
  | int j=>obtain⟨t',rfl⟩:=ry;exact PySem.EqNone.eq_none_int (o7 I q (by simp))
  | str j=>obtain⟨t',rfl⟩:=ry;exact PySem.EqNone.eq_none_str (o7 I q (by simp))
  | _=>exact absurd (show false=true from hs) LN
 | bl i =>
  cases rx
  cases y with
  | non=>cases ry;exact PySem.EqNone.eq_bool_none (o7 I q (by simp))
  | bl j=>cases ry;exact eq_bool (o7 I q ke)
  | str j=>obtain⟨t',rfl⟩:=ry;exact PySem.EqMixed.eq_bool_str (o7 I q (by simp))
  | _=>exact absurd (show false=true from hs) LN
 | int i =>
  obtain⟨t,rfl⟩:=rx
  cases y with
  | non=>cases ry;exact PySem.EqNone.eq_int_none (o7 I q (by simp))
  | int j=>obtain⟨t',rfl⟩:=ry;exact eq_int (o7 I q qT)
  | str j=>obtain⟨t',rfl⟩:=ry;exact PySem.EqMixed.eq_int_str (o7 I q (by simp))
  | _=>exact absurd (show false=true from hs) LN
 | str i =>
  obtain⟨t,rfl⟩:=rx
  cases y with
  | non=>cases ry;exact PySem.EqNone.eq_str_none (o7 I q (by simp))
  | bl j=>cases ry;exact PySem.EqMixed.eq_str_bool (o7 I q (by simp))
  | int j=>obtain⟨t',rfl⟩:=ry;exact PySem.EqMixed.eq_str_int (o7 I q (by simp))
  | str j=>obtain⟨t',rfl⟩:=ry;exact eq_str (o7 I q qS)
  | _=>exact absurd (show false=true from hs) LN
 | byt i =>
  obtain⟨t,rfl⟩:=rx
  cases y with
  | byt j=>obtain⟨t',rfl⟩:=ry;exact PySem.W.eq_bytes (o7 I q qU)
  | _=>exact absurd (show false=true from hs) LN
 | _=>cases y<;>exact absurd (show false=true from hs) LN
theorem vU:OpR X (compareOp .NotEq) rNe:=by
 intro pins s σ H x y v u Q I rx ry h
 obtain⟨hs,q⟩:=h
 cases x with
 | non =>
  cases rx
  cases y with
  | non=>cases ry;exact PySem.EqNone.ne_none_none (o7 I q (by simp))
  | bl j=>cases ry;exact PySem.EqNone.ne_none_bool (o7 I q (by simp))
  | int j=>obtain⟨t',rfl⟩:=ry;exact PySem.EqNone.ne_none_int (o7 I q (by simp))
  | str j=>obtain⟨t',rfl⟩:=ry;exact PySem.EqNone.ne_none_str (o7 I q (by simp))
  | _=>exact absurd (show false=true from hs) LN
 | bl i =>
  cases rx
  cases y with
  | non=>cases ry;exact PySem.EqNone.ne_bool_none (o7 I q (by simp))
  | bl j=>cases ry;exact ne_bool (o7 I q (congrArg not ke))
  | str j=>obtain⟨t',rfl⟩:=ry;exact PySem.EqMixed.ne_bool_str (o7 I q (by simp))
  | _=>exact absurd (show false=true from hs) LN
 | int i =>
  obtain⟨t,rfl⟩:=rx
  cases y with
  | non=>cases ry;exact PySem.EqNone.ne_int_none (o7 I q (by simp))
  | int j=>obtain⟨t',rfl⟩:=ry;exact ne_int (o7 I q (congrArg not qT))
  | str j=>obtain⟨t',rfl⟩:=ry;exact PySem.EqMixed.ne_int_str (o7 I q (by simp))
  | _=>exact absurd (show false=true from hs) LN
 | str i =>
  obtain⟨t,rfl⟩:=rx
  cases y with
  | non=>cases ry;exact PySem.EqNone.ne_str_none (o7 I q (by simp))
  | bl j=>cases ry;exact PySem.EqMixed.ne_str_bool (o7 I q (by simp))
  | int j=>obtain⟨t',rfl⟩:=ry;exact PySem.EqMixed.ne_str_int (o7 I q (by simp))
  | str j=>obtain⟨t',rfl⟩:=ry;exact ne_str (o7 I q (congrArg not qS))
  | _=>exact absurd (show false=true from hs) LN
 | byt i =>
  obtain⟨t,rfl⟩:=rx
  cases y with
  | byt j=>obtain⟨t',rfl⟩:=ry;exact PySem.W.ne_bytes (o7 I q (congrArg not qU))
  | _=>exact absurd (show false=true from hs) LN
 | _=>cases y<;>exact absurd (show false=true from hs) LN
theorem FY:OpR X (compareOp .Lt) (rI0 fun i j=>.bl (decide (i<j))):=zM fun _ _ _ _ _ _ _ q=>lt_int q
theorem FZ:OpR X (compareOp .LtE) (rI0 fun i j=>.bl (decide (i≤j))):=zM fun _ _ _ _ _ _ _ q=>le_int q
theorem Ga:OpR X (compareOp .Gt) (rI0 fun i j=>.bl (decide (j<i))):=zM fun _ _ _ _ _ _ _ q=>gt_int q
theorem Gb:OpR X (compareOp .GtE) (rI0 fun i j=>.bl (decide (j≤i))):=zM fun _ _ _ _ _ _ _ q=>ge_int q
noncomputable def Gw:HO→Bool
 | .lst _=>true
 | .ins _ _ _=>true
 | _=>false
theorem gS{pins:List (Addr × Obj)}{s:Shared}{σ:St}{H:Hp}{a:Addr}{o:HO}(I:Inv X pins σ H s)(h:H a=some o)(p:Gw o=true):∃ ob,s.heap.get? a=some ob∧ob.cls ≠ .type "tuple" := by
 cases o with
 | lst xs =>
  obtain⟨_,its,n,_,e⟩:xs.length≤sizeLine∧∃(its:List Value) (n:Nat),i7 xs its∧s.heap.get? a=some { cls:=.type "list",data:=.seq its.toArray n }:=I.hok a _ h
  exact⟨_,e,(by show Value.type "list" ≠ .type "tuple";decide +kernel)⟩
 | ins C dx fs =>
  have x:=I.hok a _ h
  obtain⟨_,_,_,e,_⟩:=x
  exact⟨_,e,(by show Value.ref C ≠ .type "tuple";exact fun z=>by cases z)⟩
 | _=>exact absurd (show false=true from p) LN
theorem OpR.or{f:Value→Value→Sem Value}{r r':R2}(h:OpR X f r)(h':OpR X f r'):OpR X f (fun x y H Q=>r x y H Q∨r' x y H Q):=by
 intro pins s σ H x y v u Q I rx ry q
 rcases q with q|q
 ·exact h pins s σ H x y v u Q I rx ry q
 ·exact h' pins s σ H x y v u Q I rx ry q
theorem wm(b:Expr){op:CmpOp}(h:op ≠ .In:=by decide)(h2:op ≠ .NotIn:=by decide):behindInMarks op b=false:=by
 have e1:(op == CmpOp.In)=false:=by cases op<;>first|rfl|exact absurd rfl h
 have e2:(op == CmpOp.NotIn)=false:=by cases op<;>first|rfl|exact absurd rfl h2
 cases b<;>simp[behindInMarks,e1,e2]
theorem zy{op:CmpOp}{r:R2}(ho:OpR X (compareOp op) r)(ha:PE X a ta)(hb:PE X b tb)(hm:behindInMarks op b=false):PE X (.Compare a [op] [b] pos) (tOp r ta tb):=by
 intro pins s σ H Q I h
 exact wpAny_Compare1 (EB ha hb I h fun v u s2 x y H2 I2 rx ry q=>ho pins s2 σ H2 x y v u Q I2 rx ry q) hm
def Fy(t:TE):TT:=fun σ H Q=>t σ H fun x H'=>∃ k,x = .bl k∧Q k H'
theorem zj{op:CmpOp}{r:R2}(ho:OpR X (compareOp op) r)(ha:PE X a ta)(hb:PE X b tb)(hm:behindInMarks op b=false):PT X (.Compare a [op] [b] pos) (Fy (tOp r ta tb)):=by
 intro pins s σ H Q I h
 refine wpAny_isTrue_Compare1 (thn (ha pins s σ H _ I h) fun v s1 ⟨x,H1,I1,r1,q1⟩=>thn (hb pins s1 σ H1 _ I1 q1) fun u s2 ⟨y,H2,I2,r2,q2⟩ =>
  thn (ho pins s2 σ H2 x y v u _ I2 r1 r2 q2) fun c s3 ⟨z,H3,I3,r3,k,e,q3⟩=>?_) hm
 subst e
 cases r3
 exact wpAny_truthy_bool ⟨H3,I3,q3⟩
theorem jR:(sizeLine:Nat)<2 ^ 63:=by rw[sizeLine_eq];decide
theorem lD{x:V}{us:List Value}(r:i7 [x] us):∃ u,us=[u]∧j7 x u:=by
 cases r with
 | cons r1 r2=>cases r2;exact⟨_,rfl,r1⟩
theorem uK{x y:V}{us:List Value}(r:i7 [x,y] us):∃ u w',us=[u,w']∧j7 x u∧j7 y w':=by
 cases r with
 | cons r1 r2 =>
  cases r2 with
  | cons r3 r4=>cases r4;exact⟨_,_,rfl,r1,r3⟩
theorem xt:A6 X (.builtin "abs") (fun xs H Q=>∃ i,xs=[.int i]∧Q (.int (if i<0 then -i else i)) H):=by
 intro pins s σ H xs us Q I r h
 obtain⟨i,rfl,q⟩:=h
 obtain⟨u,rfl,t,rfl⟩:=lD r
 exact call_abs_int fun u tk=>⟨.int (if i<0 then -i else i),H,I.tok _,⟨_,rfl⟩,q⟩
theorem sR(hc:X.calm=true):A6 X (.builtin "max") (fun xs H Q=>∃ i j,xs=[.int i,.int j]∧Q (.int (if j > i then j else i)) H):=by
 intro pins s σ H xs us Q I r h
 obtain⟨i,j,rfl,q⟩:=h
 obtain⟨u,w',rfl,⟨t,rfl⟩,⟨t',rfl⟩⟩:=uK r
 refine max_two_ints (I.ok.hd hc) fun h' tk k=>⟨_,H,I.kept k,?_,q⟩
 by_cases hj:j > i
 ·rw[if_pos hj,if_pos hj];exact⟨_,rfl⟩
 ·rw[if_neg hj,if_neg hj];exact⟨_,rfl⟩
theorem sQ(hc:X.calm=true):A6 X (.builtin "min") (fun xs H Q=>∃ i j,xs=[.int i,.int j]∧Q (.int (if j<i then j else i)) H):=by
 intro pins s σ H xs us Q I r h
 obtain⟨i,j,rfl,q⟩:=h
 obtain⟨u,w',rfl,⟨t,rfl⟩,⟨t',rfl⟩⟩:=uK r
 refine min_two_ints (I.ok.hd hc) fun h' tk k=>⟨_,H,I.kept k,?_,q⟩
 by_cases hj:j<i
 ·rw[if_pos hj,if_pos hj];exact⟨_,rfl⟩
 ·rw[if_neg hj,if_neg hj];exact⟨_,rfl⟩
end
structure EH(h:Heap)(x dx C:Addr)(mA:Str→Option Value):Prop where
 obj:h.get? x=some (PySem.W.instObj C dx)
 ns:h.Ns1 dx mA
 ne:dx≠x
theorem sr{h:Heap}{dx:Addr}{mA:Str→Option Value}(n:h.Ns1 dx mA):∃ od,h.get? dx=some od∧∀ name,PySem.W.lookIn name od=some (mA name):=by
 obtain⟨o,es,ep,ho,hd,hk,_,hm⟩:=n
 refine⟨o,ho,fun name=>?_⟩
 have e:=hm name
 unfold nsFind findBy at e
 rw[← Array.find?_toList]at e
 unfold PySem.W.lookIn
 rw[hd]
 dsimp only
 split
 ·rename_i y q
  rw[q]at e
  exact congrArg some e
 ·rename_i q
  rw[q]at e
  have a:es.toList.any (·.refKey)=false:=by
   rw[PF]
   intro y hy
   obtain⟨z,t,hkey⟩:=hk y (Array.mem_toList_iff.mp hy)
   simp[DictEntry.refKey,hkey]
  have a':¬ es.toList.any (·.refKey)=true:=by rw[a];exact LN
  rw[if_neg a']
  exact congrArg some e
theorem EH.look{h:Heap}{x dx C:Addr}{mA:Str→Option Value}(I:EH h x dx C mA):∃ od,PySem.W.InstAt h x (PySem.W.instObj C dx) C (some od)∧∀ name,PySem.W.lookIn name od=some (mA name) :=
 let ⟨od,ho,hl⟩:=sr I.ns
 ⟨od,⟨I.obj,rfl,rfl,ho⟩,hl⟩
section
variable {prog:Program} {w:World} {A:Around} {E:Value→Shared→Prop} {s:Shared} {K:Lo} {x dx C f:Addr} {mA:Str→Option Value} {name:Str} {v:Value}
end
section
variable {P:Program} {w:World} {H H':Hp} {h h':Heap} {a C dx:Addr} {fs fs':List (Str × V)}
theorem Aj(hok:HOk P w H h)(e:H a=some (.ins C dx fs)):∃ mA,EH h a dx C mA∧(∀ f,EG (fs.lookup f) (mA f))∧PySem.Within mA (fs.map (·.1))∧fs.length≤1000∧H dx=some (.own a):=by
 obtain⟨d,z,ne,ob,mA,n,r,q⟩:=(show B4 P w H h a (.ins C dx fs)from hok a _ e)
 exact⟨mA,⟨ob,n,ne⟩,r,q,z,d⟩
end
structure Cls(K:Lo)(C:Addr):Prop where
 pg:PySem.W.plainGet K C Str.empty=true
 hd:PySem.W.hasDictIn K C=true
 po:PySem.W.plainOver K C=true
 sa:PySem.W.findIn K (.ref C) "__setattr__" = some (some (.builtin "object.__setattr__"))
theorem Cls.get{K:Lo}{C:Addr}(c:Cls K C)(f:Str):PySem.W.plainGet K C f=true:=c.pg
section
variable {X:Cx} {pins:List (Addr × Obj)} {σ:St} {H:Hp} {s:Shared} {a C dx:Addr} {fs:List (Str × V)} {f:Str} {v:V} {A:Around} {E:Value→Shared→Prop}
end
section
variable {X:Cx} {o e value:Expr} {f:Str} {pos pos' tpos:Pos} {ta tv:TE}
end
section
variable {X:Cx} {pins:List (Addr × Obj)} {σ:St} {H:Hp} {s:Shared} {A:Around} {E:Value→Shared→Prop} {Q:Value→Shared→Prop} {c:Value} {b:Bool}
inductive cw (K:Lo) (H:Hp):V→Value→Prop where
 | non:cw K H .non (.type "NoneType")
 | bl (x:Bool):cw K H (.bl x) (.type "bool")
 | int (i:Int):cw K H (.int i) (.type "int")
 | str (x:Str):cw K H (.str x) (.type "str")
 | flt (x:UInt64):cw K H (.flt x) (.type "float")
 | lst {a:Addr} {xs:List V} (e:H a=some (.lst xs)):cw K H (.ref a) (.type "list")
 | frz {a:Addr} {o:Obj} {xs:List V} (e:H a=some (.frz o (.lst xs))):cw K H (.ref a) (.type "list")
 | tup {a:Addr} {xs:List V} (e:H a=some (.tup xs)):cw K H (.ref a) (.type "tuple")
 | dK {a:Addr} {kvs:List (Key × V)} (e:H a=some (.dK kvs)):cw K H (.ref a) (.type "dict")
 | dT {a:Addr} {kvs:List (List Key × V)} (e:H a=some (.dT kvs)):cw K H (.ref a) (.type "dict")
 | ins {a C dx:Addr} {fs:List (Str × V)} (e:H a=some (.ins C dx fs)) (cl:Cls K C) (ha:PySem.W.findIn K (.ref C) "__class__" = some (some (.builtin "object.__class__")))
   (hn:PySem.W.specialIn K (.builtin "object.__class__") "__get__" = some (some (.builtin "getset_descriptor.__get__"))) (htk:PySem.W.takesIn K (.builtin "object.__class__")=some true)
   (hm:PySem.W.mroIn K C (.type "object")=some true):cw K H (.ref a) (.ref C)
theorem O6{x:V}{u t:Value}(I:Inv X pins σ H s)(rx:j7 x u)(ty:cw X.K H x t)(e:PySem.W.kitOne X.K t c=some b)(h:∀ tk,Q (.bool b) { s with toks:=tk }) :
  wpAny (model X.prog X.w) A (call (.builtin "isinstance") [u,c]) Q E s:=by
 cases ty with
 | non=>cases(show u=Value.none from rx);exact PySem.W.kia_one PySem.W.kitx_none I.kIn True.intro e (fun z=>nomatch z) h
 | bl y=>cases(show u=Value.bool y from rx);exact PySem.W.kia_one PySem.W.kitx_bool I.kIn True.intro e (fun z=>nomatch z) h
 | int i=>obtain⟨t,q⟩:=(show ∃ t,u=Value.int i t from rx);cases q;exact PySem.W.kia_one PySem.W.kitx_int I.kIn True.intro e (fun z=>nomatch z) h
 | str y=>obtain⟨t,q⟩:=(show ∃ t,u=Value.str y t from rx);cases q;exact PySem.W.kia_one PySem.W.kitx_str I.kIn True.intro e (fun z=>nomatch z) h
 | flt y=>obtain⟨t,q⟩:=(show ∃ t,u=Value.float y t from rx);cases q;exact PySem.W.kia_one PySem.W.kitx_float I.kIn True.intro e (fun z=>nomatch z) h
 | @lst a xs ea =>
  cases(show u=Value.ref a from rx)
  obtain⟨_,_,n,_,h1⟩:=(show B4 X.prog X.w H s.heap a (.lst xs)from I.hok a _ ea)
  exact PySem.W.kia_one PySem.W.kitx_list I.kIn ⟨_,h1,rfl⟩ e (fun z=>nomatch z) h
 | @frz a ob xs ea =>
  cases(show u=Value.ref a from rx)
  obtain⟨_,_,_,n,_,h1⟩:=(show B4 X.prog X.w H s.heap a (.frz ob (.lst xs))from I.hok a _ ea)
  exact PySem.W.kia_one PySem.W.kitx_list I.kIn ⟨_,h1,rfl⟩ e (fun z=>nomatch z) h
 | @tup a xs ea =>
  cases(show u=Value.ref a from rx)
  obtain⟨_,_,_,p⟩:=(show B4 X.prog X.w H s.heap a (.tup xs)from I.hok a _ ea)
  obtain⟨o,h1,h2,_⟩:=p
  exact PySem.W.kia_one PySem.W.kitx_tuple I.kIn ⟨o,h1,h2⟩ e (fun z=>nomatch z) h
 | @dK a kvs ea =>
  cases(show u=Value.ref a from rx)
  obtain⟨_,_,vs,_,p⟩:=(show B4 X.prog X.w H s.heap a (.dK kvs)from I.hok a _ ea)
  obtain⟨o,es,ep,h1,h2,_⟩:=p
  exact PySem.W.kia_one PySem.W.kitx_dict I.kIn ⟨o,h1,h2.1⟩ e (fun z=>nomatch z) h
 | @dT a kvs ea =>
  cases(show u=Value.ref a from rx)
  obtain⟨_,_,xs,_,o,es,ep,h1,h2,_⟩:=(show B4 X.prog X.w H s.heap a (.dT kvs)from I.hok a _ ea)
  exact PySem.W.kia_one PySem.W.kitx_dict I.kIn ⟨o,h1,h2.1⟩ e (fun z=>nomatch z) h
 | @ins a C dx fs ea cl ha hn htk hm =>
  cases(show u=Value.ref a from rx)
  obtain⟨mA,O,_⟩:=Aj I.hok ea
  obtain⟨od,J,_⟩:=O.look
  exact PySem.W.kia_one (PySem.W.kitx_own (cl.get _) cl.hd ha hn htk hm) I.kIn J e (fun z=>nomatch z) h
end
structure J1(k:Nat)(A:Around):Prop where
 hd:A.handled=none
 dp:A.depth+3*k+5<recursionLimit
 un:A.units+16*k+200<cLine
theorem J1.mono{j k:Nat}{A:Around}(r:J1 k A)(h:j≤k):J1 j A:=⟨r.hd,by have:=r.dp;omega,by have:=r.un;omega⟩
theorem J1.deeper{k:Nat}{A:Around}(r:J1 (k+1) A)(env:Env):J1 k (A.deeper env) :=
 ⟨r.hd,by have:=r.dp;show A.depth+1+3*k+5<_;omega,by have:=r.un;show A.units+3+16*k+200<_;omega⟩
theorem J1.in1{k:Nat}{A:Around}(r:J1 (k+1) A):J1 k A.in1 :=
 ⟨r.hd,by have:=r.dp;show A.depth+3*k+5<_;omega,by have:=r.un;show A.units+1+16*k+200<_;omega⟩
theorem J1.depth{k:Nat}{A:Around}(r:J1 k A):A.depth<recursionLimit:=by have:=r.dp;omega
theorem J1.units{k:Nat}{A:Around}(r:J1 k A):A.units+64<cLine:=by have:=r.un;omega
def HE:TA:=fun _ H Q=>Q [] H
def FG(ta:TE)(tr:TA):TA:=fun σ H Q=>ta σ H fun x H1=>tr σ H1 fun xs H2=>Q (x :: xs) H2
section
variable {X:Cx} {e:Expr} {es:List Expr} {te:TE} {t:TA} {pos:Pos}
theorem DI:PA X [] HE:=fun _ _ _ _ H Q I h=>Calls.spliced_nil ⟨[],H,I,.nil,h⟩
theorem zH(ha:PE X e te)(hr:PA X es t)(hs:starEach (e :: es) X.env=(false,eval e X.env) :: starEach es X.env:=by rfl):PA X (e :: es) (FG te t):=by
 intro pos pins s σ H Q I h
 rw[hs]
 show wpAny _ _ (spliced ((false,eval e X.env) :: backTo pos (starEach es X.env))) _ _ s
 refine Calls.spliced_cons (thn (ha pins s σ H _ I h) fun u s1 zz=>?_)
 obtain⟨x,H1,I1,r1,q1⟩:=zz
 exact thn (hr pos pins s1 σ H1 _ I1 q1) fun us s2 ⟨xs,H2,I2,r2,q2⟩=>⟨x :: xs,H2,I2,.cons r1 r2,q2⟩
def Hy(t:TA):TE:=fun σ H Q=>t σ H fun xs H1=>xs.length≤sizeLine∧∀ p,H1 p=none→Q (.ref p) (upd H1 p (.tup xs))
def HF(t:TA):TE:=fun σ H Q=>t σ H fun xs H1=>xs.length≤sizeLine∧∀ p,H1 p=none→Q (.ref p) (upd H1 p (.lst xs))
theorem DA{x1}(h:PA X es t):PE X (.Tuple es x1 pos) (Hy t):=by
 intro pins s σ H Q I hq
 refine wpAny_Tuple_spliced (thn (h pos pins s σ H _ I hq) fun us s1 ⟨xs,H1,I1,r,z,q⟩=>⟨by rw[← r.length];exact z,?_⟩)
 have hf:H1 s1.heap.objs.size=none:=I1.hok.fresh (LM _)
 refine⟨.ref s1.heap.objs.size,upd H1 s1.heap.objs.size (.tup xs),I1.laid (t':=s1.toks) (fun b u e=>Lq _ e) (LM _) ?_,rfl,q _ hf⟩
 exact⟨z,us,r,⟨_,LL _ rfl,rfl,_,rfl⟩⟩
theorem vP(h:PA X es t):PE X (.List es pos) (HF t):=by
 intro pins s σ H Q I hq
 refine wpAny_List_spliced (thn (h pos pins s σ H _ I hq) fun us s1 ⟨xs,H1,I1,r,z,q⟩=>⟨by rw[← r.length];exact z,?_⟩)
 have hf:H1 s1.heap.objs.size=none:=I1.hok.fresh (LM _)
 refine⟨.ref s1.heap.objs.size,upd H1 s1.heap.objs.size (.lst xs),I1.laid (t':=s1.toks) (fun b u e=>Lq _ e) (LM _) ?_,rfl,q _ hf⟩
 exact⟨z,us,0,r,LL _ rfl⟩
end
noncomputable abbrev Sp:=List V→Hp→VK→XK→Prop
noncomputable abbrev CXT:=List Env→Hp→Shared→XK→Value→Shared→Prop
structure oS(P:Program)(w:World)(K:Lo)(mg:Str→Option Value)(base:Heap)(A:Around)(outer:List Env)(s:Shared)(H:Hp):Prop where
 frames:A.frames=some outer
 mod:Mod K mg base
 bs:∀ b o,base.get? b=some o→s.heap.get? b=some o∧H b=none
 bsz:base.objs.size≤s.heap.objs.size
 funs:s.heap.FunFrames base outer
 frf:∀ b∈frs outer,H b=none
 hok:HOk P w H s.heap
 bare:AllBare s.gens
def CE(outer:List Env)(P:Program)(w:World)(H:Hp)(s:Shared)(Q:VK)(u:Value)(s':Shared):Prop :=
 ∃ v H',s'.os=s.os∧AllBare s'.gens∧Un (frs outer) [] H H' s.heap s'.heap∧HOk P w H' s'.heap∧j7 v u∧Q v H'
def CR(CX:CXT)(outer:List Env)(P:Program)(w:World)(H:Hp)(s:Shared)(Q:VK)(E:XK)(r:Result)(s':Shared):Prop :=
 match r with
 | .ok (.ret u)=>CE outer P w H s Q u s'
 | .ok _=>False
 | .error e=>CX outer H s E e s'
structure R7(P:Program)(w:World)(K:Lo)(mg:Str→Option Value)(base:Heap)(CX:CXT)(k:Nat)(f:Addr)(fd:FuncData)(ps:List Str)(sp:Sp):Prop where
 len:∀ vs H Q E,sp vs H Q E→vs.length=ps.length
 run:∀(A:Around) (outer:List Env) (s:Shared) (H:Hp) (args:Args) (us:List Value) (vs:List V) (Q:VK) (E:XK),J1 k A→oS P w K mg base A outer s H→BindsTo s fd args (ps.zip us)→i7 vs us→sp vs H Q E →
  codeAny (model P w) A (.call (.ref f) args) (CR CX outer P w H s Q E) s
theorem R7.mono{P:Program}{w:World}{K:Lo}{mg:Str→Option Value}{base:Heap}{CX:CXT}{j k:Nat}{f:Addr}{fd:FuncData}{ps:List Str}{sp:Sp}(F:R7 P w K mg base CX j f fd ps sp)(h:j≤k) :
  R7 P w K mg base CX k f fd ps sp:=⟨F.len,fun A outer s H args us vs Q E hr=>F.run A outer s H args us vs Q E (hr.mono h)⟩
theorem R7.imp{P:Program}{w:World}{K:Lo}{mg:Str→Option Value}{base:Heap}{CX:CXT}{k:Nat}{f:Addr}{fd:FuncData}{ps:List Str}{sp sp':Sp}(F:R7 P w K mg base CX k f fd ps sp)
  (h:∀ vs H Q E,sp' vs H Q E→sp vs H Q E):R7 P w K mg base CX k f fd ps sp' :=
 ⟨fun vs H Q E q=>F.len vs H Q E (h _ _ _ _ q),fun A outer s H args us vs Q E hr he hb hv hs=>F.run A outer s H args us vs Q E hr he hb hv (h _ _ _ _ hs)⟩
theorem oS.in1{P:Program}{w:World}{K:Lo}{mg:Str→Option Value}{base:Heap}{A:Around}{outer:List Env}{s:Shared}{H:Hp}(e:oS P w K mg base A outer s H) :
  oS P w K mg base A.in1 outer s H:=⟨e.frames,e.mod,e.bs,e.bsz,e.funs,e.frf,e.hok,e.bare⟩
section
variable {X:Cx} {pins:List (Addr × Obj)} {σ:St} {H:Hp} {s s':Shared}
theorem Inv.env0(I:Inv X pins σ H s):oS X.prog X.w X.K X.mg X.base X.A X.stack s H :=
 ⟨I.ok.frames,I.ok.mod,I.bs,LB I.ok.bsz I.sz,I.stack,I.stkFree,I.hok,I.bare⟩
theorem Inv.after{Q:VK}{u:Value}(I:Inv X pins σ H s)(h:CE X.stack X.prog X.w H s Q u s'):EP X pins σ Q u s':=by
 obtain⟨v,H',os,bare,un,hok,r,q⟩:=h
 obtain⟨hh,g,d,t,os'⟩:=s'
 obtain rfl:os'=s.os:=os
 exact⟨v,H',I.call (h':=hh) (g':=g) (d':=d) (t':=t) (ch:=[]) un hok bare (fun b z=>absurd z (by simp)),r,q⟩
end
def FH(sp:Sp)(dvs:List V)(E:XK)(t:TA):TE:=fun σ H Q=>t σ H fun vs H1=>sp (vs++dvs) H1 Q E
def fD(K:Lo)(fd:FuncData)(ps:List Str)(ds:List Value):Prop :=
 ∀(s:Shared) (us:List Value),K.In s.heap→(us++ds).length=ps.length→BindsTo s fd ⟨us,[]⟩ (ps.zip (us++ds))
theorem fD.all{K:Lo}{fd:FuncData}{ps:List Str}(h:∀ us:List Value,us.length=ps.length→bindArgs fd ⟨us,[]⟩=pure (ps.zip us)):fD K fd ps []:=fun s us _ hl=>by
 rw[Ng]at hl ⊢
 exact .of_eq (h us hl)
def kD(CX:CXT)(X:Cx)(E:XK):Prop:=∀(pins:List (Addr × Obj)) (σ:St) (H:Hp) (s:Shared) (e:Value) (s':Shared),Inv X pins σ H s→CX X.stack H s E e s'→X.xe e s'
section
variable {X:Cx} {CX:CXT} {k:Nat} {f C:Addr} {fd:FuncData} {ps:List Str} {sp:Sp} {dvs:List V} {ds:List Value} {E:XK} {x m:Str} {p pos apos:Pos} {e o:Expr} {es:List Expr} {ta:TE} {t:TA}
theorem Dg{pins:List (Addr × Obj)}{σ:St}{H:Hp}{s:Shared}{Q:VK}{us:List Value}{vs:List V}(F:R7 X.prog X.w X.K X.mg X.base CX k f fd ps sp)(hr:J1 k X.A)(hb:fD X.K fd ps ds)(hd:i7 dvs ds)(hx:kD CX X E)
  (I:Inv X pins σ H s) (r:i7 vs us) (h:sp (vs++dvs) H Q E):wpAny (model X.prog X.w) X.A (call (.ref f) us) (EP X pins σ Q) X.xe s:=by
 have r2:i7 (vs++dvs) (us++ds):=r.append hd
 have hl:(us++ds).length=ps.length:=by rw[← r2.length];exact F.len _ _ _ _ h
 refine wpAny_call (codeAny_mono (F.run X.A X.stack s H ⟨us,[]⟩ (us++ds) (vs++dvs) Q E hr I.env0 (hb s us I.kIn hl) r2 h) fun r s' hq=>?_)
 cases r with
 | error e=>exact hx pins σ H s e s' I hq
 | ok fl =>
  cases fl with
  | ret u=>exact I.after hq
  | next=>exact False.elim hq
  | brk=>exact False.elim hq
  | cont=>exact False.elim hq
theorem zF(F:R7 X.prog X.w X.K X.mg X.base CX k f fd ps sp)(hr:J1 k X.A)(hg:Gl X x)(hm:X.mg x=some (.ref f))(hk:PySem.W.keepIn X.K (.ref f)=true)(hb:fD X.K fd ps ds)(hd:i7 dvs ds)(hx:kD CX X E)
  (ha:PA X (e :: es) t) (hdb:(x == ("__debug__" : Str))=false:=by decide) (he:starEach (e :: es) X.env=(false,eval e X.env) :: starEach es X.env:=by rfl) (hpl:(backTo pos (starEach es X.env)).any (·.1)=false:=by rfl) :
  PE X (.Call (.Name x p) (e :: es) [] pos) (FH sp dvs E t):=by
 intro pins s σ H Q I h
 refine wpAny_Call_Name_kw (qF I hg hm ?_ hdb)
 refine PySem.W.callWith_K (h₀:=X.base) I.ok.mod.kin hk (thn (ha pos pins s σ H _ I h) fun us s1 ⟨vs,H1,I1,r,q⟩=>⟨I1.kIn,?_⟩) he hpl
 exact Dg F hr hb hd hx I1 r q
end
section
variable {X:Cx} {CX:CXT} {k:Nat} {f C:Addr} {fd:FuncData} {ps ks:List Str} {sp:Sp} {E:XK} {x m:Str} {p pos apos kpos:Pos} {e o:Expr} {es:List Expr} {kws:List Keyword} {te ta:TE} {t tk:TA} {nm:Option Str}
variable {g:List Value→List Value→List Value} {gV:List V→List V→List V}
end
structure f7(N P:List Str)(sc:Scope):Prop where
 kind:sc.kind = .function
 co:sc.isCoroutine=false
 gen:sc.isGenerator=false
 nd:N.Nodup
 pre:N.take P.length=P
 par:∀ x∈P,sc.names.lookup x=some .local∨sc.names.lookup x=some .cell
 nofree:∀ y∈sc.names,y.2 ≠ .free
theorem iq{kindOf:Str→Option NameKind}{x:Str}:∀{binds:List (Str × Value)} {m:Str→Option Value},(∀ v,(x,v)∉binds)→bindL kindOf binds m x=m x
 | [],_,_=>rfl
 | (n,v) :: r,m,h=>by
  unfold bindL
  rw[iq fun w hw=>h w (Ls _ hw)]
  split
  ·have:x≠n:=by rintro rfl;exact h v Ly
   simp[this]
  ·rfl
theorem iu{kindOf:Str→Option NameKind}{x:Str}:∀{binds:List (Str × Value)} {m:Str→Option Value},(∀ v,(x,v)∉binds)→bindC kindOf binds m x=m x
 | [],_,_=>rfl
 | (n,v) :: r,m,h=>by
  unfold bindC
  rw[iu fun w hw=>h w (Ls _ hw)]
  split
  ·rfl
  ·have:x≠n:=by rintro rfl;exact h v Ly
   simp[this]
theorem ir{kindOf:Str→Option NameKind}{x:Str}{v:Value}:∀{P:List Str} {vs:List Value} {i:Nat} {m:Str→Option Value},P.Nodup→P[i]? = some x→vs[i]? = some v→kindOf x=some .local →
  bindL kindOf (P.zip vs) m x=some v
 | [],_,_,_,_,h,_,_=>by simp at h
 | _ :: _,[],_,_,_,_,h,_=>by simp at h
 | p :: P,w :: vs,0,m,nd,h1,h2,hk=>by
  simp at h1 h2;subst h1;subst h2
  show bindL kindOf ((p,w) :: P.zip vs) m p=_
  unfold bindL
  rw[iq fun v hv=>(Oa.mp nd).1 (Ob hv).1,if_pos hk]
  simp
 | p :: P,w :: vs,i+1,m,nd,h1,h2,hk=>by
  show bindL kindOf ((p,w) :: P.zip vs) m x=_
  unfold bindL
  exact ir (i:=i) (Oa.mp nd).2 (by simpa using h1) (by simpa using h2) hk
theorem iw{kindOf:Str→Option NameKind}{x:Str}{v:Value}:∀{P:List Str} {vs:List Value} {i:Nat} {m:Str→Option Value},P.Nodup→P[i]? = some x→vs[i]? = some v→kindOf x≠some .local →
  bindC kindOf (P.zip vs) m x=some v
 | [],_,_,_,_,h,_,_=>by simp at h
 | _ :: _,[],_,_,_,_,h,_=>by simp at h
 | p :: P,w :: vs,0,m,nd,h1,h2,hk=>by
  simp at h1 h2;subst h1;subst h2
  show bindC kindOf ((p,w) :: P.zip vs) m p=_
  unfold bindC
  rw[iu fun v hv=>(Oa.mp nd).1 (Ob hv).1,if_neg hk]
  simp
 | p :: P,w :: vs,i+1,m,nd,h1,h2,hk=>by
  show bindC kindOf ((p,w) :: P.zip vs) m x=_
  unfold bindC
  exact iw (i:=i) (Oa.mp nd).2 (by simpa using h1) (by simpa using h2) hk
noncomputable def start(N:List Str)(vs:List V):St:=vs.map some++Nc (N.length - vs.length) none
noncomputable def oF(CX:CXT)(P:Program)(w:World)(K:Lo)(mg:Str→Option Value)(base:Heap)(N:List Str)(qual:Str)(scope:Scope)(f:Addr)(cd:Value)(A:Around)(outer:List Env)(s:Shared)(H:Hp)(E:XK):Cx where
 prog:=P
 w:=w
 K:=K
 mg:=mg
 base:=base
 A:=A.deeper (envOfC qual scope s.heap.objs.size f cd)
 N:=N
 s₀:=s
 H₀:=H
 env:=envOfC qual scope s.heap.objs.size f cd
 outer:=outer
 stack:=envOfC qual scope s.heap.objs.size f cd :: outer
 ex:=[]
 calm:=true
 fn:=fun _=>true
 pn:=[]
 xe:=fun e s'=>wpAny (model P w) (A.deeper (envOfC qual scope s.heap.objs.size f cd)) (leaving (envOfC qual scope s.heap.objs.size f cd) e) (fun _ s''=>CX outer H s E e s'') (fun e' s''=>CX outer H s E e' s'') s'
theorem mY{sc:Scope}{n:Nat}{x:Str}(h:sc.names.lookup x=some .cell):∃ c,(cellsFrom n sc.names []).lookup x=some c:=by
 have q:=PySem.W.cellsFrom_some sc.names n [] (.inl h)
 exact Option.isSome_iff_exists.mp q
theorem sG{CX:CXT}{P:Program}{w:World}{K:Lo}{mg:Str→Option Value}{base:Heap}{N ps:List Str}{qual:Str}{scope:Scope}{f:Addr}{cd:Value}{A:Around}{outer:List Env}{s s1:Shared}{H:Hp}{E:XK}{us:List Value}{vs:List V}
  (S:f7 N ps scope) (hd:A.handled=none) (e0:oS P w K mg base A outer s H) (hl:vs.length=ps.length) (r:i7 vs us)
  (x:InCallC s s.heap.objs.size (bindL (envOfC qual scope s.heap.objs.size f cd).kindOf (ps.zip us) fun _=>none) (cellsFrom (s.heap.objs.size+1) scope.names []) (bindC (envOfC qual scope s.heap.objs.size f cd).kindOf (ps.zip us) fun _=>none) s1) :
  Inv (oF CX P w K mg base N qual scope f cd A outer s H E) [] (start N vs) H s1:=by
 have hpl:ps.length≤N.length:=by have:=congrArg Pc S.pre;rw[Ma]at this;omega
 obtain⟨h1,tk,rfl,hk⟩:=x.done
 have noA:∀ b:Addr,b∉(oF CX P w K mg base N qual scope f cd A outer s H E).ex:=fun b z=>absurd (show b∈([]:List Addr)from z) (by simp)
 refine⟨⟨e0.mod,S.kind,rfl,rfl,LM _,fun y z c h1 h2=>?_,fun y hy=>?_,fun y c _ h=>?_,fun _=>hd,Around.frames_deeper e0.frames,.inr ⟨rfl,rfl⟩,fun b z=>absurd z (noA b),e0.bs,e0.bsz,fun b _ _=>noA b,fun b z=>absurd z (noA b),e0.funs,e0.frf⟩,
  rfl,e0.bare,Un.kept hk,⟨_,x.toInCall.ns,fun i y v h1 h2 h3=>?_⟩,fun y c h=>⟨_,x.cell y c h⟩,e0.hok.fresh (LM _),fun y c h=>?_,fun p hp=>absurd (show p∈([]:List (Addr × Obj))from hp) (by simp),e0.hok.kept hk,?_⟩
 ·exact name_of_addr x.apart (PySem.mem_of_lookup h1) (PySem.mem_of_lookup h2)
 ·have hy:scope.names.lookup y=some .cell∨scope.names.lookup y=some .free:=hy
  rcases hy with hy|hy
  ·exact mY hy
  ·exact absurd rfl (S.nofree _ (PySem.mem_of_lookup hy))
 ·exact ME (x.above y c (PySem.mem_of_lookup h))
 ·have hi:i<vs.length:=by
   unfold start at h2
   by_cases hi:i<vs.length
   ·exact hi
   ·rw[Mx (by simpa using hi)]at h2
    rw[MD]at h2
    split at h2<;>cases h2
  have ha:vs[i]? = some v:=by
   unfold start at h2
   rw[MQ (by simpa using hi),LS]at h2
   cases e:vs[i]? with
   | none=>rw[e]at h2;cases h2
   | some a=>rw[e]at h2;cases h2;rfl
  obtain⟨u,hu,rv⟩:=r.get ha
  have hp:ps[i]? = some y:=by
   rw[← S.pre,Ou (by omega)];exact h1
  have ndP:ps.Nodup:=by rw[← S.pre];exact S.nd.sublist (List.take_sublist _ _)
  refine⟨u,rv,?_⟩
  rcases S.par y (LK hp)with k|k
  ·exact .inl ⟨k,ir ndP hp hu k⟩
  ·obtain⟨c,e⟩:=mY (n:=s.heap.objs.size+1) k
   refine .inr ⟨.inl k,c,e,?_⟩
   have q:=x.cell y c e
   rw[iw ndP hp hu (by show scope.names.lookup y≠_;rw[k];decide)]at q
   exact q
 ·exact e0.hok.fresh (ME (x.above y c (PySem.mem_of_lookup h)))
 ·unfold start
  show _=N.length
  rw[LQ,Lr,NK]
  omega
theorem GL{CX:CXT}{P:Program}{w:World}{K:Lo}{mg:Str→Option Value}{base:Heap}{k:Nat}{f:Addr}{name qual:Str}{params:Arguments}{body:List Stmt}{scope:Scope}{dV kV doc pm cdv ct oc:Value}{an od:Option Addr}
  {osl:Array (Option Value)} {N ps:List Str} {sp:Sp} (lk:K.lookup f=some ⟨oc,od,.func (PySem.W.fnOf name qual params body scope dV kV doc pm an cdv ct),osl⟩) (hcd:PySem.W.codeIn K cdv qual=true) (S:f7 N ps scope)
  (len:∀ vs H Q E,sp vs H Q E→vs.length=ps.length)
  (hbody:∀(A:Around) (outer:List Env) (s:Shared) (H:Hp) (vs:List V) (Q:VK) (E:XK),J1 k (A.deeper (envOfC qual scope s.heap.objs.size f cdv))→sp vs H Q E →
   ∃ t,PSs (oF CX P w K mg base N qual scope f cdv A outer s H E) body t∧t { nx:=fun _ H'=>Q .non H',rt:=Q } (start N vs) H) :
  R7 P w K mg base CX (k+1) f (PySem.W.fnOf name qual params body scope dV kV doc pm an cdv ct) ps sp:=by
 refine⟨len,fun A outer s H args us vs Q E hr e0 hb r hsp=>?_⟩
 have hl:=len _ _ _ _ hsp
 have KX:K.In s.heap:=e0.mod.kin.keeps fun b o e=>(e0.bs b o e).1
 have lim:s.heap.NoLimit:=e0.mod.nolimit.keeps fun b o e=>(e0.bs b o e).1
 have hkind:∀ y∈ps.zip us,scope.names.lookup y.1=some .local∨(scope.names.lookup y.1=some .cell∧((cellsFrom (s.heap.objs.size+1) scope.names []).lookup y.1).isSome=true):=fun⟨n,v⟩ hy=>by
  rcases S.par n (Ob hy).1 with q|q
  ·exact .inl q
  ·exact .inr ⟨q,PySem.W.cellsFrom_some _ _ _ (.inl q)⟩
 refine codeAny_call_function hr.depth (KX _ _ lk) rfl S.co S.gen rfl (PySem.W.codeRec_of KX hcd) (hb _ _ _ _ ?_)
 refine wpAny_newFunctionEnv_cells S.kind hkind fun env he s1 x=>?_
 subst he
 refine⟨lim.keeps x.toInCall.keep,codeAny_func ?_⟩
 obtain⟨t,ht,hq⟩:=hbody A outer s H vs Q E (hr.deeper _) hsp
 have I:Inv (oF CX P w K mg base N qual scope f cdv A outer s H E) [] (start N vs) H s1:=sG S hr.hd e0 hl r x
 refine wpAny_mono (ht [] s1 (start N vs) H _ I hq) (fun fl s' hs=>?_) fun e s' hs=>hs
 have fin:∀{σ':St} {H':Hp} {v:V} {u:Value},Inv (oF CX P w K mg base N qual scope f cdv A outer s H E) [] σ' H' s'→j7 v u→Q v H'→CE outer P w H s Q u s' :=
  fun{σ' H' v u} J rv q=>⟨v,H',J.os,J.bare,J.base,J.hok,rv,q⟩
 cases fl with
 | ret u =>
  obtain⟨v,σ',H',J,rv,q⟩:=hs
  exact fin J rv q
 | next =>
  obtain⟨σ',H',J,q⟩:=hs
  exact fin (v:=V.non) (u:=Value.none) J rfl q
 | brk =>
  obtain⟨_,_,_,q⟩:=hs
  exact False.elim q
 | cont =>
  obtain⟨_,_,_,q⟩:=hs
  exact False.elim q
section
variable {X:Cx} {x:Str} {p pos:Pos} {e:Expr} {es:List Expr} {t:TA} {id T:String} {r:List V→Hp→VK→Prop}
def tCB(r:List V→Hp→VK→Prop)(t:TA):TE:=fun σ H Q=>t σ H fun vs H1=>r vs H1 Q
theorem vS(hc:A6 X (.builtin id) r)(hg:Gl X x)(hm:X.mg x=none)(hv:bootBuiltins x=some (.builtin id))(ha:PA X (e :: es) t)(hn:x ≠ "__name__" := by decide)(hdb:(x == ("__debug__" : Str))=false:=by decide)
  (he:starEach (e :: es) X.env=(false,eval e X.env) :: starEach es X.env:=by rfl) (hpl:(backTo pos (starEach es X.env)).any (·.1)=false:=by rfl):PE X (.Call (.Name x p) (e :: es) [] pos) (tCB r t):=by
 intro pins s σ H Q I h
 refine wpAny_Call_Name_kw (Z7 I hg hm hv ?_ hn hdb)
 exact PyProof.Rows.callWith_builtin1 (thn (ha pos pins s σ H _ I h) fun us s1 ⟨vs,H1,I1,r1,q1⟩=>hc pins s1 σ H1 vs us Q I1 r1 q1) he hpl
theorem rX(hc:A6 X (.type T) r)(hg:Gl X x)(hm:X.mg x=none)(hv:bootBuiltins x=some (.type T))(ha:PA X (e :: es) t)(hn:x ≠ "__name__" := by decide)(hdb:(x == ("__debug__" : Str))=false:=by decide)
  (he:starEach (e :: es) X.env=(false,eval e X.env) :: starEach es X.env:=by rfl) (hpl:(backTo pos (starEach es X.env)).any (·.1)=false:=by rfl):PE X (.Call (.Name x p) (e :: es) [] pos) (tCB r t):=by
 intro pins s σ H Q I h
 refine wpAny_Call_Name_kw (Z7 I hg hm hv ?_ hn hdb)
 exact PyProof.Rows.callWith_type1 (thn (ha pos pins s σ H _ I h) fun us s1 ⟨vs,H1,I1,r1,q1⟩=>hc pins s1 σ H1 vs us Q I1 r1 q1) he hpl
end
end L2
namespace HT
open PySem PyProof.Rows
section
open PySem.SeqAt
open PySem.AutoSeq1 (wpAny_loadPart')
open PySem.MeetsSeq PySem.MeetsSeq2 PySem.MeetsSeq3
end
section
variable {prog:Program} {w:World} {A:Around} {E:Value→Shared→Prop} {s:Shared}
noncomputable def sIx(n d:Nat):Option Int→Nat
 | none=>d
 | some v=>if v<0 then(v+(n:Int)).toNat else min v.toNat n
theorem CY(n d:Nat)(hd:d≤n)(o:Option Int):sIx n d o≤n:=by
 cases o with
 | none=>exact hd
 | some v =>
  show(if v<0 then(v+(n:Int)).toNat else min v.toNat n)≤n
  by_cases hv:v<0
  ·rw[if_pos hv];omega
  ·rw[if_neg hv];exact NQ _ _
theorem rj(v:Int)(n d:Nat):(if v<0 then max (v+(n:Int)) 0 else min v (n:Int))=((sIx n d (some v):Nat):Int):=by
 show(if v<0 then max (v+(n:Int)) 0 else min v (n:Int))=(((if v<0 then(v+(n:Int)).toNat else min v.toNat n):Nat):Int)
 by_cases hv:v<0
 ·simp only[if_pos hv];omega
 ·simp only[if_neg hv];omega
theorem oO(lo hi:Option Int)(n:Nat):Builtin.Slice.sliceAdjust lo hi 1 (n:Int)=(((sIx n 0 lo:Nat):Int),((sIx n n hi:Nat):Int)):=by
 have h1:¬ ((1:Int)<0):=by omega
 unfold Builtin.Slice.sliceAdjust
 simp only[h1,if_false]
 refine Prod.ext ?_ ?_
 ·cases lo with
  | none=>rfl
  | some v=>exact rj v n 0
 ·cases hi with
  | none=>rfl
  | some v=>exact rj v n n
theorem oh(i j:Nat):Builtin.Slice.slicePlaces (i:Int) (j:Int) 1=j - i:=by
 unfold Builtin.Slice.slicePlaces
 have h1:(1:Int) > 0:=by omega
 simp only[h1,if_true,Int.ediv_one]
 split<;>omega
theorem dU{v:Value}{o:Option Int}{Q:Option Int→Shared→Prop}(p:IsPart v o)(h:Q o s):wpAny (model prog w) A (Builtin.Slice.slicePartIndex v) Q E s:=by
 cases p with
 | none=>exact slicePart_none h
 | int i t=>exact slicePart_int h
theorem bh{sl:Addr}{vl vu:Value}{lo hi:Option Int}{n:Nat}{Q:Int × Int × Nat→Shared→Prop}(hs:s.heap.IsSliceOf sl vl vu .none)(pl:IsPart vl lo)(pu:IsPart vu hi)
  (h:Q (((sIx n 0 lo:Nat):Int),1,sIx n n hi - sIx n 0 lo) s):wpAny (model prog w) A (Builtin.Slice.sliceApplied (.ref sl) (pure (n:Int))) Q E s:=by
 obtain⟨os,hos,hcs,hds⟩:=id hs
 unfold Builtin.Slice.sliceApplied Builtin.Slice.sliceFields
 refine Lp (Lp (wpAny_field hos hds (x:=vl) rfl (Lp (wpAny_field hos hds (x:=vu) rfl (Lp (wpAny_field hos hds (x:=.none) rfl (LG ?_)))))))
 refine Lp (slicePart_none ?_)
 show wpAny _ _ (if ((1:Int) == 0)=true then _ else _) _ _ s
 rw[if_neg (by decide)]
 refine Lp (dU pl (Lp (dU pu (Lp (LG ?_)))))
 show wpAny _ _ (match Builtin.Slice.sliceAdjust lo hi 1 (n:Int)with|(lo,hi)=>pure (lo,(1:Int),Builtin.Slice.slicePlaces lo hi 1)) _ _ s
 rw[oO lo hi n]
 show wpAny _ _ (pure (((sIx n 0 lo:Nat):Int),(1:Int),Builtin.Slice.slicePlaces ((sIx n 0 lo:Nat):Int) ((sIx n n hi:Nat):Int) 1)) _ _ s
 rw[oh]
 exact LG h
theorem vN(xs:Array Value)(i k:Nat):((MJ k).filterMap fun(m:Nat)=>xs[((i:Int)+(m:Int)*1).toNat]?).toArray=((xs.toList.drop i).take k).toArray:=by
 have e:(fun(m:Nat)=>xs[((i:Int)+(m:Int)*1).toNat]?)=fun m=>xs[i+m]?:=by
  funext m
  have:((i:Int)+(m:Int)*1).toNat=i+m:=by omega
  rw[this]
 rw[e]
 have:=pick_run xs i k
 rw[List.filterMap_map]at this
 have e2:((fun x=>xs[x]?) ∘ fun x=>i+x)=fun m=>xs[i+m]?:=rfl
 rw[e2]at this
 rw[this]
theorem aR{t sl:Addr}{items:Array Value}{vl vu:Value}{lo hi:Option Int}{Q:Value→Shared→Prop}(ht:IsTup s.heap t items)(hs:s.heap.IsSliceOf sl vl vu .none)(pl:IsPart vl lo)(pu:IsPart vu hi)
  (hw:¬ (sIx items.size 0 lo=0∧sIx items.size items.size hi=items.size))
  (h:Q (.ref s.heap.objs.size) { s with heap:=s.heap.push { cls:=.type "tuple",data:=.seq ((items.toList.drop (sIx items.size 0 lo)).take (sIx items.size items.size hi - sIx items.size 0 lo)).toArray } })
  (hsz:items.size≤sizeLine):wpAny (model prog w) A (getItem (.ref t) (.ref sl)) Q E s:=by
 have htake:sizeOk (.seq ((items.toList.drop (sIx items.size 0 lo)).take (sIx items.size items.size hi - sIx items.size 0 lo)).toArray):=by
  show((items.toList.drop (sIx items.size 0 lo)).take (sIx items.size items.size hi - sIx items.size 0 lo)).toArray.size≤sizeLine
  rw[LV,Ma,Mi,Array.length_toList]
  omega
 have hj:sIx items.size items.size hi≤items.size:=CY _ _ (LM _) hi
 obtain⟨os,hos,hcs,hds⟩:=id hs
 have hTs:s.TypeIs (.ref sl) "slice" := ⟨os,hos,hcs⟩
 unfold getItem
 try with_reducible refine wpAny_holding ?_
 first|refine Lp (LG ?_)|skip
 refine Lp (wpAny_sequenceKey ht.typeIs (by decide) ?_)
 refine Lp (wpAny_callSpecial?_slot (name:=Str.ofString "__getitem__") ht.typeIs PyProof.Rows.slot_tuple_getitem
  (wpAny_call_entry PyProof.Rows.slot_tuple_getitem ht.typeIs entry_tuple_getitem ?_ (args_tuple_getitem _ _)))
 show wpAny _ _ (Builtin.Tuple.tupleItemsOf (.ref t) >>= _) _ _ s
 refine Lp (tupleItemsOf_ ht ?_)
 refine Lp (wpAny_typeOf hTs ?_)
 rw[if_pos (by decide)]
 refine Lp (bh hs pl pu ?_)
 have hno:¬ ((((sIx items.size 0 lo:Nat):Int) == 0 && (1:Int) == 1 && (sIx items.size items.size hi - sIx items.size 0 lo) == items.size)=true):=by
  intro q
  rw[MY,MY]at q
  have q1:((sIx items.size 0 lo:Nat):Int)=0:=eq_of_beq q.1.1
  have q2:sIx items.size items.size hi - sIx items.size 0 lo=items.size:=eq_of_beq q.2
  exact hw ⟨by omega,by omega⟩
 show wpAny _ _ (if (((sIx items.size 0 lo:Nat):Int) == 0 && (1:Int) == 1 && (sIx items.size items.size hi - sIx items.size 0 lo) == items.size)=true then _ else _) _ _ s
 rw[if_neg hno,vN]
 first
  | exact Lp (m:=Builtin.Tuple.tupleExact _) (wpAny_newObj_type (LG ⟨_,rfl,LG h⟩) htake)
  | exact Lp (m:=Builtin.Tuple.tupleExact _) (wpAny_newObj_type (Lp (LG (LG ⟨_,rfl,LG h⟩))) htake)
  | exact Lp (Lp (m:=Builtin.Tuple.tupleExact _) (wpAny_newObj_type (LG (LG ⟨_,rfl,LG h⟩)) htake))
  | exact Lp (Lp (m:=Builtin.Tuple.tupleExact _) (wpAny_newObj_type (LG ⟨_,rfl,LG h⟩) htake))
end
end HT
namespace L2
open PySem PySem.Spec PyProof.Rows
noncomputable abbrev TO:=St→Hp→(Option Int→Hp→Prop)→Prop
def PO(X:Cx)(e:Option Expr)(t:TO):Prop :=
 ∀(pins:List (Addr × Obj)) (s:Shared) (σ:St) (H:Hp) (Q:Option Int→Hp→Prop),Inv X pins σ H s→t σ H Q →
  wpAny (model X.prog X.w) X.A (evalPart e X.env) (fun u s'=>∃ o H',Inv X pins σ H' s'∧IsPart u o∧Q o H') X.xe s
def yO:TO:=fun _ H Q=>Q none H
def Fz(t:TE):TO:=fun σ H Q=>t σ H fun x H1=>∃ i,x = .int i∧Q (some i) H1
section
variable {X:Cx} {e:Expr} {te:TE} {lo hi:Option Expr} {tl th:TO} {pos p2:Pos}
theorem zq:PO X none yO:=by
 intro pins s σ H Q I h
 rw[evalPart_none]
 exact LG ⟨none,H,I,.none,h⟩
theorem zp(h:PE X e te):PO X (some e) (Fz te):=by
 intro pins s σ H Q I hw
 rw[evalPart_some]
 refine thn (h pins s σ H _ I hw) fun u s1 zz=>?_
 obtain⟨x,H1,I1,r1,q1⟩:=zz
 obtain⟨i,rfl,q⟩:=q1
 obtain⟨t,rfl⟩:=r1
 exact⟨some i,H1,I1,.int i t,q⟩
def SlR(X:Cx)(r:V→Option Int→Option Int→Hp→VK→Prop):Prop :=
 ∀(pins:List (Addr × Obj)) (s:Shared) (σ:St) (H:Hp) (x:V) (v vl vu:Value) (lo hi:Option Int) (sl:Addr) (Q:VK),Inv X pins σ H s→j7 x v→s.heap.IsSliceOf sl vl vu .none→IsPart vl lo→IsPart vu hi→r x lo hi H Q →
  ∃ T id,typeLookup (.type T) "__getitem__" = pure (some (.builtin id))∧s.TypeIs v T∧wpAny (model X.prog X.w) X.A (getItem v (.ref sl)) (EP X pins σ Q) X.xe s
theorem SlR.or{r r':V→Option Int→Option Int→Hp→VK→Prop}(h:SlR X r)(h':SlR X r'):SlR X (fun x lo hi H Q=>r x lo hi H Q∨r' x lo hi H Q):=by
 intro pins s σ H x v vl vu lo hi sl Q I rx hs pl pu q
 rcases q with q|q
 ·exact h pins s σ H x v vl vu lo hi sl Q I rx hs pl pu q
 ·exact h' pins s σ H x v vl vu lo hi sl Q I rx hs pl pu q
def tSl(r:V→Option Int→Option Int→Hp→VK→Prop)(te:TE)(tl th:TO):TE:=fun σ H Q=>te σ H fun x H1=>tl σ H1 fun l H2=>th σ H2 fun u H3=>r x l u H3 Q
theorem mh{r:V→Option Int→Option Int→Hp→VK→Prop}(hr:SlR X r)(he:PE X e te)(hl:PO X lo tl)(hu:PO X hi th):PE X (.Subscript e (.Slice lo hi none p2) pos) (tSl r te tl th):=by
 intro pins s σ H Q I h
 refine Subscript_ (thn (he pins s σ H _ I h) fun v s1 zz=>?_)
 obtain⟨x,H1,I1,r1,q1⟩:=zz
 refine wpAny_Slice (thn (hl pins s1 σ H1 _ I1 q1) fun vl s2 ⟨l,H2,I2,pl,q2⟩=>thn (hu pins s2 σ H2 _ I2 q2) fun vu s3 zz=>?_)
 obtain⟨u,H3,I3,pu,q3⟩:=zz
 rw[evalPart_none]
 refine LG ?_
 have I4:Inv X pins σ H3 { s3 with heap:=s3.heap.push { cls:=.type "slice",data:=.fields #[vl,vu,.none] } }:=I3.kept (t':=s3.toks) fun b ob q=>Lq _ q
 obtain⟨T,id,hT,ht,hg⟩:=hr pins { s3 with heap:=s3.heap.push { cls:=.type "slice",data:=.fields #[vl,vu,.none] } } σ H3 x v vl vu l u s3.heap.objs.size Q I4 r1 (Heap.IsSliceOf.new ..) pl pu q3
 show wpAny (model X.prog X.w) X.A (subscriptTail e (.Slice lo hi none p2) v (.ref s3.heap.objs.size)) (EP X pins σ Q) X.xe { s3 with heap:=s3.heap.push { cls:=.type "slice",data:=.fields #[vl,vu,.none] } }
 exact tail_any (ops:=[.ref s3.heap.objs.size,v]) ht hT hg (by with_unfolding_all rfl)
noncomputable def mS(xs:List V)(lo hi:Option Int):List V:=(xs.drop (HT.sIx xs.length 0 lo)).take (HT.sIx xs.length xs.length hi - HT.sIx xs.length 0 lo)
theorem bV(xs:List V)(lo hi:Option Int):(mS xs lo hi).length≤xs.length:=by
 unfold mS
 rw[Ma,Mi]
 omega
noncomputable def HK(K:Lo):V→Option Int→Option Int→Hp→VK→Prop:=fun x lo hi H Q=>∃ a xs,x = .ref a∧SqT K H a xs ∧
 ¬ (HT.sIx xs.length 0 lo=0∧HT.sIx xs.length xs.length hi=xs.length)∧∀ p,H p=none→Q (.ref p) (upd H p (.tup (mS xs lo hi)))
theorem CS:SlR X (HK X.K):=by
 intro pins s σ H x v vl vu lo hi sl Q I rx hs pl pu h
 obtain⟨a,xs,rfl,hx,hw,q⟩:=h
 cases rx
 obtain⟨its,r,ht,hz⟩:=I.tuple hx
 have hlen:its.toArray.size=xs.length:=by rw[LV];exact r.length.symm
 refine⟨"tuple",_,PyProof.Rows.slot_tuple_getitem.lookup,ht.typeIs,?_⟩
 refine HT.aR ht hs pl pu (by rw[hlen];exact hw) ?_ (by rw[hlen];exact hz)
 rw[hlen]
 refine⟨.ref s.heap.objs.size,_,I.laid (t':=s.toks) (o:=.tup (mS xs lo hi)) (fun b ob q=>Lq _ q) (LM _) ?_,rfl,q _ (I.hok.fresh (LM _))⟩
 exact⟨LB (bV xs lo hi) hz,_,(r.drop (HT.sIx xs.length 0 lo)).take (HT.sIx xs.length xs.length hi - HT.sIx xs.length 0 lo),IsTup.new _ _⟩
end
noncomputable def ixN(n:Nat)(i:Int):Option Nat:=if 0≤i then(if i<n then some i.toNat else none)else if -(n:Int)≤i then some (i+n).toNat else none
noncomputable def atI{α:Type}(xs:List α)(i:Int):Option α:=(ixN xs.length i).bind fun j=>xs[j]?
theorem qH{n:Nat}{i:Int}{j:Nat}(h:ixN n i=some j):seqIndex? i n=some j∧j<n∧-(n:Int)≤i∧i<n:=by
 unfold ixN at h
 by_cases h0:0≤i
 ·rw[if_pos h0]at h
  by_cases h1:i<n
  ·rw[if_pos h1]at h
   have e:i.toNat=j:=Option.some.inj h
   exact⟨by rw[seqIndex_of h0 h1,e],by omega,by omega,h1⟩
  ·rw[if_neg h1]at h;cases h
 ·rw[if_neg h0]at h
  by_cases h1:-(n:Int)≤i
  ·rw[if_pos h1]at h
   have e:(i+n).toNat=j:=Option.some.inj h
   exact⟨by rw[seqIndex_neg (by omega) h1,e],by omega,h1,by omega⟩
  ·rw[if_neg h1]at h;cases h
theorem rB{α:Type}{xs:List α}{i:Int}{v:α}(h:atI xs i=some v):∃ j,seqIndex? i xs.length=some j∧xs[j]? = some v∧j<xs.length∧-(xs.length:Int)≤i∧i<xs.length:=by
 unfold atI at h
 cases e:ixN xs.length i with
 | none=>rw[e]at h;cases h
 | some j =>
  rw[e]at h
  obtain⟨h1,h2,h3,h4⟩:=qH e
  exact⟨j,h1,h,h2,h3,h4⟩
theorem df{α:Type}{xs:List α}{j:Nat}{v:α}(h:xs[j]? = some v):atI xs (j:Int)=some v:=by
 have hj:j<xs.length:=(LP.mp h).1
 have e:ixN xs.length (j:Int)=some j:=by
  unfold ixN
  rw[if_pos (by omega),if_pos (by omega)];simp
 unfold atI;rw[e];exact h
def kC(b:Expr):Prop:=∀ o i,subscripted b false o i=operate [o,i] (getItem o i)
def IxR(X:Cx)(r:R2):Prop :=
 ∀(value slice:Expr) (pins:List (Addr × Obj)) (s:Shared) (σ:St) (H:Hp) (x y:V) (v u:Value) (Q:VK),Inv X pins σ H s→j7 x v→j7 y u→r x y H Q →
  subscripted slice false v u=operate [v,u] (getItem v u)→wpAny (model X.prog X.w) X.A (subscriptTail value slice v u) (EP X pins σ Q) X.xe s
def MtR(X:Cx)(id:String)(r:V→List V→Hp→VK→Prop):Prop :=
 ∀(pins:List (Addr × Obj)) (s:Shared) (σ:St) (H:Hp) (x:V) (xs:List V) (v:Value) (us:List Value) (Q:VK),Inv X pins σ H s→j7 x v→i7 xs us→r x xs H Q →
  wpAny (model X.prog X.w) X.A (call (.builtin id) (v :: us)) (EP X pins σ Q) X.xe s
section
variable {X:Cx} {a b:Expr} {ta tb:TE} {pos:Pos}
theorem IxR.or{r r':R2}(h:IxR X r)(h':IxR X r'):IxR X (fun x y H Q=>r x y H Q∨r' x y H Q):=by
 intro value slice pins s σ H x y v u Q I rx ry q hs
 rcases q with q|q
 ·exact h value slice pins s σ H x y v u Q I rx ry q hs
 ·exact h' value slice pins s σ H x y v u Q I rx ry q hs
theorem MtR.or{id:String}{r r':V→List V→Hp→VK→Prop}(h:MtR X id r)(h':MtR X id r'):MtR X id (fun x xs H Q=>r x xs H Q∨r' x xs H Q):=by
 intro pins s σ H x xs v us Q I rx rs q
 rcases q with q|q
 ·exact h pins s σ H x xs v us Q I rx rs q
 ·exact h' pins s σ H x xs v us Q I rx rs q
theorem FU{r:R2}(hr:IxR X r)(ha:PE X a ta)(hb:PE X b tb)(hs:kC b):PE X (.Subscript a b pos) (tOp r ta tb):=by
 intro pins s σ H Q I h
 exact Subscript_ (EB ha hb I h fun v u s2 x y H2 I2 rx ry q=>hr a b pins s2 σ H2 x y v u Q I2 rx ry q (hs _ _))
def HN(K:Lo):R2:=fun x y H Q=>∃ p xs i v,x = .ref p∧y = .int i∧SqL K H p xs∧atI xs i=some v∧Q v H
def HM(K:Lo):R2:=fun x y H Q=>∃ p xs i v,x = .ref p∧y = .int i∧SqT K H p xs∧atI xs i=some v∧Q v H
theorem Ai:IxR X (HN X.K):=by
 intro value slice pins s σ H x y v u Q I rx ry h hs
 obtain⟨p,xs,i,z,rfl,rfl,hq,he,q⟩:=h
 cases rx
 obtain⟨t,rfl⟩:=ry
 obtain⟨its,r,pl,hz⟩:=I.list hq
 obtain⟨j,h1,h2,h3,h4,h5⟩:=rB he
 obtain⟨w,ew,rw'⟩:=r.get h2
 have hl:=r.length
 have hn:=jR
 have fin:EP X pins σ Q w s:=⟨z,H,I,rw',q⟩
 by_cases h0:0≤i
 ·have hj:i.toNat=j:=by
   rw[seqIndex_of h0 h5]at h1
   exact Option.some.inj h1
  exact item_listR pl.isList h0 (by omega) (by rw[hj];simpa using ew) fin hs
 ·have hj:(i+(its.toArray.size:Int)).toNat=j:=by
   rw[seqIndex_neg (by omega) h4]at h1
   rw[LV,← hl]
   exact Option.some.inj h1
  exact subscriptTail_builtinR (x:=w) pl.isList.typeIs slot_list_getitem.lookup
   (wpAny_getItem_list_neg (Q:=fun r s'=>r=w∧EP X pins σ Q r s') pl.isList (by omega) (by rw[LV]<;>omega) (by omega) (by rw[hj];simpa using ew) ⟨rfl,fin⟩) hs
theorem Eg:IxR X (HM X.K):=by
 intro value slice pins s σ H x y v u Q I rx ry h hs
 obtain⟨p,xs,i,z,rfl,rfl,hq,he,q⟩:=h
 cases rx
 obtain⟨t,rfl⟩:=ry
 obtain⟨its,r,pl,hz⟩:=I.tuple hq
 obtain⟨j,h1,h2,h3,h4,h5⟩:=rB he
 obtain⟨w,ew,rw'⟩:=r.get h2
 have hl:=r.length
 have hn:=jR
 have fin:EP X pins σ Q w s:=⟨z,H,I,rw',q⟩
 exact subscriptTail_builtinR (x:=w) pl.typeIs slot_tuple_getitem.lookup
  (getItem_tuple (j:=j) (Q:=fun r s'=>r=w∧EP X pins σ Q r s') pl (by omega) (by omega) (by rw[LV,← hl];exact h1) (by simpa using ew) ⟨rfl,fin⟩) hs
theorem ow(its:List Value)(n j:Nat)(u:Value):Obj.mapSeq (·.setIfInBounds j u) { cls:=.type "list",data:=.seq its.toArray n } = { cls:=.type "list",data:=.seq (its.set j u).toArray n }:=by
 simp[Obj.mapSeq]
theorem Inv.lst{pins:List (Addr × Obj)}{σ:St}{H:Hp}{s:Shared}{p:Addr}{xs:List V}(I:Inv X pins σ H s)(h:H p=some (.lst xs)) :
  ∃(its:List Value) (n:Nat),i7 xs its∧s.heap.get? p=some { cls:=.type "list",data:=.seq its.toArray n }∧xs.length≤sizeLine:=by
 obtain⟨z,its,n,r,e⟩:=I.hok p _ h
 exact⟨its,n,r,e,z⟩
theorem Inv.lstUpd{pins:List (Addr × Obj)}{σ:St}{H:Hp}{s:Shared}{p:Addr}{xs ys:List V}{its its':List Value}{n n':Nat}{f:Obj→Obj}(I:Inv X pins σ H s)(h:H p=some (.lst xs))
  (ho:s.heap.get? p=some { cls:=.type "list",data:=.seq its.toArray n }) (hf:f { cls:=.type "list",data:=.seq its.toArray n } = { cls:=.type "list",data:=.seq its'.toArray n' }) (r:i7 ys its') (hz:ys.length≤sizeLine) (t:Nat) :
  Inv X pins σ (upd H p (.lst ys)) { s with heap:=s.heap.update p f,toks:=t }:=by
 have e:(s.heap.update p f).get? p=some { cls:=.type "list",data:=.seq its'.toArray n' }:=by
  rw[OM f ho (by rw[hf]<;>rfl),hf]
 refine I.write (x:=p) (e:=p) (by rw[h];trivial) (.inl rfl) (fun b u hb q=>(OI _ _ (Ne.symm hb)).trans q) ⟨_,e⟩ ?_
 exact⟨hz,its',n',r,e⟩
noncomputable def FO:V→V→V→Hp→(Hp→Prop)→Prop:=fun o i v H Q=>∃ p xs k j,o = .ref p∧i = .int k∧H p=some (.lst xs)∧ixN xs.length k=some j∧Q (upd H p (.lst (xs.set j v)))
theorem uY:Hr X FO:=by
 intro pins s σ H o i v ov iv u Q I ro ri rv h
 obtain⟨p,xs,k,j,rfl,rfl,hp,hj,q⟩:=h
 cases ro
 obtain⟨t,rfl⟩:=ri
 obtain⟨its,n,r,ho,hz⟩:=I.lst hp
 obtain⟨h1,h2,h3,h4⟩:=qH hj
 have hl:=r.length
 have hn:=jR
 have I':Inv X pins σ (upd H p (.lst (xs.set j v))) { s with heap:=s.heap.update p (Obj.mapSeq (·.setIfInBounds j u)) } :=
  I.lstUpd hp ho (ow its n j u) (r.set rv j) (by rw[Qb];exact hz) s.toks
 by_cases h0:0≤k
 ·have hk:k.toNat=j:=by
   rw[seqIndex_of h0 h4]at h1
   exact Option.some.inj h1
  exact PySem.W.ki_setAt ho h0 (by omega) (by rw[LV,← hl];exact h4) (by rw[hk];exact⟨_,I',q⟩)
 ·have hk:(k+(its.toArray.size:Int)).toNat=j:=by
   rw[seqIndex_neg (by omega) h3]at h1
   rw[LV,← hl]
   exact Option.some.inj h1
  exact PySem.W.ki_setBack ho (by omega) (by rw[LV,← hl];exact h3) (by omega) (by rw[hk];exact⟨_,I',q⟩)
theorem iJ(lo hi:Option Int)(n:Nat):(sliceBounds lo hi none n).1=((HT.sIx n 0 lo:Nat):Int)∧(sliceBounds lo hi none n).2.1=((HT.sIx n n hi:Nat):Int)∧(sliceBounds lo hi none n).2.2=1:=by
 refine⟨?_,?_,rfl⟩
 ·cases lo with
  | none=>simp[sliceBounds,HT.sIx]
  | some i =>
   simp only[sliceBounds,HT.sIx,PR,show(1:Int) > 0 by decide,if_true]
   by_cases h:i<0
   ·simp only[h,if_true]<;>omega
   ·simp only[h,if_false]<;>omega
 ·cases hi with
  | none=>simp[sliceBounds,HT.sIx]
  | some i =>
   simp only[sliceBounds,HT.sIx,PR,show(1:Int) > 0 by decide,if_true]
   by_cases h:i<0
   ·simp only[h,if_true]<;>omega
   ·simp only[h,if_false]<;>omega
theorem fH(its:List Value)(lo hi:Option Int):slicePick its.toArray lo hi none=((its.drop (HT.sIx its.length 0 lo)).take (HT.sIx its.length its.length hi - HT.sIx its.length 0 lo)).toArray:=by
 obtain⟨h1,h2,h3⟩:=iJ lo hi its.toArray.size
 unfold slicePick
 rw[h1,h2,h3]
 simp only[sliceRange_one,pick_run,LV]<;>rfl
noncomputable def HL(K:Lo):V→Option Int→Option Int→Hp→VK→Prop:=fun x lo hi H Q=>∃ a xs,x = .ref a∧SqL K H a xs∧∀ p,H p=none→Q (.ref p) (upd H p (.lst (mS xs lo hi)))
theorem qp:SlR X (HL X.K):=by
 intro pins s σ H x v vl vu lo hi sl Q I rx hs pl pu h
 obtain⟨a,xs,rfl,hx,q⟩:=h
 cases rx
 obtain⟨its,r,ht,hz⟩:=I.list hx
 have hlen:=r.length
 refine⟨"list",_,slot_list_getitem.lookup,ht.isList.typeIs,?_⟩
 refine wpAny_getItem_list_slice ht.isList hs pl pu .none (by simp) ?_ (by rw[LV]<;>omega)
 rw[fH,← hlen]
 refine⟨.ref s.heap.objs.size,_,I.laid (t':=s.toks) (o:=.lst (mS xs lo hi)) (fun b ob q=>Lq _ q) (LM _) ?_,rfl,q _ (I.hok.fresh (LM _))⟩
 exact⟨LB (bV xs lo hi) hz,_,0,(r.drop (HT.sIx xs.length 0 lo)).take (HT.sIx xs.length xs.length hi - HT.sIx xs.length 0 lo),LL _ rfl⟩
noncomputable def X1:V→Bool
 | .non=>true
 | .bl _=>true
 | .int _=>true
 | .str _=>true
 | _=>false
noncomputable def eqV:V→V→Bool
 | .non,.non=>true
 | .bl a,.bl b=>a == b
 | .bl a,.int b=>(if a then 1 else 0) == b
 | .int a,.bl b=>a == (if b then 1 else 0)
 | .int a,.int b=>a == b
 | .str a,.str b=>a == b
 | _,_=>false
theorem Ek{A:Around}{s:Shared}{y x:V}{u v:Value}(ry:j7 y u)(rx:j7 x v)(fy:X1 y=true)(fx:X1 x=true):SeqAt.EqAt A s u v (eqV y x):=by
 cases y with
 | non =>
  cases ry
  cases x with
  | non=>cases rx;exact SeqAt.EqAt.same _
  | bl b=>cases rx;exact SeqAt.EqAt.none_bool b
  | int b=>obtain⟨t,rfl⟩:=rx;exact SeqAt.EqAt.none_int b t
  | str b=>obtain⟨t,rfl⟩:=rx;exact SeqAt.EqAt.none_str b t
  | _=>exact absurd (show false=true from fx) LN
 | bl a =>
  cases ry
  cases x with
  | non=>cases rx;exact SeqAt.EqAt.bool_none a
  | bl b=>cases rx;exact SeqAt.EqAt.bool_bool a b
  | int b=>obtain⟨t,rfl⟩:=rx;exact SeqAt.EqAt.bool_int a b t
  | str b=>obtain⟨t,rfl⟩:=rx;exact SeqAt.EqAt.bool_str a b t
  | _=>exact absurd (show false=true from fx) LN
 | int a =>
  obtain⟨t',rfl⟩:=ry
  cases x with
  | non=>cases rx;exact SeqAt.EqAt.int_none a t'
  | bl b=>cases rx;exact SeqAt.EqAt.int_bool a t' b
  | int b=>obtain⟨t,rfl⟩:=rx;exact SeqAt.EqAt.int_int a t' b t
  | str b=>obtain⟨t,rfl⟩:=rx;exact SeqAt.EqAt.int_str a t' b t
  | _=>exact absurd (show false=true from fx) LN
 | str a =>
  obtain⟨t',rfl⟩:=ry
  cases x with
  | non=>cases rx;exact SeqAt.EqAt.str_none a t'
  | bl b=>cases rx;exact SeqAt.EqAt.str_bool a t' b
  | int b=>obtain⟨t,rfl⟩:=rx;exact SeqAt.EqAt.str_int a t' b t
  | str b=>obtain⟨t,rfl⟩:=rx;exact SeqAt.EqAt.str_str a t' b t
  | _=>exact absurd (show false=true from fx) LN
 | _=>exact absurd (show false=true from fy) LN
noncomputable def eqU(x:V)(u:Value):Bool:=match u with
 | .none=>eqV .non x
 | .bool b=>eqV (.bl b) x
 | .int i _=>eqV (.int i) x
 | .str z _=>eqV (.str z) x
 | _=>false
theorem wX{x y:V}{u:Value}(r:j7 y u)(f:X1 y=true):eqU x u=eqV y x:=by
 cases y with
 | non=>cases r;rfl
 | bl b=>cases r;rfl
 | int i=>obtain⟨t,rfl⟩:=r;rfl
 | str z=>obtain⟨t,rfl⟩:=r;rfl
 | _=>exact absurd (show false=true from f) LN
theorem kB{x:V}:∀{xs:List V} {us:List Value},i7 xs us→xs.all X1=true→us.any (eqU x)=xs.any fun y=>eqV y x
 | _,_,.nil,_=>rfl
 | y :: xs,u :: us,.cons r t,f=>by
  rw[Po,MY]at f
  rw[Oz,Oz,wX r f.1,kB t f.2]
theorem eW{A:Around}{s:Shared}{x:V}{v:Value}(rx:j7 x v)(fx:X1 x=true):∀{xs:List V} {us:List Value},i7 xs us→xs.all X1=true→∀ u∈us,SeqAt.EqAt A s u v (eqU x u)
 | _,_,.nil,_=>fun u hu=>by cases hu
 | y :: xs,u :: us,.cons r t,f=>fun u' hu=>by
  rw[Po,MY]at f
  rcases Lz.mp hu with rfl|hu
  ·rw[wX r f.1];exact Ek r rx f.1 fx
  ·exact eW rx fx t f.2 u' hu
noncomputable def inV(x:V)(xs:List V):Bool:=xs.any fun y=>eqV y x
def rIn(K:Lo)(neg:Bool):R2:=fun x y H Q=>∃ p xs,y = .ref p∧(SqL K H p xs∨SqT K H p xs)∧X1 x=true∧xs.all X1=true∧Q (.bl (if neg then !inV x xs else inV x xs)) H
theorem rZ:OpR X (compareOp .In) (rIn X.K false):=by
 intro pins s σ H x y v u Q I rx ry h
 obtain⟨p,xs,rfl,hq,fx,fs,q⟩:=h
 cases ry
 rcases hq with hq|hq
 ·obtain⟨its,r,pl,hz⟩:=I.list hq
  refine SeqAt.in_listAt (eqU x) pl.isList (fun w hw=>eW rx fx r fs w (by simpa using hw)) ⟨.bl _,H,I,rfl,?_⟩
  rw[show its.toArray.any (eqU x)=its.any (eqU x)by simp,kB r fs]
  exact q
 ·obtain⟨its,r,pl,hz⟩:=I.tuple hq
  refine SeqAt.in_tupleAt (eqU x) pl (fun w hw=>eW rx fx r fs w (by simpa using hw)) ⟨.bl _,H,I,rfl,?_⟩
  rw[show its.toArray.any (eqU x)=its.any (eqU x)by simp,kB r fs]
  exact q
theorem kv:A6 X (.builtin "len") (fun xs H Q=>∃ p ys,xs=[.ref p]∧(SqL X.K H p ys∨SqT X.K H p ys)∧Q (.int ys.length) H):=by
 intro pins s σ H xs us Q I r h
 obtain⟨p,ys,rfl,hq,q⟩:=h
 obtain⟨u,rfl,rx⟩:=lD r
 cases rx
 have hn:=jR
 rcases hq with hq|hq
 ·obtain⟨its,r',pl,hz⟩:=I.list hq
  have hlen:=r'.length
  exact Calls.call_len_list pl.isList (by simp only[LV]<;>omega) ⟨.int ys.length,H,I.tok _,⟨s.toks+1,by rw[LV,hlen]⟩,q⟩
 ·obtain⟨its,r',pl,hz⟩:=I.tuple hq
  have hlen:=r'.length
  exact len_tuple pl (by simp only[LV]<;>omega) ⟨.int ys.length,H,I.tok _,⟨s.toks+1,by rw[LV,hlen]⟩,q⟩
theorem A6.or{f:Value}{r r':List V→Hp→VK→Prop}(h:A6 X f r)(h':A6 X f r'):A6 X f (fun xs H Q=>r xs H Q∨r' xs H Q):=by
 intro pins s σ H xs us Q I rs q
 rcases q with q|q
 ·exact h pins s σ H xs us Q I rs q
 ·exact h' pins s σ H xs us Q I rs q
theorem ku:A6 X (.type "list") (fun xs H Q=>∃ p ys,xs=[.ref p]∧(SqL X.K H p ys∨SqT X.K H p ys)∧∀ l,H l=none→Q (.ref l) (upd H l (.lst ys))):=by
 intro pins s σ H xs us Q I r h
 obtain⟨p,ys,rfl,hq,q⟩:=h
 obtain⟨u,rfl,rx⟩:=lD r
 cases rx
 have fin:∀(its:List Value),i7 ys its→ys.length≤sizeLine→∀(h':Heap) (c':Nat),(∀ b o',s.heap.get? b=some o'→h'.get? b=some o') →
   h'.get? s.heap.objs.size=some { cls:=.type "list",dict:=none,data:=.seq its.toArray c',slots:=#[] }→EP X pins σ Q (.ref s.heap.objs.size) { s with heap:=h' }:=fun its r' hz h' c' kp e =>
  ⟨.ref s.heap.objs.size,_,I.laid (t':=s.toks) kp (LM _) (show B4 X.prog X.w _ h' _ (.lst ys)from⟨hz,its,c',r',e⟩),rfl,q _ (I.hok.fresh (LM _))⟩
 rcases hq with hq|hq
 ·obtain⟨its,r',pl,hz⟩:=I.list hq
  have hlen:=r'.length
  obtain⟨o,ho,hc,n,hd⟩:=pl.isList
  exact call_list_seq p (.inl rfl) ho hc hd (fun h' c' kp e=>fin its r' hz h' c' kp e) (by simp only[LV]<;>omega)
 ·obtain⟨its,r',pl,hz⟩:=I.tuple hq
  have hlen:=r'.length
  obtain⟨o,ho,hc,n,hd⟩:=pl
  exact call_list_seq p (.inr rfl) ho hc hd (fun h' c' kp e=>fin its r' hz h' c' kp e) (by simp only[LV]<;>omega)
def tyV(K:Lo)(T:String)(x:V)(H:Hp):Prop:=match x with
 | .str _=>T = "str"
 | .int _=>T = "int"
 | .ref p=>(T = "list" ∧ ∃ xs,SqL K H p xs)∨(T = "tuple" ∧ ∃ o,K.lookup p=some o∧o.cls = .type "tuple" ∧ o.dict=none) ∨
   (T = "dict" ∧ ((∃ kvs,H p=some (.dK kvs)) ∨ ∃ kvs,H p=some (.dT kvs)))∨(T = "set" ∧ ∃ S n,H p=some (.set S n))
 | _=>False
theorem uL{pins:List (Addr × Obj)}{σ:St}{H:Hp}{s:Shared}{T:String}{x:V}{v:Value}(I:Inv X pins σ H s)(r:j7 x v)(ty:tyV X.K T x H) :
  s.TypeIs v T∧∀ a,v = .ref a→∃ ob,s.heap.get? a=some ob∧ob.dict=none:=by
 cases x with
 | str z =>
  obtain⟨t,rfl⟩:=r
  cases(show T = "str" from ty)
  exact⟨typeIs_str s z t,fun _ e=>nomatch e⟩
 | int i =>
  obtain⟨t,rfl⟩:=r
  cases(show T = "int" from ty)
  exact⟨typeIs_int s i t,fun _ e=>nomatch e⟩
 | ref p =>
  cases r
  rcases ty with⟨rfl,xs,hq⟩|⟨rfl,o,hk,hc,hd⟩|⟨rfl,hk⟩|⟨rfl,S,n,hk⟩
  ·obtain⟨its,_,pl,_⟩:=I.list hq
   refine⟨pl.isList.typeIs,fun a e=>?_⟩
   cases e
   obtain⟨o,n,e,c,hd,_⟩:=pl
   exact⟨o,e,hd⟩
  ·refine⟨⟨o,I.kIn p o hk,hc⟩,fun a e=>?_⟩
   cases e
   exact⟨o,I.kIn _ o hk,hd⟩
  ·have z:∃ o,s.heap.get? p=some o∧o.ExactDict:=by
    rcases hk with⟨kvs,hk⟩|⟨kvs,hk⟩
    ·obtain⟨_,_,_,_,o,_,_,e,ex,_⟩:=I.hok p _ hk
     exact⟨o,e,ex⟩
    ·obtain⟨_,_,_,_,o,_,_,e,ex,_⟩:=I.hok p _ hk
     exact⟨o,e,ex⟩
   obtain⟨o,e,ex⟩:=z
   refine⟨⟨o,e,ex.1⟩,fun a e2=>?_⟩
   cases e2
   exact⟨o,e,ex.2.1⟩
  ·obtain⟨o,_,_,_,e,ex,_⟩:=I.hok p _ hk
   refine⟨⟨o,e,ex.1⟩,fun a e2=>?_⟩
   cases e2
   exact⟨o,e,ex.2.1⟩
 | _=>exact False.elim ty
def HI(K:Lo)(T:String)(r:V→List V→Hp→VK→Prop)(to:TE):TE:=fun σ H Q=>to σ H fun x H1=>tyV K T x H1∧r x [] H1 Q
def tBM(K:Lo)(T:String)(r:V→List V→Hp→VK→Prop)(to:TE)(t:TA):TE:=fun σ H Q=>to σ H fun x H1=>tyV K T x H1∧t σ H1 fun xs H2=>r x xs H2 Q
variable {o e:Expr} {es:List Expr} {to:TE} {t:TA} {name:Str} {apos cpos:Pos} {T id:String} {r:V→List V→Hp→VK→Prop}
theorem DG(pa:PlainAttrs T)(slot:Slot T name id)(hty:typeOf (.builtin id)=pure (.type "method_descriptor"))(hm:MtR X id r)(ho:PE X o to)
  (hbase:attributeBase o name X.env (eval o X.env)=eval o X.env:=by rfl) (hline:(apos.endLine == cpos.line)=true:=by rfl):PE X (.Call (.Attribute o name apos) [] [] cpos) (HI X.K T r to):=by
 intro pins s σ H Q I h
 refine wpAny_Call_method0_late hbase hline (thn (ho pins s σ H _ I h) fun v s1 zz=>?_)
 obtain⟨x,H1,I1,r1,ty,q1⟩:=zz
 obtain⟨h1,h2⟩:=uL I1 r1 ty
 exact⟨T,id,pa,slot,hty,h1,h2,Calls.callWith_builtin rfl (PySem.evalArgs_none (hm pins s1 σ H1 x [] v [] Q I1 r1 .nil q1))⟩
theorem FV(pa:PlainAttrs T)(slot:Slot T name id)(hty:typeOf (.builtin id)=pure (.type "method_descriptor"))(hm:MtR X id r)(ho:PE X o to)(ha:PA X (e :: es) t)
  (hbase:attributeBase o name X.env (eval o X.env)=eval o X.env:=by rfl)
  (hfew:((backTo cpos (starEach (e :: es) X.env)).all (fun x=>!x.1) && (backToKw cpos (keywordEach [] X.env)).all (fun x=>x.1.isSome)
   && decide ((e :: es).length+([]:List Keyword).length+(if ([]:List Keyword).isEmpty then 0 else 1)<30))=true:=by rfl)
  (hline:(apos.endLine == cpos.line)=true:=by rfl) (hs:starEach (e :: es) X.env=(false,eval e X.env) :: starEach es X.env:=by rfl) (hplain:(backTo cpos (starEach es X.env)).any (·.1)=false:=by rfl) :
  PE X (.Call (.Attribute o name apos) (e :: es) [] cpos) (tBM X.K T r to t):=by
 intro pins s σ H Q I h
 refine wpAny_Call_method_late hbase hfew hline rfl (thn (ho pins s σ H _ I h) fun v s1 zz=>?_)
 obtain⟨x,H1,I1,r1,ty,q1⟩:=zz
 obtain⟨h1,h2⟩:=uL I1 r1 ty
 refine⟨T,id,pa,slot,hty,h1,h2,?_⟩
 have hA:=ha cpos pins s1 σ H1 _ I1 q1
 rw[hs]at hA ⊢
 refine Calls.callWith_builtin (by show(false || (backTo cpos (starEach es X.env)).any (·.1))=false;rw[hplain]<;>rfl) (Calls.evalArgs_plain ?_)
 exact thn hA fun us s2 ⟨vs,H2,I2,r2,q2⟩=>hm pins s2 σ H2 x vs v us Q I2 r1 r2 q2
end
def MtM(X:Cx)(id:String)(r:V→List V→Hp→VK→Prop):Prop :=
 ∀(pins:List (Addr × Obj)) (s:Shared) (σ:St) (H:Hp) (x:V) (xs:List V) (v:Value) (us:List Value) (Q:VK),Inv X pins σ H s→j7 x v→i7 xs us→r x xs H Q →
  wpAny (model X.prog X.w) X.A (call (.builtin id) (v :: us)) (EP X pins σ Q) X.xe s
theorem i7.one{x:V}{us:List Value}(h:i7 [x] us):∃ u,us=[u]∧j7 x u:=by
 cases h with|cons r t=>cases t;exact⟨_,rfl,r⟩
theorem i7.two{x y:V}{us:List Value}(h:i7 [x,y] us):∃ u v,us=[u,v]∧j7 x u∧j7 y v:=by
 cases h with|cons r t=>cases t with|cons q t2=>cases t2;exact⟨_,_,rfl,r,q⟩
theorem i7.zero:∀{us:List Value},i7 [] us→us=[]
 | _,.nil=>rfl
theorem i7.reverse{xs:List V}{us:List Value}(h:i7 xs us):i7 xs.reverse us.reverse:=by
 induction h with
 | nil=>exact .nil
 | cons r t ih=>rw[PH,PH];exact i7.append ih (.cons r .nil)
section
variable {X:Cx} {pins:List (Addr × Obj)} {σ:St} {H:Hp} {s:Shared} {l b:Addr} {xs ys zs:List V}
theorem Inv.lset{its its':List Value}{n:Nat}{f:Array Value→Array Value}{t':Nat}(I:Inv X pins σ H s)(hH:H l=some (.lst xs))
  (e:s.heap.get? l=some { cls:=.type "list",data:=.seq its.toArray n }) (hf:f its.toArray=its'.toArray) (hv:i7 ys its') (hz:ys.length≤sizeLine) :
  Inv X pins σ (upd H l (.lst ys)) { s with heap:=s.heap.update l (Obj.mapSeq f),toks:=t' }:=by
 have q:=PySem.IsL.update e f
 rw[hf]at q
 refine I.write (x:=l) (e:=l) (by rw[hH];exact trivial) (.inl rfl) (fun b' u hb hu=>(OI s.heap (Obj.mapSeq f) (Ne.symm hb)).trans hu) ⟨_,q⟩ ?_
 exact⟨hz,its',_,hv,q⟩
theorem Inv.lnew{its:List Value}{t':Nat}(I:Inv X pins σ H s)(hv:i7 ys its)(hz:ys.length≤sizeLine) :
  Inv X pins σ (upd H s.heap.objs.size (.lst ys)) { s with heap:=s.heap.push { cls:=.type "list",data:=.seq its.toArray },toks:=t' } :=
 I.laid (fun _ _ q=>Lq _ q) (LM _) ⟨hz,its,0,hv,LL _ rfl⟩
theorem Inv.fresh(I:Inv X pins σ H s):H s.heap.objs.size=none:=I.hok.fresh (LM _)
theorem Inv.lstM(I:Inv X pins σ H s)(hH:H l=some (.lst xs)):xs.length≤sizeLine∧∃(its:List Value) (n:Nat),i7 xs its∧xs.length=its.length∧s.heap.get? l=some { cls:=.type "list",data:=.seq its.toArray n }:=by
 obtain⟨z,its,n,r,e⟩:=I.hok l _ hH
 exact⟨z,its,n,r,r.length,e⟩
end
section
variable {X:Cx}
noncomputable def qv:V→List V→Hp→VK→Prop:=fun x vs H Q=>∃ l xs y,x = .ref l∧vs=[y]∧H l=some (.lst xs)∧xs.length<sizeLine∧Q .non (upd H l (.lst (xs++[y])))
theorem gW:MtM X "list.append" qv:=by
 intro pins s σ H x vs v us Q I rx rv h
 obtain⟨l,xs,y,rfl,rfl,hH,hz,q⟩:=h
 cases rx
 obtain⟨u,rfl,ru⟩:=rv.one
 obtain⟨z,its,n,r,hl,e⟩:=I.lstM hH
 refine call_meets F.slot_list_append ⟨_,e,rfl⟩ F.entry_list_append (F.args_list_append_2 _ _) (PySem.list_append l its.toArray n u (by rw[LV];omega)) ⟨e,?_⟩
 refine⟨.non,_,I.lset (its':=its++[u]) hH e (by simp) (r.append (.cons ru .nil)) ?_,rfl,q⟩
 rw[LQ,List.length_singleton]
 omega
end
section
variable {prog:Program} {w:World} {A:Around} {E:Value→Shared→Prop} {s:Shared}
end
section
variable {X:Cx}
end
end L2
namespace Att
open PySem PySem.W PySem.Calls PyProof.Rows
theorem cg{P:Params}{h:Heap}:∀(ns:List Int) (vs:List Value),WellAll P h vs (ns.map WData.int)→IntsAre vs ns:=by
 intro ns
 induction ns with
 | nil =>
  intro vs w
  rw[MP]at w
  cases w
  exact .nil
 | cons n ns ih =>
  intro vs w
  rw[LY]at w
  cases w with
  | cons a b =>
   cases a
   exact .cons _ _ (ih _ b)
theorem rM{l:OpenLaw}{n:Nat}(hn:l.most=some n){P:Params}{h:Heap}{args:List WData}{vals:List Value}
  (hpre:l.row.toRowW.claim.pre args=true) (hwl:WellAll P h vals args) :
  ∃ a vs ns,vals=[Value.ref a]∧args=[WData.list (ns.map WData.int)]∧h.get? a=some { cls:=.type "list",data:=.seq vs.toArray }∧IntsAre vs ns∧ns.length≤n:=by
 have hsh:WShape.hasAll [] args [.list .int]=true:=(pre_splitW hpre).1
 have hc:l.pre.holds [] { args:=args } = true:=(pre_splitW hpre).2
 obtain⟨d,r,rfl,h1,h2⟩:=hasAllW_cons hsh
 obtain rfl:=hasAllW_nil h2
 obtain⟨xs,rfl,h3⟩:=hasW_list h1
 obtain⟨ns,rfl⟩:=items_int h3
 have hlen:ns.length≤n:=by
  unfold OpenLaw.pre at hc
  have h4:(WTm.not (.lt (.lit (.int (n:Int))) (.len (.arg 0)))).holds [] { args:=[.list (ns.map .int)] } = true:=by
   have h4:=(holds_andW hc).1
   rw[hn]at h4
   exact h4
  have h5:=condW_of h4 (w_not (w_lt w_lit (w_len_list (w_arg rfl))))
  rw[Lr]at h5
  refine Nat.le_of_not_lt fun q=>?_
  have q':(n:Int)<((ns.length:Nat):Int):=by omega
  first
   | (rw[decide_eq_true q']at h5;exact absurd h5 (by decide))
   | (simp at h5;omega)
 cases hwl with
 | cons w1 w2 =>
  cases w2
  cases w1 with
  | list ho hall=>exact⟨_,_,ns,rfl,rfl,ho,cg ns _ hall,hlen⟩
theorem rT(l:OpenLaw)(args:List WData):l.row.toRowW.claim.post args (.bool true) args=true :=
 postW_of (r:=l.row.toRowW) (X:=(true == true))
  (show WShape.has [] (.bool true) .bool=true by first|rfl|decide|simp[WShape.has,WShape.arms,WShape.armsAll])
  (show(WTm.eq .res (.lit (.bool true))).value [] { args:=args,res:=some (.bool true),after:=args } = some (.bool (true == true))from w_eq_bool (w_res rfl) w_lit) rfl
theorem nh{l:OpenLaw}{n:Nat}{q:Program}{loose:List Str}{XP:(Str→Option Value)→Heap→Prop}{YP:World→Heap→Prop}{d:DefRec}
  (hn:l.most=some n) (hdf:d.params.defaults=[])
  (call:∀(w:World) (s₀ s₁:Shared) (mg mb:Str→Option Value) (fa:Addr) (o:Obj) (pm cd doc:Value) (a:Addr) (vs:List Value) (ns:List Int),
   Ground q loose [] XP w s₀ mg mb s₁.heap→YP w s₁.heap →
   s₁.heap.get? fa=some o→o.data = .func (docDef d.name d.params d.body d.scope pm cd doc)→s₁.heap.CodeRec cd d.name→mg d.name=some (.ref fa) →
   s₁.heap.get? a=some { cls:=.type "list",data:=.seq vs.toArray }→IntsAre vs ns→ns.length≤n→s₁.gens = #[] →
   codeAny (model l.prog w) callerA (.call (.ref fa) ⟨[.ref a],[]⟩) (fun r s'=>r = .ok (.ret (.bool true))∧OldK s₁.heap s'.heap∧s'.os=s₁.os∧AllBare s'.gens) s₁) :
  WalkO q loose XP YP l.row.toRowW d [] (fun f vs=>PySem.call f vs):=by
 intro w s₀ s₁ mg mb G Y fa o pm cd doc dV kV ho hd hcd hD hmg hg args vals as hpre hlay hrd hwl hlo
 obtain rfl:dV = .none:=Dflts.none hD hdf
 obtain rfl:kV = .none:=Dflts.noKw hD
 obtain⟨a,vs,ns,rfl,rfl,hobj,hints,hlen⟩:=rM hn hpre hwl
 refine enter_call (codeAny_mono (call w s₀ s₁ mg mb fa o pm cd doc a vs ns G Y ho (fd_plain hd) hcd hmg hobj hints hlen hg) fun r s' hq=>?_)
 obtain⟨rfl,h2,h3,h4⟩:=hq
 exact⟨.inl ⟨.bool true,.bool true,[],rfl,fun _=>rfl,.bool true,rT l _,fun _=>⟨List.Pairwise.nil,fun _ hm=>(nomatch hm)⟩⟩,h2,h3,h4⟩
section
variable {prog:Program} {w:World} {A:Around} {E:Value→Shared→Prop} {s:Shared} {K:Frag}
end
end Att
namespace L2
open PySem PySem.Spec PyProof.Rows
theorem gL:∀{vs:List Value} {ns:List Int},IntsAre vs ns→i7 (ns.map V.int) vs
 | _,_,.nil=>.nil
 | _,_,.cons n t h=>.cons ⟨t,rfl⟩ (gL h)
def sV(H:Hp):Prop:=∀ b,H b=none ∨ ∃ o xs,H b=some (.frz o (.lst xs))
theorem wy{P:Program}{w:World}{K:Lo}{mg mb:Str→Option Value}{CX:CXT}{k:Nat}{fa a:Addr}{fd:FuncData}{x:Str}{sp:Sp}{s₁:Shared}{vs:List Value}{ns:List Int}
  (KX:K.In s₁.heap) (hns:s₁.heap.Ns mainGlobals mg) (hb:s₁.heap.Ns builtinsNs mb) (hbb:∀ x:Str,x ≠ "__name__" → mb x=bootBuiltins x) (hlim:s₁.heap.NoLimit) (hg:s₁.gens = #[])
  (ha:s₁.heap.get? a=some { cls:=.type "list",data:=.seq vs.toArray }) (hi:IntsAre vs ns) (hl:ns.length≤sizeLine) (hr:J1 k callerA)
  (F:∀ base:Heap,K.In base→base.Ns mainGlobals mg→R7 P w K mg base CX k fa fd [x] sp) (hbind:∀(s:Shared) (u:Value),BindsTo s fd ⟨[u],[]⟩ [(x,u)])
  (hsp:∀ H:Hp,sV H→SqL K H a (ns.map V.int)→sp [.ref a] H (fun v _=>v = .bl true) fun _ _ _=>False)
  (hCX:∀ H e s',CX [] H s₁ (fun _ _ _=>False) e s'→False) :
  codeAny (model P w) callerA (.call (.ref fa) ⟨[.ref a],[]⟩) (fun r s'=>r = .ok (.ret (.bool true))∧OldK s₁.heap s'.heap∧s'.os=s₁.os∧AllBare s'.gens) s₁:=by
 have rv:=gL hi
 have lenV:=hi.length
 have core:∀ H:Hp,sV H→SqL K H a (ns.map V.int)→HOk P w H s₁.heap→(∀ b,H b≠none→b=a)→(H a≠none→K.lookup a=none) →
   codeAny (model P w) callerA (.call (.ref fa) ⟨[.ref a],[]⟩) (fun r s'=>r = .ok (.ret (.bool true))∧OldK s₁.heap s'.heap∧s'.os=s₁.os∧AllBare s'.gens) s₁:=by
  intro H hO hS hok hA hK
  have base_of:∀{b:Addr} {o:Obj},s₁.heap.get? b=some o→H b=none→(jW s₁.heap H).get? b=some o:=fun e n=>wM e n
  have noA:∀{b:Addr} {o:Obj} {es:Array DictEntry} {ep:Nat},s₁.heap.get? b=some o→o.data = .dict es ep→H b=none:=fun{b o es ep} e d=>by
   cases q:H b with
   | none=>rfl
   | some u =>
    have e':b=a:=hA b (by rw[q];simp)
    subst e'
    rw[ha]at e;cases e
    have d':Data.seq vs.toArray _=Data.dict es ep:=d
    cases d'
  have nsK:∀{b:Addr} {m:Str→Option Value},s₁.heap.Ns b m→(jW s₁.heap H).Ns b m:=fun{b m} ⟨o,es,ep,e,d,r⟩=>⟨o,es,ep,base_of e (noA e d),d,r⟩
  have hKb:K.In (jW s₁.heap H):=fun b o e=>base_of (KX b o e) (by
   cases q:H b with
   | none=>rfl
   | some u =>
    have e':b=a:=hA b (by rw[q];simp)
    subst e'
    rw[hK (by rw[q];simp)]at e;cases e)
  have hM:Mod K mg (jW s₁.heap H):=⟨hKb,nsK hns,⟨mb,nsK hb,hbb⟩,let ⟨mc,h1,h2⟩:=hlim;⟨mc,nsK h1,h2⟩⟩
  have e0:oS P w K mg (jW s₁.heap H) callerA [] s₁ H:=⟨rfl,hM,fun b o e=>zV e,PL (sI _ _),trivial,fun b hb=>absurd (show b∈([]:List Addr)from hb) (by simp),hok,.of_eq hg⟩
  refine codeAny_mono ((F _ hKb (nsK hns)).run callerA [] s₁ H ⟨[.ref a],[]⟩ [.ref a] [.ref a] _ _ hr e0 (hbind s₁ (.ref a)) (.cons rfl .nil) (hsp H hO hS)) fun r s' h=>?_
  cases r with
  | error e=>exact(hCX H e s' h).elim
  | ok fl =>
   cases fl with
   | next=>exact False.elim h
   | brk=>exact False.elim h
   | cont=>exact False.elim h
   | ret u =>
    obtain⟨v,H',os,bare,un,hok',r',q⟩:=h
    have q':v = .bl true:=q
    subst q'
    obtain rfl:u=Value.bool true:=r'
    refine⟨rfl,OldK.of_keep fun b o e=>?_,os,bare⟩
    cases q:H b with
    | none=>exact un.keep b o e q (by intro z;exact absurd (show b∈([]:List Addr)from z) (by simp)) (by simp)
    | some u =>
     rcases hO b with z|⟨ob,xs,z⟩
     ·rw[q]at z;cases z
     ·have z2:=un.frzs b ob _ z
      obtain⟨e1,_⟩:=hok b _ z
      obtain⟨e2,_⟩:=hok' b _ z2
      rw[e]at e1;cases e1
      exact e2
 cases hk:K.lookup a with
 | some o =>
  have e:=KX a o hk
  rw[ha]at e
  cases e
  refine core (fun _=>none) (fun _=>.inl rfl) (.inr ⟨_,vs.toArray,_,hk,rfl,rfl,rfl,by rw[LV,lenV];exact hl,by simpa using rv⟩) (fun b u z=>by have z':(none:Option HO)=some u:=z;cases z') (fun b z=>absurd rfl z) fun z=>absurd rfl z
 | none =>
  refine core (fun b=>if b=a then some (.frz { cls:=.type "list",data:=.seq vs.toArray } (.lst (ns.map V.int)))else none) (fun b=>?_) (.inl (.inr ⟨{ cls:=.type "list",data:=.seq vs.toArray },if_pos rfl⟩)) (fun b u z=>?_) (fun b z=>?_) fun _=>hk
  ·by_cases hb:b=a
   ·exact .inr ⟨_,_,if_pos hb⟩
   ·exact .inl (if_neg hb)
  ·by_cases hb:b=a
   ·have z':=(if_pos hb).symm.trans z
    cases z'
    subst hb
    exact⟨ha,by rw[Lr];exact hl,vs,_,rv,ha⟩
   ·have z':=(if_neg hb).symm.trans z
    cases z'
  ·by_cases hb:b=a
   ·exact hb
   ·exact absurd (if_neg hb) z
theorem yK{l:PySem.W.OpenLaw}{n k:Nat}{q:Program}{loose:List Str}{XP:(Str→Option Value)→Heap→Prop}{YP:World→Heap→Prop}{d:DefRec}{K:Params→Lo}{CX:World→CXT}{sp:World→Sp}{x:Str}
  (hn:l.most=some n) (hn2:n≤sizeLine) (hdf:d.params.defaults=[]) (hr:J1 k callerA)
  (hY:∀(w:World) (h:Heap),YP w h→(K w.params).In h)
  (F:∀(w:World) (mg:Str→Option Value) (fa:Addr) (h:Heap),(K w.params).In h→h.Ns mainGlobals mg→mg d.name=some (.ref fa) →
   ∃ fd:FuncData,(∀(s:Shared) (u:Value),BindsTo s fd ⟨[u],[]⟩ [(x,u)]) ∧
    ∀ base:Heap,(K w.params).In base→base.Ns mainGlobals mg→R7 l.prog w (K w.params) mg base (CX w) k fa fd [x] (sp w))
  (hsp:∀(w:World) (H:Hp) (a:Addr) (ns:List Int),ns.length≤n→sV H→SqL (K w.params) H a (ns.map V.int)→sp w [.ref a] H (fun v _=>v = .bl true) fun _ _ _=>False)
  (hCX:∀(w:World) (H:Hp) (s:Shared) (e:Value) (s':Shared),CX w [] H s (fun _ _ _=>False) e s'→False) :
  PySem.W.WalkO q loose XP YP l.row.toRowW d [] (fun f vs=>PySem.call f vs):=by
 refine Att.nh hn hdf fun w s₀ s₁ mg mb fa o pm cd doc a vs ns G Y ho hd hcd hmg hobj hints hlen hg=>?_
 have KX:=hY w _ Y
 obtain⟨fd,hb,hF⟩:=F w mg fa _ KX G.T.g hmg
 exact wy KX G.T.g G.T.b G.T.builtins G.T.nolimit hg hobj hints (LB hlen hn2) hr hF hb (fun H hO hS=>hsp w H a ns hlen hO hS) fun H e s'=>hCX w H s₁ e s'
theorem uI{l:PySem.W.OpenLaw}{n k:Nat}{q:Program}{loose:List Str}{XP:(Str→Option Value)→Heap→Prop}{YP:World→Heap→Prop}{d:DefRec}{K:Params→Lo}{CX:CXT}{sp:Lo→Sp}{x:Str}
  (hn:l.most=some n) (hn2:n≤sizeLine) (hdf:d.params.defaults=[]) (hr:J1 k callerA)
  (hY:∀(w:World) (h:Heap),YP w h→(K w.params).In h)
  (F:∀(w:World) (mg:Str→Option Value) (fa:Addr) (h:Heap),(K w.params).In h→h.Ns mainGlobals mg→mg d.name=some (.ref fa) →
   ∃ fd:FuncData,(∀(s:Shared) (u:Value),BindsTo s fd ⟨[u],[]⟩ [(x,u)]) ∧
    ∀ base:Heap,(K w.params).In base→base.Ns mainGlobals mg→R7 l.prog w (K w.params) mg base CX k fa fd [x] (sp (K w.params)))
  (hsp:∀(K:Lo) (H:Hp) (a:Addr) (ns:List Int),ns.length≤n→sV H→SqL K H a (ns.map V.int)→sp K [.ref a] H (fun v _=>v = .bl true) fun _ _ _=>False)
  (hCX:∀(H:Hp) (s:Shared) (e:Value) (s':Shared),CX [] H s (fun _ _ _=>False) e s'→False) :
  PySem.W.WalkO q loose XP YP l.row.toRowW d [] (fun f vs=>PySem.call f vs) :=
 yK (K:=K) (CX:=fun _=>CX) (sp:=fun w=>sp (K w.params)) hn hn2 hdf hr hY F (fun w H a ns h1 h2 h3=>hsp (K w.params) H a ns h1 h2 h3) fun _ H s e s'=>hCX H s e s'
noncomputable def Q8(s:Stmt):Arguments:=match s with
 | .FunctionDef _ a _ _ _ _ _ _ _ _=>a
 | _=>{ posonlyargs:=[],args:=[],vararg:=none,kwonlyargs:=[],kw_defaults:=[],kwarg:=none,defaults:=[] }
noncomputable def J9(s:Stmt):List Stmt:=match s with
 | .FunctionDef _ _ b _ _ _ _ _ _ _=>b
 | _=>[]
noncomputable def e6(s:Stmt):Scope:=match s with
 | .FunctionDef _ _ _ _ _ _ sc _ _ _=>sc
 | _=>{ kind:=.function,names:=[],isGenerator:=false,isCoroutine:=false }
abbrev CX0:CXT:=fun _ _ _ _ _ _=>False
abbrev E0:XK:=fun _ _ _=>False
theorem FX{X:Cx}:kD CX0 X E0:=fun _ _ _ _ _ _ _ h=>h.elim
section
variable {P:Program} {w:World} {K:Lo} {mg:Str→Option Value} {base:Heap}
end
section
variable {X:Cx}
end
theorem Gv{A B:Prop}(h:B):if false=true then A else B:=by
 rw[if_neg LN]
 exact h
theorem Gs{A B:Prop}(h:A):if true=true then A else B:=by
 rw[if_pos rfl]
 exact h
end L2
end
namespace RM
open Rat
noncomputable def bl(n:Nat):Nat:=n.log2+1
theorem aO(n:Nat):n<2 ^ bl n:=Nat.lt_log2_self
theorem aW{n k:Nat}(h:n<2 ^ k)(hk:0<k):bl n≤k:=by
 unfold bl
 rcases Pp n with h0|h0
 ·subst h0;rw[Nat.log2_zero];omega
 ·have:=(Pd (Pe.mp h0)).mpr h
  omega
theorem xA(n:Nat):0<bl n:=Nat.succ_pos _
theorem ky{m n:Nat}(h:m≤n):bl m≤bl n:=aW (LO h (aO n)) (xA n)
theorem R0(m n:Nat):bl (m*n)≤bl m+bl n:=by
 refine aW ?_ (Nat.add_pos_left (xA m) _)
 rw[My]
 exact MZ (aO m) (aO n)
theorem EA(m n:Nat):bl (m+n)≤max (bl m) (bl n)+1:=by
 refine aW ?_ (Nat.succ_pos _)
 have h1:=aO m
 have h2:=aO n
 have e1:2 ^ bl m≤2 ^ max (bl m) (bl n):=LX (by decide) (ON _ _)
 have e2:2 ^ bl n≤2 ^ max (bl m) (bl n):=LX (by decide) (OF _ _)
 rw[MX]
 omega
noncomputable def sz(q:Rat):Nat:=max (bl q.num.natAbs) (bl q.den)
theorem O9(q:Rat):bl q.num.natAbs≤sz q:=ON _ _
theorem F7(q:Rat):bl q.den≤sz q:=OF _ _
theorem BD{q:Rat}{n:Nat}(h1:bl q.num.natAbs≤n)(h2:bl q.den≤n):sz q≤n:=Ov.mpr ⟨h1,h2⟩
theorem DS(a b:Int):(divInt a b).num.natAbs≤a.natAbs:=by
 rw[num_divInt]
 rcases Int.lt_trichotomy b 0 with h|h|h
 ·rw[Oh h]
  refine LB (Om _ _) ?_
  simp
 ·subst h;simp
 ·rw[OJ h,Int.one_mul]
  exact Om _ _
theorem En(a b:Int)(hb:b≠0):(divInt a b).den≤b.natAbs:=by
 rw[den_divInt,if_neg hb]
 exact Nh _ _
theorem O0(a b:Int)(hb:b≠0):sz (divInt a b)≤max (bl a.natAbs) (bl b.natAbs) :=
 BD (LB (ky (DS a b)) (ON _ _)) (LB (ky (En a b hb)) (OF _ _))
theorem t7(q:Rat):(q.den:Int)≠0:=by have:=q.den_nz;omega
theorem oP(q r:Rat):q+r=divInt (q.num*r.den+r.num*q.den) (q.den*r.den):=by
 conv=>lhs;rw[← num_divInt_den q,← num_divInt_den r]
 rw[divInt_add_divInt _ _ (t7 q) (t7 r)]
theorem ou(q r:Rat):q*r=divInt (q.num*r.num) (q.den*r.den):=by
 conv=>lhs;rw[← num_divInt_den q,← num_divInt_den r]
 rw[divInt_mul_divInt]
theorem xf(q r:Rat):q / r=divInt (q.num*r.den) (q.den*r.num):=by
 rw[div_def]
 conv=>lhs;rw[← num_divInt_den q,← num_divInt_den r]
 rw[inv_divInt,divInt_mul_divInt]
theorem eV(a b:Int):(a+b).natAbs≤a.natAbs+b.natAbs:=NI a b
theorem G8(q r:Rat):sz (q+r)≤sz q+sz r+1:=by
 rw[oP]
 have hb:((q.den:Int)*(r.den:Int))≠0:=Mj (t7 q) (t7 r)
 refine LB (O0 _ _ hb) (Ov.mpr ⟨?_,?_⟩)
 ·refine LB (ky (eV _ _)) (LB (EA _ _) ?_)
  rw[Mc,Mc]
  have h1:=R0 q.num.natAbs (r.den:Int).natAbs
  have h2:=R0 r.num.natAbs (q.den:Int).natAbs
  have a1:=O9 q
  have a2:=O9 r
  have a3:=F7 q
  have a4:=F7 r
  simp only[Lu]at h1 h2 ⊢
  omega
 ·rw[Mc]
  have h1:=R0 (q.den:Int).natAbs (r.den:Int).natAbs
  have a3:=F7 q
  have a4:=F7 r
  simp only[Lu]at h1 ⊢
  omega
theorem m9(q r:Rat):sz (q*r)≤sz q+sz r:=by
 rw[ou]
 have hb:((q.den:Int)*(r.den:Int))≠0:=Mj (t7 q) (t7 r)
 refine LB (O0 _ _ hb) (Ov.mpr ⟨?_,?_⟩)
 ·rw[Mc]
  have h1:=R0 q.num.natAbs r.num.natAbs
  have a1:=O9 q
  have a2:=O9 r
  omega
 ·rw[Mc]
  have h1:=R0 (q.den:Int).natAbs (r.den:Int).natAbs
  have a3:=F7 q
  have a4:=F7 r
  simp only[Lu]at h1 ⊢
  omega
theorem K2(q:Rat):sz (-q)=sz q:=by
 unfold sz
 rw[OA,Pf,Ml]
theorem dQ(q r:Rat):sz (q - r)≤sz q+sz r+1:=by
 rw[Pq]
 have:=G8 q (-r)
 rw[K2]at this
 exact this
theorem P0(q r:Rat)(hr:r≠0):sz (q / r)≤sz q+sz r:=by
 rw[xf]
 have hn:r.num≠0:=fun h=>hr (MR.mp h)
 have hb:((q.den:Int)*r.num)≠0:=Mj (t7 q) hn
 refine LB (O0 _ _ hb) (Ov.mpr ⟨?_,?_⟩)
 ·rw[Mc]
  have h1:=R0 q.num.natAbs (r.den:Int).natAbs
  have a1:=O9 q
  have a4:=F7 r
  simp only[Lu]at h1 ⊢
  omega
 ·rw[Mc]
  have h1:=R0 (q.den:Int).natAbs r.num.natAbs
  have a3:=F7 q
  have a2:=O9 r
  simp only[Lu]at h1 ⊢
  omega
theorem uR(q:Rat){n:Nat}(hn:0<n)(h1:q.num.natAbs<2 ^ n)(h2:q.den<2 ^ n):sz q≤n:=BD (aW h1 hn) (aW h2 hn)
theorem ak:sz 0=1:=by decide
theorem uS:sz 1=1:=by decide
theorem mM(a b:Nat)(h:b≠0):Mz a b=Mz b (a % b):=by
 rw[PM,Nat.gcd_rec,PM]
theorem Q7{a g:Int}(h:g ∣ a):a.fdiv g=a / g:=by
 obtain⟨c,rfl⟩:=h
 by_cases hg:g=0
 ·subst hg;simp
 ·rw[Int.mul_fdiv_cancel_left _ hg,Int.mul_ediv_cancel_left _ hg]
theorem DW(a b:Int)(hb:b≠0)(share:Int)(hs:share=if b<0 then -((Mz a.natAbs b.natAbs:Nat):Int)else((Mz a.natAbs b.natAbs:Nat):Int)) :
  a.fdiv share=(divInt a b).num∧b.fdiv share=((divInt a b).den:Int):=by
 have hg:Mz a.natAbs b.natAbs=Qt b a:=by unfold Qt;exact PM _ _
 have da:((Qt b a:Nat):Int) ∣ a:=Int.gcd_dvd_right b a
 have db:((Qt b a:Nat):Int) ∣ b:=Int.gcd_dvd_left b a
 rw[hg]at hs
 rw[num_divInt,den_divInt,if_neg hb]
 by_cases h:b<0
 ·rw[if_pos h]at hs
  subst hs
  rw[Q7 (Int.neg_dvd.mpr da),Q7 (Int.neg_dvd.mpr db),Oh h]
  refine⟨?_,?_⟩
  ·rw[Int.ediv_neg,Int.neg_one_mul,Pg da]
  ·rw[Int.ediv_neg,← Pg db]
   have e:-b=((b.natAbs:Nat):Int):=by omega
   rw[e]
   norm_cast
 ·rw[if_neg h]at hs
  subst hs
  have hp:0<b:=by omega
  rw[Q7 da,Q7 db,OJ hp,Int.one_mul]
  refine⟨rfl,?_⟩
  have e:b=((b.natAbs:Nat):Int):=by omega
  conv=>lhs;rw[e]
  norm_cast
theorem BJ(q r:Rat):decide (q.num*(r.den:Int)<r.num*(q.den:Int))=decide (q<r):=by
 by_cases h:q<r
 ·rw[decide_eq_true h,decide_eq_true ((Rat.lt_iff q r).mp h)]
 ·rw[decide_eq_false h,decide_eq_false (fun z=>h ((Rat.lt_iff q r).mpr z))]
end RM
namespace L2
open PySem PySem.Spec PyProof.Rows
section
variable {prog:Program} {w:World} {A:Around} {R:Result→Shared→Prop} {s:Shared}
noncomputable def ql(ifs:List Expr)(env:Env):Sem Bool:=forIn ifs true fun c r=>if r=true then do let ok ← isTrue c env (eval c env);pure (ForInStep.yield ok)else pure (ForInStep.yield r)
theorem ki{elt target iter:Expr}{ifs:List Expr}{scope:Scope}{pos:Pos}{it acc:Value}{env:Env}(I:Nat→Shared→Prop)
  (turn:∀ n s,I n s→wpAny (model prog w) A (pyNext it) (fun r s₁=>match r with
   | none=>R (.ok .next) s₁
   | some v=>wpAny (model prog w) A (letOwnedTupleGo target it v) (fun _ s₁'=>wpAny (model prog w) A (assign target env v) (fun _ s₂=>wpAny (model prog w) A (ql ifs env) (fun ok s₂'=>if ok=true then wpAny (model prog w) A (eval elt env) (fun x s₃ =>
     wpAny (model prog w) A (call (.builtin "list.append") [acc,x]) (fun _ s₄=>∃ m,m<n∧I m s₄) (notedBy (model prog w) A env fun e s'=>R (.error e) s') s₃)
     (notedBy (model prog w) A env fun e s'=>R (.error e) s') s₂' else ∃ m,m<n∧I m s₂') (notedBy (model prog w) A env fun e s'=>R (.error e) s') s₂) (notedBy (model prog w) A env fun e s'=>R (.error e) s') s₁') (notedBy (model prog w) A env fun e s'=>R (.error e) s') s₁) (notedBy (model prog w) A env fun e s'=>R (.error e) s') s)
  (n:Nat) (h:I n s) :
  codeAny (model prog w) A (.compLoop (.ListComp elt [⟨target,iter,ifs,0⟩] scope pos) 0 it acc env) R s:=by
 refine codeAny_loop rfl I (fun n s hI=>?_) n h
 show wpAny _ _ ((compTurn (.ListComp elt [⟨target,iter,ifs,0⟩] scope pos) 0 it acc env).onRaise (fun x=>do noteFrame x env;theTreesLotGoes x)) _ _ s
 refine wpAny_noted ?_
 rw[compTurn_list]
 refine Lp (wpAny_standAt (Lp (wpAny_mono (turn n s hI) (fun r s₁ h₁=>?_) fun _ _ h'=>h')))
 cases r with
 | none=>exact LG h₁
 | some v =>
  refine Lp (wpAny_mono h₁ (fun _ s₁' h₁'=>?_) fun _ _ h'=>h')
  refine Lp (wpAny_mono h₁' (fun _ s₂ h₂=>Lp (wpAny_mono h₂ (fun ok s₂' h₃=>?_) fun _ _ h'=>h')) fun _ _ h'=>h')
  cases ok with
  | true =>
   refine Lp (Lp (wpAny_mono h₃ (fun x s₃ h₄=>Lp (wpAny_mono h₄ (fun _ s₄ h₅=>LG (LG ⟨rfl,h₅⟩)) fun _ _ h'=>h')) fun _ _ h'=>h'))
  | false=>exact Lp (LG (LG ⟨rfl,h₃⟩))
end
def bH(X:Cx)(ifs:List Expr)(t:TT):Prop :=
 ∀(pins:List (Addr × Obj)) (s:Shared) (σ:St) (H:Hp) (Q:Bool→Hp→Prop),Inv X pins σ H s→t σ H Q→wpAny (model X.prog X.w) X.A (ql ifs X.env) (TP X pins σ Q) X.xe s
def Hw:TT:=fun _ H Q=>Q true H
theorem vM{X:Cx}:bH X [] Hw:=fun pins s σ H Q I q=>LG ⟨H,I,q⟩
theorem vL{X:Cx}{c:Expr}{t:TT}(h:PT X c t):bH X [c] t:=fun pins s σ H Q I q=>wpAny_tests_one (h pins s σ H Q I q)
noncomputable def U7(cells:List (Str × Addr)):List (Str × NameKind)→List (Str × Addr)→List (Str × Addr)
 | [],acc=>acc
 | (n,k) :: r,acc=>if k == .free then U7 cells r ((n,(cells.lookup n).getD 0) :: acc)else U7 cells r acc
theorem ae{env:Env}:∀(names:List (Str × NameKind)) (acc:List (Str × Addr)),(∀ n,(n,NameKind.free)∈names→∃ c,env.cells.lookup n=some c) →
  (forIn names acc (fun(x:Str × NameKind) (cs:List (Str × Addr))=>if (x.2 == NameKind.free)=true then(do let a ← cellOf env x.1;pure (ForInStep.yield ((x.1,a) :: cs)))else pure (ForInStep.yield cs)):Sem (List (Str × Addr)))=pure (U7 env.cells names acc)
 | [],acc,_=>rfl
 | (n,k) :: r,acc,h=>by
  rw[OO]
  unfold U7
  by_cases hk:(k == NameKind.free)=true
  ·have e:k = .free:=by cases k<;>first|rfl|(exact absurd hk (by decide))
   subst e
   obtain⟨c,hc⟩:=h n Ly
   rw[if_pos hk,if_pos hk]
   have e1:cellOf env n=pure c:=by unfold cellOf;rw[hc]
   rw[e1,pure_bind,pure_bind,hc]
   exact ae r _ fun m hm=>h m (Ls _ hm)
  ·rw[if_neg hk,if_neg hk,pure_bind]
   exact ae r _ fun m hm=>h m (Ls _ hm)
theorem mX{scope:Scope}{env:Env}(h:∀ n,(n,NameKind.free)∈scope.names→∃ c,env.cells.lookup n=some c):closureFor scope env=pure (U7 env.cells scope.names []):=by
 have:=ae (env:=env) scope.names [] h
 unfold closureFor
 first
  | (simp only[]at this ⊢;rw[← this];simp only[bind_pure];rfl)
  | (rw[← this];rfl)
  | (simp only[bind_pure,pure_bind];exact this)
theorem Q9{cells:List (Str × Addr)}{x:Str}{c:Addr}:∀(names:List (Str × NameKind)) (acc:List (Str × Addr)),(∀ n,(n,NameKind.free)∈names→∃ c,cells.lookup n=some c)→(∀ y d,acc.lookup y=some d→cells.lookup y=some d)→(U7 cells names acc).lookup x=some c→cells.lookup x=some c
 | [],acc,_,ha,h=>ha x c h
 | (n,k) :: r,acc,hn,ha,h=>by
  unfold U7 at h
  by_cases hk:(k == NameKind.free)=true
  ·rw[if_pos hk]at h
   have e:k = .free:=by cases k<;>first|rfl|(exact absurd hk (by decide))
   subst e
   obtain⟨d,hd⟩:=hn n Ly
   refine Q9 r _ (fun m hm=>hn m (Ls _ hm)) (fun y e hy=>?_) h
   rw[Np]at hy
   split at hy
   ·rename_i hz
    have hz':y=n:=by simpa using hz
    subst hz'
    rw[hd]at hy ⊢
    cases hy;rfl
   ·exact ha y e hy
  ·rw[if_neg hk]at h
   exact Q9 r _ (fun m hm=>hn m (Ls _ hm)) ha h
theorem W6{cells:List (Str × Addr)}{x:Str}:∀(names:List (Str × NameKind)) (acc:List (Str × Addr)),((x,NameKind.free)∈names ∨ ∃ c,acc.lookup x=some c)→∃ c,(U7 cells names acc).lookup x=some c
 | [],acc,h=>by
  rcases h with h|h
  ·cases h
  ·exact h
 | (n,k) :: r,acc,h=>by
  unfold U7
  by_cases hk:(k == NameKind.free)=true
  ·rw[if_pos hk]
   refine W6 r _ ?_
   by_cases hx:x=n
   ·right;rw[Np];simp[hx]
   ·rcases h with h|⟨c,h⟩
    ·rcases Lz.mp h with z|z
     ·injection z with z1 _;exact absurd z1 hx
     ·exact .inl z
    ·right
     refine⟨c,?_⟩
     rw[Np]
     have:(x == n)=false:=by simpa using hx
     rw[this];exact h
  ·rw[if_neg hk]
   refine W6 r _ ?_
   rcases h with h|h
   ·rcases Lz.mp h with z|z
    ·injection z with _ z2
     subst z2
     exact absurd rfl hk
    ·exact .inl z
   ·exact .inr h
theorem bS{scope:Scope}{env:Env}{x:Str}{k:NameKind}(h:(relabel scope env).names.lookup x=some k)(hk:k = .cell∨k = .free)(hcell:∀ y∈scope.names,y.2 ≠ .cell):(x,NameKind.free)∈scope.names:=by
 have go:∀(l:List (Str × NameKind)),(∀ y∈l,y.2 ≠ .cell)→(l.map fun(n,k)=>if (k == NameKind.free && env.scope.kind == .function && env.kindOf n == some .cell)=true then(n,NameKind.cell)else(n,k)).lookup x=some k→(x,NameKind.free)∈l:=by
  intro l
  induction l with
  | nil=>intro _ h;cases h
  | cons p r ih =>
   intro hl h
   obtain⟨n,j⟩:=p
   rw[LY,Np]at h
   by_cases hj:j = .free
   ·subst hj
    by_cases hx:x=n
    ·subst hx;exact Ly
    ·refine Ls _ (ih (fun y hy=>hl y (Ls _ hy)) ?_)
     have e:∀ b:Bool,(x == (if b=true then(n,NameKind.cell)else(n,NameKind.free)).1)=false:=fun b=>by cases b<;>simpa using hx
     dsimp only at h
     rw[e]at h
     exact h
   ·have e:(j == NameKind.free)=false:=by simpa using hj
    have hc:=hl (n,j) Ly
    dsimp only at h
    rw[e]at h
    simp only[Qn,Nz,if_false]at h
    by_cases hx:x=n
    ·have:(x == n)=true:=by simpa using hx
     rw[this]at h
     have h':j=k:=by simpa using h
     subst h'
     rcases hk with z|z
     ·exact absurd z hc
     ·exact absurd z hj
    ·have:(x == n)=false:=by simpa using hx
     rw[this]at h
     exact Ls _ (ih (fun y hy=>hl y (Ls _ hy)) h)
 exact go scope.names hcell h
noncomputable def cxF(X:Cx)(scope:Scope)(cl:List (Str × Addr))(N':List Str)(s3:Shared)(H3:Hp)(C:Addr)(fp:List Addr)(pins:List (Addr × Obj)):Cx :=
 { X with N:=N',s₀:=s3,H₀:=H3,env:=compEnvC scope cl C X.env,outer:=X.stack,ex:=fp,fn:=fun _=>false,pn:=X.pn++pins,xe:=fun _ _=>False }
noncomputable def kr(n:Nat)(caps:List Nat)(σ:St):St:=Nc n none++caps.map fun i=>(σ[i]?).getD none
def nE(n:Nat)(caps:List Nat)(wi:TI)(g:TG)(tc:TT)(te:TE):TE:=fun σ H Q=>wi σ H fun J H1=>∀ D,H1 D=none→∃ W:Nat→Nat→Hp→Prop,(∃ m,W 0 m (upd H1 D (.lst [])))∧∀ i m H,W i m H →
 (J.stop i H∧Q (.ref D) H)∨(J.go i H∧∀ x H',J.yld i H x H'→g x (kr n caps σ) H' fun σ2 H2=>tc σ2 H2 fun b H2'=>if b=true then te σ2 H2' fun v H3=>∃ ys,H3 D=some (.lst ys)∧ys.length<sizeLine∧∃ m',m'<m∧W (i+1) m' (upd H3 D (.lst (ys++[v])))else ∃ m',m'<m∧W (i+1) m' H2')
section
variable {X:Cx} {elt tg iter:Expr} {scope:Scope} {cl:List (Str × Addr)} {tgs cps:List Str} {caps:List Nat} {wi:TI} {g:TG} {tc:TT} {te:TE} {pos:Pos} {ifs:List Expr}
def xM(s3:Shared)(H3:Hp)(fp:List Addr)(cl:List (Str × Addr))(x:Str)(v:V):Prop :=
 ∃(u:Value) (c:Addr) (o:Obj),j7 v u∧cl.lookup x=some c∧s3.heap.get? c=some o∧o.data = .cell (some u)∧H3 c=none∧c∉fp
theorem Inv.reset{pins pins':List (Addr × Obj)}{σ0 σ':St}{H3 H':Hp}{s3 s':Shared}{fp:List Addr}{C:Addr}(I:Inv (cxF X scope cl (tgs++cps) s3 H3 C fp pins) pins' σ' H' s')
  (hsc:∀ x∈cps,(relabel scope X.env).names.lookup x=some .cell∨(relabel scope X.env).names.lookup x=some .free) (hl:caps.length=cps.length)
  (hc:∀(j:Nat) (x:Str) (v:V),cps[j]? = some x→(caps.map fun i=>(σ0[i]?).getD none)[j]? = some (some v)→xM s3 H3 fp cl x v) :
  Inv (cxF X scope cl (tgs++cps) s3 H3 C fp pins) pins' (kr tgs.length caps σ0) H' s':=by
 obtain⟨m,hn,_⟩:=I.loc
 refine⟨I.ok,I.os,I.bare,I.base,⟨m,hn,fun i x v e1 e2 e3=>?_⟩,I.cell,I.free,I.freeC,I.pin,I.hok,by simp[kr,cxF,hl]⟩
 have e1:(tgs++cps)[i]? = some x:=e1
 unfold kr at e2
 rw[NV]at e1 e2
 rw[NK]at e2
 by_cases hi:i<tgs.length
 ·rw[if_pos hi]at e2
  rw[MD]at e2
  split at e2<;>cases e2
 ·rw[if_neg hi]at e1 e2
  obtain⟨u,c,o,r,h1,h2,h3,h4,h5⟩:=hc (i - tgs.length) x v e1 e2
  obtain⟨sl,k⟩:=I.base.any h2 h4 h5
  refine⟨u,r,.inr ⟨?_,c,h1,_,k,h3⟩⟩
  rcases hsc x (LK e1)with z|z
  ·exact .inl z
  ·exact .inr z
theorem mW{pins:List (Addr × Obj)}{σ0:St}{σ:St}{H3:Hp}{s3:Shared}{fp:List Addr}{it D C:Addr}{tn:Nat→Heap→Prop}{J:It}{h₁:Heap}{tk:Nat}{m:Str→Option Value}{R:Result→Shared→Prop}{Qd:Hp→Prop}
  (hc:X.calm=true) (hcell:∀ x∈scope.names,x.2 ≠ .cell) (hkind:scope.kind = .function)
  (hcl:∀ x c,cl.lookup x=some c→X.env.cells.lookup x=some c) (hhas:∀ x,(x,NameKind.free)∈scope.names→∃ c,cl.lookup x=some c)
  (hsc:∀ x∈cps,(relabel scope X.env).names.lookup x=some .cell∨(relabel scope X.env).names.lookup x=some .free) (hl:caps.length=cps.length)
  (hcap:∀(j:Nat) (x:Str) (v:V),cps[j]? = some x→(caps.map fun i=>(σ0[i]?).getD none)[j]? = some (some v)→xM s3 H3 fp cl x v)
  (hg:∀ cl s3 H3 C fp pins,PG (cxF X scope cl (tgs++cps) s3 H3 C fp pins) tg g) (hq:∀ cl s3 H3 C fp pins,bH (cxF X scope cl (tgs++cps) s3 H3 C fp pins) ifs tc) (he:∀ cl s3 H3 C fp pins,PE (cxF X scope cl (tgs++cps) s3 H3 C fp pins) elt te)
  (I3:Inv X pins σ H3 s3) (T:oQ X.prog X.w X.K tg J fp it tn) (st3:tn 0 s3.heap) (f3:∀ b∈fp,ag X pins H3 b) (hC:C=s3.heap.objs.size) (hn:h₁.Ns C m) (hk:∀ b o,s3.heap.get? b=some o→h₁.get? b=some o)
  (W:Nat→Nat→Hp→Prop) (m0:Nat) (w0:W 0 m0 H3)
  (turn:∀ i m H,W i m H→(J.stop i H∧Qd H)∨(J.go i H∧∀ x H',J.yld i H x H'→g x (kr tgs.length caps σ0) H' fun σ2 H2=>tc σ2 H2 fun b H2'=>if b=true then te σ2 H2' fun v H3=>∃ ys,H3 D=some (.lst ys)∧ys.length<sizeLine∧∃ m',m'<m∧W (i+1) m' (upd H3 D (.lst (ys++[v])))else ∃ m',m'<m∧W (i+1) m' H2'))
  (hR:∀ s' H' σ',Inv (cxF X scope cl (tgs++cps) s3 H3 C fp pins) [] σ' H' s'→Qd H'→R (.ok .next) s') :
  codeAny (model X.prog X.w) X.A (.compStart (.ListComp elt [⟨tg,iter,ifs,0⟩] scope pos) 0 (.ref it) (.ref D) (compEnvC scope cl C X.env)) R { s3 with heap:=h₁,toks:=tk }:=by
 have lt3:∀ b∈fp,b<s3.heap.objs.size:=fun b hb=>by
  obtain⟨o,e,_⟩:=T.obj 0 _ st3 b hb
  exact LD e
 have ok':(cxF X scope cl (tgs++cps) s3 H3 C fp pins).Ok:={
  mod:=I3.ok.mod
  kind:=hkind
  glob:=I3.ok.glob
  blt:=I3.ok.blt
  above:=PL hC.symm
  inj:=fun x y c e e'=>I3.ok.inj x y c (hcl x c e) (hcl y c e')
  has:=fun x h=>by
   rcases h with h|h
   ·exact hhas x (bS h (.inl rfl) hcell)
   ·exact hhas x (bS h (.inr rfl) hcell)
  cab:=fun x c h=>by cases h
  hd:=fun _=>I3.ok.hd hc
  frames:=I3.ok.frames
  stk:=.inl rfl
  exf:=fun b hb=>⟨fun z=>by
   have z':b=C:=z
   have h1:=lt3 b hb
   rw[z',hC]at h1
   exact MN _ h1,fun x c e=>(f3 b hb).2.2.2.2.1 x c (hcl x c e)⟩
  bs:=fun b o e=>I3.bs b o e
  bsz:=LB I3.ok.bsz I3.sz
  noex:=fun b o e hb=>by
   obtain⟨_,_,_,q,_⟩:=f3 b hb
   rcases q with q|q
   ·exact I3.ok.noex b o e q
   ·have h1:=LD e
    exact absurd (Lw (Lw h1 I3.ok.bsz) q) (MN _)
  exfs:=fun b hb z=>by
   obtain⟨_,q1,q2,_⟩:=f3 b hb
   rcases Lz.mp (I3.stkSub b z)with y|y
   ·exact q1 y
   ·exact q2 y
  funs:=I3.stack
  frf:=I3.stkFree }
 have J0:Inv (cxF X scope cl (tgs++cps) s3 H3 C fp pins) [] (Nc (tgs++cps).length none) H3 { s3 with heap:=h₁,toks:=tk }:={
  ok:=ok'
  os:=rfl
  bare:=I3.bare
  base:=Un.kept hk
  loc:=⟨m,hn,fun i x v _ e _=>by
   rw[MD]at e
   split at e<;>cases e⟩
  cell:=fun x c e=>by
   obtain⟨v,o,ho,hd⟩:=I3.cell x c (hcl x c e)
   exact⟨v,o,hk c o ho,hd⟩
  free:=I3.hok.fresh (PL hC.symm)
  freeC:=fun x c e=>I3.freeC x c (hcl x c e)
  pin:=fun p hp=>by
   have hp':p∈X.pn++pins:=by simpa[cxF]using hp
   obtain⟨a1,a2,a3,a4,a5⟩:=I3.pin p hp'
   refine⟨hk _ _ a1,a2,fun z=>?_,fun z=>?_,a5⟩
   ·have z':p.1=C:=z
    have h1:=LD a1
    rw[z',hC]at h1
    exact MN _ h1
   ·rcases Lz.mp (I3.stkSub _ z)with y|y
    ·exact a3 y
    ·exact a4 y
  hok:=I3.hok.kept hk
  len:=by simp[cxF] }
 have stat:∀{H':Hp},(∀ b∈fp,H' b=none)→∀ b∈fp,ag (cxF X scope cl (tgs++cps) s3 H3 C fp pins) [] H' b:=fun hn b hb=>by
  obtain⟨_,_,_,_,_,q⟩:=f3 b hb
  exact⟨hn b hb,(ok'.exf b hb).1,ok'.exfs b hb,.inl hb,(ok'.exf b hb).2,fun p hp=>q p (by simpa[cxF]using hp)⟩
 have loop:codeAny (model X.prog X.w) X.A (.compLoop (.ListComp elt [⟨tg,iter,ifs,0⟩] scope pos) 0 (.ref it) (.ref D) (compEnvC scope cl C X.env)) R { s3 with heap:=h₁,toks:=tk }:=by
  refine ki (fun n s'=>∃ i σ' H',Inv (cxF X scope cl (tgs++cps) s3 H3 C fp pins) [] σ' H' s'∧tn i s'.heap∧(∀ b∈fp,H' b=none)∧W i n H') ?_ m0
   ⟨0,_,H3,J0,T.keep _ _ _ st3 fun b hb o e=>hk b o e,fun b hb=>(f3 b hb).1,w0⟩
  rintro n s4 ⟨i,σ4,H4,I4,st4,fr4,w4⟩
  rcases turn i n H4 w4 with⟨stop,qn⟩|⟨go,step⟩
  ·refine thn (T.done (cxF X scope cl (tgs++cps) s3 H3 C fp pins) rfl rfl rfl hc i [] s4 σ4 H4 _ I4 (stat fr4) st4 stop) fun r s5 zz=>?_
   obtain⟨hr,I5⟩:=zz
   subst hr
   exact hR s5 H4 σ4 I5 qn
  ·refine thn (T.item (cxF X scope cl (tgs++cps) s3 H3 C fp pins) rfl rfl rfl hc i [] s4 σ4 H4 _ I4 (stat fr4) st4 go) fun r s5 zz=>?_
   obtain⟨u,hr,h5⟩:=zz
   subst hr
   refine thn h5 fun _ s6 zz=>?_
   obtain⟨x,H6,I6,r6,y6,st6,fr6⟩:=zz
   have I6w:=I6.reset hsc hl hcap
   have I6':=I6w.pinned (stat fr6) (T.obj _ _ st6)
   refine wpAny_mono (hg cl s3 H3 C fp pins _ s6 _ H6 x u _ I6' r6 (step x H6 y6)) (fun _ s7 ⟨σ7,H7,I7,q7⟩=>?_) fun _ _ z=>z.elim
   refine wpAny_mono (hq cl s3 H3 C fp pins _ s7 σ7 H7 _ I7 q7) (fun b s7' ⟨H7',I7',q7'⟩=>?_) fun _ _ z=>z.elim
   cases b with
   | false =>
    obtain⟨m',hm,w8⟩:=q7'
    refine⟨m',hm,i+1,σ7,H7',I7'.unpinned,T.keep _ _ _ st6 fun b hb o e=>(I7'.pin (b,o) (LW _ (LW _ (F9 hb e)))).1,fun b hb=>?_,w8⟩
    obtain⟨o,e,d⟩:=T.obj _ _ st6 b hb
    exact(I7'.pin (b,o) (LW _ (LW _ (F9 hb e)))).2.1
   | true =>
    refine wpAny_mono (he cl s3 H3 C fp pins _ s7' σ7 H7' _ I7' q7') (fun v s8 ⟨y,H8,I8,r8,q8⟩=>?_) fun _ _ z=>z.elim
    obtain⟨ys,hy,hz,m',hm,w8⟩:=q8
    refine wpAny_mono (gW (X:=cxF X scope cl (tgs++cps) s3 H3 C fp pins) _ s8 σ7 H8 (.ref D) [y] (.ref D) [v] (fun _ H9=>W (i+1) m' H9) I8 rfl (.cons r8 .nil) ⟨D,ys,y,rfl,rfl,hy,hz,w8⟩) (fun _ s9 ⟨_,H9,I9,_,w9⟩=>?_) fun _ _ z=>z.elim
    refine⟨m',hm,i+1,σ7,H9,I9.unpinned,T.keep _ _ _ st6 fun b hb o e=>(I9.pin (b,o) (LW _ (LW _ (F9 hb e)))).1,fun b hb=>?_,w9⟩
    obtain⟨o,e,d⟩:=T.obj _ _ st6 b hb
    exact(I9.pin (b,o) (LW _ (LW _ (F9 hb e)))).2.1
 exact codeAny_compStart_list loop (T.self _ 0 _ _ _ (T.keep _ _ _ st3 fun b hb o e=>hk b o e) loop)
theorem ij(hc:X.calm=true)(hcell:∀ x∈scope.names,x.2 ≠ .cell)(hkind:scope.kind = .function)(hnames:∀ x∈scope.names,x.2 = .local→scope.names.lookup x.1=some .local)
  (hfr:∀ x∈scope.names,x.2 = .free→x.1∈cps) (hN:caps.map (fun i=>X.N[i]?)=cps.map some) (hX:∀ x∈cps,X.env.scope.names.lookup x=some .cell∧scope.names.lookup x=some .free)
  (hsc:∀ x∈cps,(relabel scope X.env).names.lookup x=some .cell∨(relabel scope X.env).names.lookup x=some .free)
  (hi:PI X tg iter wi) (hg:∀ cl s3 H3 C fp pins,PG (cxF X scope cl (tgs++cps) s3 H3 C fp pins) tg g) (hq:∀ cl s3 H3 C fp pins,bH (cxF X scope cl (tgs++cps) s3 H3 C fp pins) ifs tc) (he:∀ cl s3 H3 C fp pins,PE (cxF X scope cl (tgs++cps) s3 H3 C fp pins) elt te)
  (hs:∀ x,foldedSetIterable iter X.env x=pure x) {use:Option (Value→Sem Unit)} {Qf:Value→Shared→Prop} {pins:List (Addr × Obj)} {s:Shared} {σ:St} {H:Hp} {Q:VK} (I:Inv X pins σ H s) (h:nE tgs.length caps wi g tc te σ H Q)
  (hU:∀(D C:Addr) (s':Shared) (H4:Hp) (m4:Str→Option Value),s'.heap.Ns C m4→ag X pins H4 C→(∀ h',Heap.SameBut C s'.heap h'→Inv X pins σ H4 { s' with heap:=h' })→Q (.ref D) H4→compPost (model X.prog X.w) X.A X.xe use Qf (.ref D) C (.ok .next) s') :
  wpAny (model X.prog X.w) X.A (comprehension (.ListComp elt [⟨tg,iter,ifs,0⟩] scope pos) scope X.env (firstIterPos [⟨tg,iter,ifs,0⟩] pos) (newList []) false (eval iter X.env) use) Qf X.xe s:=by
 have hl:caps.length=cps.length:=by
  have:=congrArg Pc hN
  simpa using this
 have hcells:∀ n,(n,NameKind.free)∈scope.names→∃ c,X.env.cells.lookup n=some c:=fun n hn=>I.ok.has n (.inl (hX n (hfr _ hn rfl)).1)
 refine wpAny_comprehension_free (use:=use) rfl hs (mX hcells) hkind hnames (thn (hi pins s σ H _ I h) fun v s1 h1=>thn h1 fun itv s2 h2=>?_)
 obtain⟨it,fp,tn,J,H',e,I2,T,st2,f2,hW⟩:=h2
 subst e
 refine wpAny_newObj_type (hd:=by size_fits) (wpAny_newFunctionEnv hcell (by intro y hy;simp at hy) (fun h₁ hns₁ hsb₁=>?_) hkind)
 dsimp only at hns₁ hsb₁ ⊢
 have I3:=I2.lnew (ys:=[]) (its:=[]) (t':=s2.toks) .nil (Mn _)
 obtain⟨W,⟨m0,w0⟩,turn⟩:=hW _ I2.fresh
 have st3:tn 0 (s2.heap.push { cls:=.type "list",data:=.seq ([]:List Value).toArray }):=T.keep _ _ _ st2 fun b hb o e=>Lq _ e
 have f3:∀ b∈fp,ag X pins (upd H' s2.heap.objs.size (.lst [])) b:=fun b hb=>by
  obtain⟨q0,q⟩:=f2 b hb
  obtain⟨o,e,_⟩:=T.obj 0 _ st2 b hb
  exact⟨by rw[g8 (Md (LD e))];exact q0,q⟩
 have old:∀ b o,(s2.heap.push { cls:=.type "list",data:=.seq ([]:List Value).toArray }).get? b=some o→h₁.get? b=some o:=fun b o e =>
  hsb₁.extBut b o (Md (LD e)) (Lq _ e)
 have hcap:∀(j:Nat) (x:Str) (v:V),cps[j]? = some x→(caps.map fun i=>(σ[i]?).getD none)[j]? = some (some v) →
   xM { s2 with heap:=s2.heap.push { cls:=.type "list",data:=.seq ([]:List Value).toArray },toks:=s2.toks } (upd H' s2.heap.objs.size (.lst [])) fp (U7 X.env.cells scope.names []) x v:=fun j x v ex ev=>by
  have hx:=hX x (LK ex)
  have hj:(caps.map (fun i=>X.N[i]?))[j]? = some (some x):=by rw[hN,LS,ex];rfl
  rw[LS]at ev hj
  cases hcj:caps[j]? with
  | none=>rw[hcj]at ev;cases ev
  | some i =>
   rw[hcj]at ev hj
   have ev':(σ[i]?).getD none=some v:=by simpa using ev
   have hj':X.N[i]? = some x:=by simpa using hj
   have es:σ[i]? = some (some v):=by
    cases q:σ[i]? with
    | none=>rw[q]at ev';cases ev'
    | some w=>rw[q]at ev';rw[show w=some v by simpa using ev']
   obtain⟨m,hn,hlook⟩:=I3.loc
   obtain⟨u,ru,lk⟩:=hlook i x v hj' es (.inr (.inl hx.1))
   rcases lk with⟨k1,_⟩|⟨_,c,hc1,o,ho,hd⟩
   ·have k1':X.env.scope.names.lookup x=some .local:=k1
    rw[hx.1]at k1';cases k1'
   ·have hmem:(x,NameKind.free)∈scope.names:=by
     have hlk:=hx.2
     have go:∀ l:List (Str × NameKind),l.lookup x=some .free→(x,NameKind.free)∈l:=by
      intro l
      induction l with
      | nil=>intro z;cases z
      | cons p r ih =>
       intro z
       obtain⟨n,k⟩:=p
       rw[Np]at z
       split at z
       ·rename_i q;have q':x=n:=by simpa using q
        have z':k = .free:=by simpa using z
        rw[q',z'];exact Ly
       ·exact Ls _ (ih z)
     exact go _ hlk
    obtain⟨c',hc'⟩:=W6 (cells:=X.env.cells) scope.names [] (.inl hmem)
    have:=Q9 scope.names [] hcells (fun y d z=>by cases z) hc'
    rw[hc1]at this
    cases this
    refine⟨u,c,o,ru,hc',ho,hd,I3.freeC x c hc1,fun hb=>?_⟩
    exact(f3 c hb).2.2.2.2.1 x c hc1 rfl
 refine mW (s3:={ s2 with heap:=s2.heap.push { cls:=.type "list",data:=.seq ([]:List Value).toArray },toks:=s2.toks }) (Qd:=fun H=>Q (.ref s2.heap.objs.size) H) (tk:=s2.toks+([]:List (Str × Value)).length) (cl:=U7 X.env.cells scope.names [])
  hc hcell hkind (fun x c z=>Q9 scope.names [] hcells (fun y d z=>by cases z) z) (fun x z=>W6 scope.names [] (.inl z)) hsc hl hcap hg hq he I3 T st3 f3 rfl hns₁ old W m0 w0 turn fun s' H4 σ4 I4 q4=>?_
 obtain⟨m4,hn4,_⟩:=I4.loc
 have hCfree:H4 _=none:=I4.free
 have nC:∀ b u,H4 b=some u→b≠(s2.heap.push { cls:=.type "list",data:=.seq ([]:List Value).toArray }).objs.size:=fun b u e z=>by
  rw[z]at e
  have:=e.symm.trans hCfree
  cases this
 have lt:∀ b o,(s2.heap.push { cls:=.type "list",data:=.seq ([]:List Value).toArray }).get? b=some o→b≠(s2.heap.push { cls:=.type "list",data:=.seq ([]:List Value).toArray }).objs.size:=fun b o e=>Md (LD e)
 have ub:=I4.base
 have fC:ag X pins H4 (s2.heap.push { cls:=.type "list",data:=.seq ([]:List Value).toArray }).objs.size:=I3.fpOk (LM _) hCfree
 refine hU _ _ s' H4 m4 hn4 fC (fun h' hsb=>?_) q4
 have un:Un (frs X.stack) fp (upd H' s2.heap.objs.size (.lst [])) H4 (s2.heap.push { cls:=.type "list",data:=.seq ([]:List Value).toArray }) h':={
  keep:=fun b o e n x y=>(hsb.2 b (lt b o e)).trans (ub.keep b o e n x y)
  slot:=fun b o e n x y=>let ⟨q,z⟩:=ub.slot b o e n x y;⟨q,(hsb.2 b (lt b o e)).trans z⟩
  free:=ub.free
  there:=fun b o e y=>let ⟨q,z⟩:=ub.there b o e y;⟨q,(hsb.2 b (lt b o e)).trans z⟩
  tups:=ub.tups
  frzs:=ub.frzs
  tbls:=ub.tbls }
 refine I3.call' (s':={ s' with heap:=h' }) I4.os un (fun b u e=>?_) I4.bare fun b hb=>?_
 ·refine(I4.hok b u e).stay (fun c v hcv q=>(hsb.2 c ?_).trans q) (fun _ q=>q) fun _ _ q=>q
  rcases hcv with z|z
  ·rw[z];exact nC b u e
  ·exact nC c _ z
 ·obtain⟨q0,q1,q2,q3,q4,q5⟩:=f3 b hb
  exact⟨q3,q1,q4,q5⟩
theorem vR(hc:X.calm=true)(hcell:∀ x∈scope.names,x.2 ≠ .cell)(hkind:scope.kind = .function)(hnames:∀ x∈scope.names,x.2 = .local→scope.names.lookup x.1=some .local)
  (hfr:∀ x∈scope.names,x.2 = .free→x.1∈cps) (hN:caps.map (fun i=>X.N[i]?)=cps.map some) (hX:∀ x∈cps,X.env.scope.names.lookup x=some .cell∧scope.names.lookup x=some .free)
  (hsc:∀ x∈cps,(relabel scope X.env).names.lookup x=some .cell∨(relabel scope X.env).names.lookup x=some .free)
  (hi:PI X tg iter wi) (hg:∀ cl s3 H3 C fp pins,PG (cxF X scope cl (tgs++cps) s3 H3 C fp pins) tg g) (hq:∀ cl s3 H3 C fp pins,bH (cxF X scope cl (tgs++cps) s3 H3 C fp pins) ifs tc) (he:∀ cl s3 H3 C fp pins,PE (cxF X scope cl (tgs++cps) s3 H3 C fp pins) elt te)
  (hs:∀ x,foldedSetIterable iter X.env x=pure x:=by intro _;rfl):PE X (.ListComp elt [⟨tg,iter,ifs,0⟩] scope pos) (nE tgs.length caps wi g tc te):=by
 intro pins s σ H Q I h
 rw[eval_ListComp]
 exact ij hc hcell hkind hnames hfr hN hX hsc hi hg hq he hs I h fun D C s' H4 m4 hn4 fC hI q4=>⟨m4,hn4,fun h' hsb=>⟨.ref D,H4,hI h' hsb,rfl,q4⟩⟩
def PU(X:Cx)(i:Nat)(x:Str)(pos':Pos)(e:Expr)(te:TE):Prop:=∀(pins:List (Addr × Obj)) (s:Shared) (σ:St) (H:Hp) (Q:VK),Inv X pins σ H s→te σ H Q →
 wpAny (model X.prog X.w) X.A (evalThenUse e X.env (assign (.Name x pos') X.env)) (fun _ s'=>∃ v H',Inv X pins (σ.set i (some v)) H' s'∧Q v H') X.xe s
theorem PU.imp{X:Cx}{i:Nat}{x:Str}{pos':Pos}{e:Expr}{t t':TE}(h:PU X i x pos' e t)(f:∀ σ H Q,t' σ H Q→t σ H Q):PU X i x pos' e t':=fun pins s σ H Q I q=>h pins s σ H Q I (f σ H Q q)
theorem zm{i:Nat}{x:Str}{pos' pos:Pos}{e:Expr}{te:TE}(h:PU X i x pos' e te)(hs:swapsWith e (some (.Name x pos')) pos.line X.env=pure true):PS X (.Assign [.Name x pos'] e pos) (CN te (wR i)):=by
 intro pins s σ H D I q
 rw[exec_Assign_Name_used _ _ _ _ hs]
 refine Lp (wpAny_standAt (Lp (thn (h pins s σ H _ I q) fun _ s1 ⟨v,H1,I1,q1⟩=>LG ?_)))
 exact⟨_,H1,I1,q1⟩
theorem vI(hc:X.calm=true)(hcell:∀ x∈scope.names,x.2 ≠ .cell)(hkind:scope.kind = .function)(hnames:∀ x∈scope.names,x.2 = .local→scope.names.lookup x.1=some .local)
  (hfr:∀ x∈scope.names,x.2 = .free→x.1∈cps) (hN:caps.map (fun i=>X.N[i]?)=cps.map some) (hX:∀ x∈cps,X.env.scope.names.lookup x=some .cell∧scope.names.lookup x=some .free)
  (hsc:∀ x∈cps,(relabel scope X.env).names.lookup x=some .cell∨(relabel scope X.env).names.lookup x=some .free)
  (hi:PI X tg iter wi) (hg:∀ cl s3 H3 C fp pins,PG (cxF X scope cl (tgs++cps) s3 H3 C fp pins) tg g) (hq:∀ cl s3 H3 C fp pins,bH (cxF X scope cl (tgs++cps) s3 H3 C fp pins) ifs tc) (he:∀ cl s3 H3 C fp pins,PE (cxF X scope cl (tgs++cps) s3 H3 C fp pins) elt te)
  {i:Nat} {x:Str} {pos':Pos} (hNd:X.N.Nodup) (hxi:X.N[i]? = some x) (hx:Loc X.env.scope x) (hf:X.fn x=true∨X.env.scope.names.lookup x=some .local)
  (hs:∀ x,foldedSetIterable iter X.env x=pure x:=by intro _;rfl):PU X i x pos' (.ListComp elt [⟨tg,iter,ifs,0⟩] scope pos) (nE tgs.length caps wi g tc te):=by
 intro pins s σ H Q I h
 refine Lp (thn (ij (use:=some (assign (.Name x pos') X.env)) (Qf:=fun _ s'=>∃ v H',Inv X pins (σ.set i (some v)) H' s'∧Q v H') hc hcell hkind hnames hfr hN hX hsc hi hg hq he hs I h fun D C s' H4 m4 hn4 fC hI q4=>?_) fun _ s1 z=>LG z)
 have I4:Inv X pins σ H4 s':=hI s'.heap (Heap.SameBut.refl _ _)
 show wpAny _ _ (assign (.Name x pos') X.env (.ref D)) _ _ s'
 refine wpAny_assign_Name (gM (v:=.ref D) I4 hNd hxi hx rfl (fun s2 I2 ⟨a,hsb,ha⟩=>?_) hf)
 have hac:C≠a:=by
  rcases ha with ha|ha
  ·rw[ha];exact fC.2.1
  ·exact Ne.symm (fC.2.2.2.2.1 x a ha)
 refine⟨m4,hn4.sameBut hsb hac,fun h' hs'=>⟨.ref D,H4,?_,q4⟩⟩
 exact I2.turned (t':=s2.toks) (fun b o hb e=>hs'.extBut b o hb e) fC.1 fC.2.1 fC.2.2.2.1 fC.2.2.2.2.1 fC.2.2.2.2.2
end
end L2
namespace L2
open PySem
noncomputable def SI:Bool→Heap→Addr→Addr→Nat→Prop
 | true,h,it,a,i=>h.IsListIter it a i
 | false,h,it,a,i=>h.IsTupleIter it a i
noncomputable def SS:Bool→Heap→Addr→Array Value→Prop
 | true,h,a,xs=>h.IsList a xs
 | false,h,a,xs=>h.IsTuple a xs
theorem SI.at{k:Bool}{h h':Heap}{it a:Addr}{i:Nat}(x:SI k h it a i)(f:∀ o,h.get? it=some o→h'.get? it=some o):SI k h' it a i:=by
 cases k<;>(obtain⟨o,e,r⟩:=x;exact⟨o,f o e,r⟩)
theorem SS.at{k:Bool}{h h':Heap}{a:Addr}{xs:Array Value}(x:SS k h a xs)(f:∀ o,h.get? a=some o→h'.get? a=some o):SS k h' a xs:=by
 cases k<;>(obtain⟨o,e,r⟩:=x;exact⟨o,f o e,r⟩)
theorem SI.obj{k:Bool}{h:Heap}{it a:Addr}{i:Nat}(x:SI k h it a i):∃ o,h.get? it=some o∧∀ v,o.data ≠ .cell v:=by
 cases k<;>(obtain⟨o,e,c,d⟩:=x;exact⟨o,e,fun v z=>by rw[d]at z;cases z⟩)
theorem SS.obj{k:Bool}{h:Heap}{a:Addr}{xs:Array Value}(x:SS k h a xs):∃ o,h.get? a=some o:=by
 cases k<;>(obtain⟨o,e,_⟩:=x;exact⟨o,e⟩)
section
variable {prog:Program} {w:World} {A:Around} {E:Value→Shared→Prop} {s:Shared}
theorem rL{p t:Addr}{n:Nat}{xs:Array Value}{v:Value}{Q:Value→Shared→Prop}(hp:s.heap.IsTupleIter p t n)(ht:s.heap.IsTuple t xs)(hv:xs[n]? = some v)
  (q:∀ h',h'.IsTupleIter p t (n+1)→Heap.SameBut p s.heap h'→Q v { s with heap:=h' }):wpAny (model prog w) A (Builtin.SmallTypes.nextOf (.ref p)) Q E s:=by
 obtain⟨ob,e1,e2,e3⟩:=id hp
 obtain⟨ot,f1,_,cap,f2⟩:=ht
 unfold Builtin.SmallTypes.nextOf
 refine Lp (wpAny_callSpecial?_slot (name:=Str.ofString "__next__") hp.typeIs F.slot_tuple_iterator_next (wpAny_call_entry F.slot_tuple_iterator_next hp.typeIs F.entry_tuple_iterator_next ?_ (F.args_tuple_iterator_next_1 _)))
 show wpAny _ _ (field (.ref p) 0 >>= _) _ _ s
 refine Lp (wpAny_field e1 e3 (x:=.ref t) rfl ?_)
 show wpAny _ _ (if (Value.ref t == Value.none)=true then _ else _) _ _ s
 rw[if_neg (fun z:(Value.ref t == Value.none)=true=>nomatch z)]
 show wpAny _ _ (field (.ref p) 1 >>= _) _ _ s
 refine Lp (wpAny_field e1 e3 (x:=.int n 0) rfl ?_)
 show wpAny _ _ (seqItems? (.ref t) >>= _) _ _ s
 refine Lp (wpAny_seqItems f1 f2 ?_)
 simp only[Nk,hv]
 refine Lp (wpAny_setField e1 e3 (by simp) (LG ⟨v,rfl,LG (q _ ⟨_,OM _ e1 (Obj.isFreed_of_fields (Obj.data_mapFields e3 _)),(Obj.cls_mapFields ..).trans e2,?_⟩ (Heap.SameBut.update ..))⟩))
 rw[Obj.data_mapFields e3];simp[rawInt]
theorem uN{p t:Addr}{n:Nat}{xs:Array Value}{Q:Value→Shared→Prop}(hA:A.handled=none)(hp:s.heap.IsTupleIter p t n)(ht:s.heap.IsTuple t xs)(hv:xs[n]? = none)
  (q:∀ h' e,Heap.ExtBut p s.heap h'→(∃ o,h'.get? e=some o∧o.cls = .type "StopIteration")→E (.ref e) { s with heap:=h' }):wpAny (model prog w) A (Builtin.SmallTypes.nextOf (.ref p)) Q E s:=by
 obtain⟨ob,e1,e2,e3⟩:=id hp
 obtain⟨ot,f1,_,cap,f2⟩:=ht
 unfold Builtin.SmallTypes.nextOf
 refine Lp (wpAny_callSpecial?_slot (name:=Str.ofString "__next__") hp.typeIs F.slot_tuple_iterator_next (wpAny_call_entry F.slot_tuple_iterator_next hp.typeIs F.entry_tuple_iterator_next ?_ (F.args_tuple_iterator_next_1 _)))
 show wpAny _ _ (field (.ref p) 0 >>= _) _ _ s
 refine Lp (wpAny_field e1 e3 (x:=.ref t) rfl ?_)
 show wpAny _ _ (if (Value.ref t == Value.none)=true then _ else _) _ _ s
 rw[if_neg (fun z:(Value.ref t == Value.none)=true=>nomatch z)]
 show wpAny _ _ (field (.ref p) 1 >>= _) _ _ s
 refine Lp (wpAny_field e1 e3 (x:=.int n 0) rfl ?_)
 show wpAny _ _ (seqItems? (.ref t) >>= _) _ _ s
 refine Lp (wpAny_seqItems f1 f2 ?_)
 simp only[Nk,hv]
 refine Lp (wpAny_rule (Lp (wpAny_setField e1 e3 (by simp) ?_)))
 show wpAny _ _ (newExc (.type "StopIteration") [] >>= _) _ _ _
 refine Lp ?_;simp only[newExc,newTuple]
 refine Lp (wpAny_newObj_type ?_ (by size_fits));refine Lp (m:=firstArgMember _ _) (wpAny_of_eq (a:=Value.none) (by first|rfl|(simp only[firstArgMember];rfl)) ?_)
 refine wpAny_newObj_type ?_ (by size_fits);simp only[raiseNew];refine Lp (wpAny_handled ?_)
 first|rw[show A.in1.handled=none from hA]|rw[hA]
 refine Lp (LG (wpAny_throw (q _ _ (((Heap.SameBut.update ..).extBut.push _).push _) ⟨_,LL _ rfl,rfl⟩)))
theorem cD{k:Bool}{p a:Addr}{n:Nat}{xs:Array Value}{v:Value}{Q:Value→Shared→Prop}(hp:SI k s.heap p a n)(ha:SS k s.heap a xs)(hv:xs[n]? = some v)
  (q:∀ h',SI k h' p a (n+1)→Heap.SameBut p s.heap h'→Q v { s with heap:=h' }):wpAny (model prog w) A (Builtin.SmallTypes.nextOf (.ref p)) Q E s:=by
 cases k with
 | true=>exact wpAny_nextOf_list_item hp ha hv q
 | false=>exact rL hp ha hv q
theorem nI{k:Bool}{p a:Addr}{n:Nat}{xs:Array Value}{Q:Value→Shared→Prop}(hA:A.handled=none)(hp:SI k s.heap p a n)(ha:SS k s.heap a xs)(hv:xs[n]? = none)
  (q:∀ h' e,Heap.ExtBut p s.heap h'→(∃ o,h'.get? e=some o∧o.cls = .type "StopIteration")→E (.ref e) { s with heap:=h' }):wpAny (model prog w) A (Builtin.SmallTypes.nextOf (.ref p)) Q E s:=by
 cases k with
 | true=>exact wpAny_nextOf_list_end hA hp ha hv q
 | false=>exact uN hA hp ha hv q
theorem SI.but{k:Bool}{h h':Heap}{it a b:Addr}{i:Nat}(x:SI k h it a i)(e:Heap.ExtBut b h h')(n:it≠b):SI k h' it a i:=x.at fun o z=>e it o n z
theorem SS.but{k:Bool}{h h':Heap}{a b:Addr}{xs:Array Value}(x:SS k h a xs)(e:Heap.ExtBut b h h')(n:a≠b):SS k h' a xs:=x.at fun o z=>e a o n z
theorem xQ{z TI TO p1 p2 l1 l2:Addr}{c1 c2:Bool}{n1 n2:Nat}{xs ys:Array Value}{v1 v2 u1 u2:Value}{Q:Option Value→Shared→Prop}(D:ZipApart z TI TO p1 p2 l1 l2)
  (iz:IsZip s.heap z TI TO .none) (iI:IsPair s.heap TI (.ref p1) (.ref p2)) (iO:IsPair s.heap TO u1 u2) (g1:SI c1 s.heap p1 l1 n1) (g2:SI c2 s.heap p2 l2 n2) (m1:SS c1 s.heap l1 xs) (m2:SS c2 s.heap l2 ys) (w1:xs[n1]? = some v1) (w2:ys[n2]? = some v2)
  (q:∀ h',IsZip h' z TI TO (rawInt s.heap.objs.size)→IsPair h' TO v1 v2→SI c1 h' p1 l1 (n1+1)→SI c2 h' p2 l2 (n2+1)→IsPair h' s.heap.objs.size v1 v2→h'.objs.size=s.heap.objs.size+1 →
   (∀ b o,b≠z→b≠TO→b≠p1→b≠p2→s.heap.get? b=some o→h'.get? b=some o)→Q (some (.ref s.heap.objs.size)) { s with heap:=h' }):wpAny (model prog w) A (pyNext (.ref z)) Q E s:=by
 have ty:s.TypeIs (.ref z) "zip" := ⟨_,iz,rfl⟩
 unfold pyNext
 refine Lp (wpAny_attempt (wpAny_callSpecial?_slot (name:=Str.ofString "__next__") ty F.slot_zip_next (wpAny_call_entry F.slot_zip_next ty F.entry_zip_next ?_ (F.args_zip_next_1 _))))
 show wpAny _ _ (field (.ref z) 2 >>= _) _ _ _
 refine Lp (wpAny_field iz rfl (x:=.bool false) rfl ?_)
 show wpAny _ _ (field (.ref z) 3 >>= _) _ _ _
 refine Lp (wpAny_field iz rfl (x:=.ref TI) rfl (Lp (wpAny_seqItems iI rfl ?_)))
 show wpAny _ _ (Builtin.SmallTypes.ownedTupleIsFree (.ref z) >>= _) _ _ _
 refine Lp ?_;unfold Builtin.SmallTypes.ownedTupleIsFree
 refine Lp (wpAny_field iz rfl (x:=.none) rfl (LG ?_));simp only[if_true]
 refine Lp (wpAny_rule (Lp (wpAny_field iz rfl (x:=.ref TO) rfl (Lp (wpAny_setField_rec iz (by simp) fun ha za sa=>?_)))))
 replace za:IsZip ha z TI TO .ellipsis:=za
 refine Lp ?_;simp only[Nq,Qc,OO,Qo]
 refine Lp (Lp (wpAny_onRaise ?_))
 show wpAny _ _ (Builtin.SmallTypes.nextOf (.ref p1) >>= _) _ _ _
 refine Lp (cD (g1.but sa.extBut D.i1z) (m1.but sa.extBut D.l1z) w1 fun hb gb sb=>LG ?_)
 have oB:IsPair hb TO u1 u2:=sb.extBut _ _ D.TOi1 (sa.extBut _ _ D.TOz iO)
 refine Lp (wpAny_seqItems oB rfl (Lp (wpAny_updateSeq_pair oB fun hc oC sc=>?_)))
 replace oC:IsPair hc TO v1 u2:=oC
 refine Lp (wpAny_letGo (LG (Lp (Lp (wpAny_onRaise ?_)))))
 show wpAny _ _ (Builtin.SmallTypes.nextOf (.ref p2) >>= _) _ _ _
 refine Lp (cD (((g2.but sa.extBut D.i2z).but sb.extBut D.i12.symm).but sc.extBut D.TOi2.symm) (((m2.but sa.extBut D.l2z).but sb.extBut D.l2i1).but sc.extBut D.l2TO) w2 fun hd gd sd=>LG ?_)
 have oD:IsPair hd TO v1 u2:=sd.extBut _ _ D.TOi2 oC
 refine Lp (wpAny_seqItems oD rfl (Lp (wpAny_updateSeq_pair oD fun he oE se=>?_)))
 replace oE:IsPair he TO v1 v2:=oE
 refine Lp (wpAny_letGo (LG (LG (Lp (wpAny_seqItems oE rfl (Lp (wpAny_newTuple ?_)))))))
 have zs:he.objs.size=s.heap.objs.size:=by rw[se.1,sd.1,sc.1,sb.1,sa.1]
 have zE:IsZip he z TI TO .ellipsis:=se.extBut _ _ D.TOz.symm (sd.extBut _ _ D.i2z.symm (sc.extBut _ _ D.TOz.symm (sb.extBut _ _ D.i1z.symm za)))
 have kE:∀ b o,b≠z→b≠TO→b≠p1→b≠p2→s.heap.get? b=some o→he.get? b=some o:=fun b o b1 b2 b3 b4 e=>se.extBut _ _ b2 (sd.extBut _ _ b4 (sc.extBut _ _ b2 (sb.extBut _ _ b3 (sa.extBut _ _ b1 e))))
 have gE1:SI c1 he p1 l1 (n1+1):=((gb.but sc.extBut D.TOi1.symm).but sd.extBut D.i12).but se.extBut D.TOi1.symm
 have gE2:SI c2 he p2 l2 (n2+1):=gd.but se.extBut D.TOi2.symm
 have ltz:z<he.objs.size:=LD zE
 show wpAny _ _ (Builtin.SmallTypes.ownedTupleHandOut (.ref z) (.ref he.objs.size) >>= _) _ _ _
 refine Lp ?_;unfold Builtin.SmallTypes.ownedTupleHandOut
 refine Lp (wpAny_setField_rec (Lq _ zE) (by simp) fun hf zf sf=>?_)
 replace zf:IsZip hf z TI TO (rawInt he.objs.size):=zf
 refine wpAny_setField_rec zf (by simp) fun hg zg sg=>?_
 replace zg:IsZip hg z TI TO (rawInt he.objs.size):=zg
 have lift:∀ b o,b≠z→he.get? b=some o→hg.get? b=some o:=fun b o b1 e=>sg.extBut _ _ b1 (sf.extBut _ _ b1 (Lq _ e))
 have tG:IsPair hg he.objs.size v1 v2:=sg.extBut _ _ (MF ltz) (sf.extBut _ _ (MF ltz) (LL _ rfl))
 have zz:hg.objs.size=he.objs.size+1:=by rw[sg.1,sf.1,MA]
 rw[zs]at zg tG zz
 refine LG ⟨_,rfl,LG ?_⟩
 show Q (some (.ref he.objs.size)) _
 rw[zs]
 exact q hg zg (lift _ _ D.TOz oE) (gE1.at fun o e=>lift _ o D.i1z e) (gE2.at fun o e=>lift _ o D.i2z e) tG zz fun b o b1 b2 b3 b4 e=>lift b o b1 (kE b o b1 b2 b3 b4 e)
theorem Cu{z TI TO p1 p2 l1 l2:Addr}{c1 c2:Bool}{n1 n2:Nat}{xs ys:Array Value}{u1 u2:Value}{Q:Option Value→Shared→Prop}(hA:A.handled=none)(D:ZipApart z TI TO p1 p2 l1 l2)
  (iz:IsZip s.heap z TI TO .none) (iI:IsPair s.heap TI (.ref p1) (.ref p2)) (iO:IsPair s.heap TO u1 u2) (g1:SI c1 s.heap p1 l1 n1) (g2:SI c2 s.heap p2 l2 n2) (m1:SS c1 s.heap l1 xs) (m2:SS c2 s.heap l2 ys) (fin:xs[n1]? = none∨ys[n2]? = none)
  (q:∀ h',(∀ b o,b≠z→b≠TO→b≠p1→b≠p2→s.heap.get? b=some o→h'.get? b=some o)→Q none { s with heap:=h' }):wpAny (model prog w) A (pyNext (.ref z)) Q E s:=by
 have ty:s.TypeIs (.ref z) "zip" := ⟨_,iz,rfl⟩
 unfold pyNext
 have out:∀(h':Heap) (e:Addr),(∀ b o,b≠z→b≠TO→b≠p1→b≠p2→s.heap.get? b=some o→h'.get? b=some o)→(∃ o,h'.get? e=some o∧o.cls = .type "StopIteration") →
   wpAny (model prog w) A (do if ← isInstance (.ref e) (.type "StopIteration")then pure none else throw (.ref e):Sem (Option Value)) Q E { s with heap:=h' }:=fun h' e k ⟨o,e1,e2⟩ =>
  Lp (wpAny_isInstance (T := "StopIteration") (b:=true) ⟨o,e1,e2⟩ isSubtype_stop (LG (q h' k)))
 refine Lp (wpAny_attempt (wpAny_callSpecial?_slot (name:=Str.ofString "__next__") ty F.slot_zip_next (wpAny_call_entry F.slot_zip_next ty F.entry_zip_next ?_ (F.args_zip_next_1 _))))
 show wpAny _ _ (field (.ref z) 2 >>= _) _ _ _
 refine Lp (wpAny_field iz rfl (x:=.bool false) rfl ?_)
 show wpAny _ _ (field (.ref z) 3 >>= _) _ _ _
 refine Lp (wpAny_field iz rfl (x:=.ref TI) rfl (Lp (wpAny_seqItems iI rfl ?_)))
 show wpAny _ _ (Builtin.SmallTypes.ownedTupleIsFree (.ref z) >>= _) _ _ _
 refine Lp ?_;unfold Builtin.SmallTypes.ownedTupleIsFree
 refine Lp (wpAny_field iz rfl (x:=.none) rfl (LG ?_));simp only[if_true]
 refine Lp (wpAny_rule (Lp (wpAny_field iz rfl (x:=.ref TO) rfl (Lp (wpAny_setField_rec iz (by simp) fun ha za sa=>?_)))))
 replace za:IsZip ha z TI TO .ellipsis:=za
 refine Lp ?_;simp only[Nq,Qc,OO,Qo]
 refine Lp (Lp (wpAny_onRaise ?_))
 show wpAny _ _ (Builtin.SmallTypes.nextOf (.ref p1) >>= _) _ _ _
 cases w1:xs[n1]? with
 | none =>
  refine Lp (nI hA (g1.but sa.extBut D.i1z) (m1.but sa.extBut D.l1z) w1 fun hb e sb zz=>?_)
  obtain⟨oe,oe1,oe2⟩:=zz
  have zb:IsZip hb z TI TO .ellipsis:=sb _ _ D.i1z.symm za
  have nz:e≠z:=fun y=>by subst y;rw[zb]at oe1;cases oe1;simp at oe2
  refine wpAny_setField_rec zb (by simp) fun hc _ sc=>out hc e (fun b o b1 _ b3 _ y=>sc.extBut _ _ b1 (sb _ _ b3 (sa.extBut _ _ b1 y))) ⟨oe,sc.extBut _ _ nz oe1,oe2⟩
 | some v1 =>
  have w2:ys[n2]? = none:=fin.resolve_left (by rw[w1];exact fun y=>nomatch y)
  refine Lp (cD (g1.but sa.extBut D.i1z) (m1.but sa.extBut D.l1z) w1 fun hb gb sb=>LG ?_)
  have oB:IsPair hb TO u1 u2:=sb.extBut _ _ D.TOi1 (sa.extBut _ _ D.TOz iO)
  refine Lp (wpAny_seqItems oB rfl (Lp (wpAny_updateSeq_pair oB fun hc oC sc=>?_)))
  refine Lp (wpAny_letGo (LG (Lp (Lp (wpAny_onRaise ?_)))))
  show wpAny _ _ (Builtin.SmallTypes.nextOf (.ref p2) >>= _) _ _ _
  refine Lp (nI hA (((g2.but sa.extBut D.i2z).but sb.extBut D.i12.symm).but sc.extBut D.TOi2.symm) (((m2.but sa.extBut D.l2z).but sb.extBut D.l2i1).but sc.extBut D.l2TO) w2 fun hd e sd zz=>?_)
  obtain⟨oe,oe1,oe2⟩:=zz
  have zd:IsZip hd z TI TO .ellipsis:=sd _ _ D.i2z.symm (sc.extBut _ _ D.TOz.symm (sb.extBut _ _ D.i1z.symm za))
  have nz:e≠z:=fun y=>by subst y;rw[zd]at oe1;cases oe1;simp at oe2
  refine wpAny_setField_rec zd (by simp) fun he _ se=>out he e (fun b o b1 b2 b3 b4 y=>se.extBut _ _ b1 (sd _ _ b4 (sc.extBut _ _ b2 (sb.extBut _ _ b3 (sa.extBut _ _ b1 y))))) ⟨oe,se.extBut _ _ nz oe1,oe2⟩
end
noncomputable abbrev itO(k:Bool)(a:Addr):Obj:={ cls:=.type (if k then "list_iterator" else "tuple_iterator"),data:=.fields #[.ref a,.int 0 0] }
noncomputable abbrev zA(k1:Bool)(h:Heap)(l1:Addr):Heap:=h.push (itO k1 l1)
noncomputable abbrev zB(k1 k2:Bool)(h:Heap)(l1 l2:Addr):Heap:=(zA k1 h l1).push (itO k2 l2)
noncomputable abbrev zC(k1 k2:Bool)(h:Heap)(l1 l2:Addr):Heap:=(zB k1 k2 h l1 l2).push { cls:=.type "tuple",data:=.seq #[.ref h.objs.size,.ref (zA k1 h l1).objs.size] }
noncomputable abbrev zD(k1 k2:Bool)(h:Heap)(l1 l2:Addr):Heap:=(zC k1 k2 h l1 l2).push { cls:=.type "tuple",data:=.seq #[.none,.none] }
noncomputable abbrev zE(k1 k2:Bool)(h:Heap)(l1 l2:Addr):Heap:=(zD k1 k2 h l1 l2).push { cls:=.type "zip",data:=.fields #[.none,.bool false,.bool false,.ref (zB k1 k2 h l1 l2).objs.size,.ref (zC k1 k2 h l1 l2).objs.size] }
set_option maxHeartbeats 2000000 in
theorem Ct(k1 k2:Bool)(l1 l2:Addr)(xs ys:Array Value) :
  Meets (Builtin.«zip.__new__» ⟨[.type "zip",.ref l1,.ref l2],[]⟩) (fun _ R s=>SS k1 s.heap l1 xs∧SS k2 s.heap l2 ys∧R (.ok (.ret (.ref (zD k1 k2 s.heap l1 l2).objs.size))) { s with heap:=zE k1 k2 s.heap l1 l2 }) :=
 .of_wp fun prog w A R s h=>by
  obtain⟨hp,g,d,tk,os⟩:=s
  obtain⟨ha,hb,h⟩:=h
  have hsub:=sub_zip
  cases k1 with
  | true =>
   have a1:Heap.IsList (Shared.heap ⟨hp,g,d,tk,os⟩) l1 xs:=ha
   cases k2 with
   | true =>
    have a2:Heap.IsList (Shared.heap ⟨hp.push { cls:=.type "list_iterator",data:=.fields #[.ref l1,.int 0 0] },g,d,tk,os⟩) l2 ys:=Heap.IsList.push hb _
    wp_walk using wpAny_pyIter_list a1,wpAny_pyIter_list a2
    exact⟨_,rfl,h⟩
   | false =>
    have a2:Heap.IsTuple (Shared.heap ⟨hp.push { cls:=.type "list_iterator",data:=.fields #[.ref l1,.int 0 0] },g,d,tk,os⟩) l2 ys:=Heap.IsTuple.push hb _
    wp_walk using wpAny_pyIter_list a1,wpAny_pyIter_tuple a2
    exact⟨_,rfl,h⟩
  | false =>
   have a1:Heap.IsTuple (Shared.heap ⟨hp,g,d,tk,os⟩) l1 xs:=ha
   cases k2 with
   | true =>
    have a2:Heap.IsList (Shared.heap ⟨hp.push { cls:=.type "tuple_iterator",data:=.fields #[.ref l1,.int 0 0] },g,d,tk,os⟩) l2 ys:=Heap.IsList.push hb _
    wp_walk using wpAny_pyIter_tuple a1,wpAny_pyIter_list a2
    exact⟨_,rfl,h⟩
   | false =>
    have a2:Heap.IsTuple (Shared.heap ⟨hp.push { cls:=.type "tuple_iterator",data:=.fields #[.ref l1,.int 0 0] },g,d,tk,os⟩) l2 ys:=Heap.IsTuple.push hb _
    wp_walk using wpAny_pyIter_tuple a1,wpAny_pyIter_tuple a2
    exact⟨_,rfl,h⟩
section
variable {prog:Program} {w:World} {A:Around} {E:Value→Shared→Prop} {s:Shared}
theorem Au{k1 k2:Bool}{l1 l2:Addr}{xs ys:Array Value}{Q:Value→Shared→Prop}(ha:SS k1 s.heap l1 xs)(hb:SS k2 s.heap l2 ys)
  (q:∀ h',IsZip h' (s.heap.objs.size+4) (s.heap.objs.size+2) (s.heap.objs.size+3) .none→IsPair h' (s.heap.objs.size+2) (.ref s.heap.objs.size) (.ref (s.heap.objs.size+1))→IsPair h' (s.heap.objs.size+3) .none .none →
   SI k1 h' s.heap.objs.size l1 0→SI k2 h' (s.heap.objs.size+1) l2 0→h'.objs.size=s.heap.objs.size+5→(∀ b o,s.heap.get? b=some o→h'.get? b=some o)→Q (.ref (s.heap.objs.size+4)) { s with heap:=h' }) :
  wpAny (model prog w) A (call (.type "zip") [.ref l1,.ref l2]) Q E s:=by
 refine callType_new F.called_zip (by decide) (F.typeCall_zip_2 _ _) (F.newCall_zip_2 _ _) (fun obj=>F.args_object_init_3 obj _ _) F.entry_zip_new (Ct k1 k2 l1 l2 xs ys) ⟨ha,hb,?_⟩
 have s1:(zA k1 s.heap l1).objs.size=s.heap.objs.size+1:=MA ..
 have s2:(zB k1 k2 s.heap l1 l2).objs.size=s.heap.objs.size+2:=(MA ..).trans (by rw[s1])
 have s3:(zC k1 k2 s.heap l1 l2).objs.size=s.heap.objs.size+3:=(MA ..).trans (by rw[s2])
 have s4:(zD k1 k2 s.heap l1 l2).objs.size=s.heap.objs.size+4:=(MA ..).trans (by rw[s3])
 have s5:(zE k1 k2 s.heap l1 l2).objs.size=s.heap.objs.size+5:=(MA ..).trans (by rw[s4])
 have o5:(zE k1 k2 s.heap l1 l2).get? (zD k1 k2 s.heap l1 l2).objs.size=some _:=LL _ rfl
 have up1:∀ b o,(zD k1 k2 s.heap l1 l2).get? b=some o→(zE k1 k2 s.heap l1 l2).get? b=some o:=fun b o e=>Lq _ e
 have o4:(zE k1 k2 s.heap l1 l2).get? (zC k1 k2 s.heap l1 l2).objs.size=some _:=up1 _ _ (LL _ rfl)
 have up2:∀ b o,(zC k1 k2 s.heap l1 l2).get? b=some o→(zE k1 k2 s.heap l1 l2).get? b=some o:=fun b o e=>up1 b o (Lq _ e)
 have o3:(zE k1 k2 s.heap l1 l2).get? (zB k1 k2 s.heap l1 l2).objs.size=some _:=up2 _ _ (LL _ rfl)
 have up3:∀ b o,(zB k1 k2 s.heap l1 l2).get? b=some o→(zE k1 k2 s.heap l1 l2).get? b=some o:=fun b o e=>up2 b o (Lq _ e)
 have o2:(zE k1 k2 s.heap l1 l2).get? (zA k1 s.heap l1).objs.size=some (itO k2 l2):=up3 _ _ (LL _ rfl)
 have up4:∀ b o,(zA k1 s.heap l1).get? b=some o→(zE k1 k2 s.heap l1 l2).get? b=some o:=fun b o e=>up3 b o (Lq _ e)
 have o1:(zE k1 k2 s.heap l1 l2).get? s.heap.objs.size=some (itO k1 l1):=up4 _ _ (LL _ rfl)
 have mk:∀(k:Bool) (b a:Addr),(zE k1 k2 s.heap l1 l2).get? b=some (itO k a)→SI k (zE k1 k2 s.heap l1 l2) b a 0:=fun k b a e=>by cases k<;>exact⟨_,e,rfl,rfl⟩
 show _∧_
 rw[s2,s3,s4]at o5
 rw[s1,s2]at o3
 rw[s3]at o4
 rw[s1]at o2
 rw[s4]
 exact⟨⟨_,o5,rfl⟩,q _ o5 o3 o4 (mk _ _ _ o1) (mk _ _ _ o2) s5 fun b o e=>up4 b o (Lq _ e)⟩
end
end L2
namespace L2
open PySem PySem.Spec PyProof.Rows
section
variable {X:Cx} {pins:List (Addr × Obj)} {σ:St} {H:Hp} {s:Shared} {h':Heap}
theorem Inv.turnedN{t':Nat}{ch:List Addr}(I:Inv X pins σ H s)(k:∀ b o,b∉ch→s.heap.get? b=some o→h'.get? b=some o)(hf:∀ b∈ch,ag X pins H b):Inv X pins σ H { s with heap:=h',toks:=t' }:=by
 have nit:∀ b u,H b=some u→b∉ch:=fun b u e z=>by rw[(hf b z).1]at e;cases e
 refine I.step (g':=s.gens) (d':=s.drawn) (ch:=ch) (fun b hb=>?_) (fun b o _ _ hc e _=>k b o hc e) (fun b o _ _ hc e _=>⟨o.slots,k b o hc e⟩) (fun _ _ _ _ n=>n)
  (fun b o hc e=>⟨o,k b o hc e⟩) (fun _ _ e=>e) (fun _ _ _ e=>e) (fun b ps e=>⟨#[],by rw[e];simp⟩) (fun m hm=>?_) (fun b u e=>?_) I.bare
 ·obtain⟨_,q1,_,q3,q4,q5⟩:=hf b hb
  exact⟨q3,q1,q4,q5⟩
 ·obtain⟨o,es,ep,ho,r⟩:=hm
  exact⟨o,es,ep,k _ o (fun z=>(hf _ z).2.1 rfl) ho,r⟩
 ·refine(I.hok b u e).stay (fun c v hc q=>k c v ?_ q) (fun _ q=>q) fun _ _ q=>q
  rcases hc with z|z
  ·rw[z];exact nit b u e
  ·exact nit c _ z
end
def SqK(K:Lo)(k:Bool)(H:Hp)(a:Addr)(xs:List V):Prop:=if k=true then SqL K H a xs else SqT K H a xs
theorem Inv.sqk{X:Cx}{pins:List (Addr × Obj)}{σ:St}{H:Hp}{s:Shared}(I:Inv X pins σ H s){k:Bool}{a:Addr}{xs:List V}(h:SqK X.K k H a xs):∃ its:List Value,i7 xs its∧SS k s.heap a its.toArray:=by
 cases k with
 | true =>
  obtain⟨its,r,p,_⟩:=I.list (show SqL X.K H a xs from h)
  exact⟨its,r,p.isList⟩
 | false =>
  obtain⟨its,r,p,_⟩:=I.tuple (show SqT X.K H a xs from h)
  exact⟨its,r,p⟩
theorem Inv.sqk_inj{X:Cx}{pins:List (Addr × Obj)}{σ:St}{H:Hp}{s:Shared}(I:Inv X pins σ H s){k:Bool}{a:Addr}{xs ys:List V}(h:SqK X.K k H a xs)(h2:SqK X.K k H a ys):xs=ys:=by
 cases k with
 | true=>exact I.list_inj (show SqL X.K H a xs from h) (show SqL X.K H a ys from h2)
 | false=>exact I.tuple_inj (show SqT X.K H a xs from h) (show SqT X.K H a ys from h2)
noncomputable def Itz(K:Lo)(k1 k2:Bool)(l1 l2:Addr):It :=
 ⟨fun i H=>∃ xs ys x y,SqK K k1 H l1 xs∧SqK K k2 H l2 ys∧xs[i]? = some x∧ys[i]? = some y,
  fun i H v H'=>∃ T x y,H T=none∧v = .ref T∧H'=upd H T (.tup [x,y])∧(∀ xs,SqK K k1 H l1 xs→xs[i]? = some x)∧∀ ys,SqK K k2 H l2 ys→ys[i]? = some y,
  fun i H=>∃ xs ys,SqK K k1 H l1 xs∧SqK K k2 H l2 ys∧(xs.length≤i∨ys.length≤i)⟩
def Hn(k1 k2:Bool)(z TI TO p1 p2 l1 l2:Addr)(i:Nat)(h:Heap):Prop:=IsZip h z TI TO .none∧IsPair h TI (.ref p1) (.ref p2)∧(∃ a b,IsPair h TO a b)∧SI k1 h p1 l1 i∧SI k2 h p2 l2 i
theorem uM{P:Program}{w:World}{K:Lo}{elts:List Expr}{kx:Nat}{tp:Pos}{k1 k2:Bool}{z TI TO p1 p2 l1 l2:Addr}(D:ZipApart z TI TO p1 p2 l1 l2) :
  oQ P w K (.Tuple elts kx tp) (Itz K k1 k2 l1 l2) [z,TI,TO,p1,p2] z (Hn k1 k2 z TI TO p1 p2 l1 l2) where
 mem:=by simp
 obj:=fun i h ⟨iz,iI,⟨a,b,iO⟩,g1,g2⟩ c hc=>by
  simp only[Lz,LU,or_false]at hc
  rcases hc with rfl|rfl|rfl|rfl|rfl
  ·exact⟨_,iz,fun v e=>by cases e⟩
  ·exact⟨_,iI,fun v e=>by cases e⟩
  ·exact⟨_,iO,fun v e=>by cases e⟩
  ·exact g1.obj
  ·exact g2.obj
 keep:=fun i h h' ⟨iz,iI,⟨a,b,iO⟩,g1,g2⟩ k=>⟨k z (by simp) _ iz,k TI (by simp) _ iI,⟨a,b,k TO (by simp) _ iO⟩,g1.at fun o e=>k p1 (by simp) o e,g2.at fun o e=>k p2 (by simp) o e⟩
 item:=by
  intro X hP hw hK hc i pins s σ H E I hf st hg
  subst hP hw hK
  obtain⟨iz,iI,⟨a,b,iO⟩,g1,g2⟩:=st
  obtain⟨xs,ys,x,y,q1,q2,hx,hy⟩:=hg
  obtain⟨is1,r1,m1⟩:=I.sqk q1
  obtain⟨is2,r2,m2⟩:=I.sqk q2
  obtain⟨u1,hu1,ru1⟩:=r1.get hx
  obtain⟨u2,hu2,ru2⟩:=r2.get hy
  refine xQ D iz iI iO g1 g2 m1 m2 (v1:=u1) (v2:=u2) (by simpa using hu1) (by simpa using hu2) fun h' a1 a2 a3 a4 a5 a6 kk=>?_
  refine⟨_,rfl,?_⟩
  refine wpAny_letOwnedTupleGo_zip (s:={ s with heap:=h' }) a1 fun h2 b1 b2=>?_
  have lt:∀{c o},s.heap.get? c=some o→c≠s.heap.objs.size:=fun e=>Md (LD e)
  have nz:s.heap.objs.size≠z:=Ne.symm (lt iz)
  have I1:Inv X pins σ (upd H s.heap.objs.size (.tup [x,y])) { s with heap:=s.heap.push { cls:=.type "tuple",data:=.seq #[u1,u2] },toks:=s.toks } :=
   I.laid (o:=.tup [x,y]) (fun b ob q=>Lq _ q) (LM _) ⟨(show 2≤sizeLine by decide),[u1,u2],.cons ru1 (.cons ru2 .nil),IsTup.new _ _⟩
  have nfp:∀ c∈[z,TI,TO,p1,p2],c≠s.heap.objs.size:=fun c hc=>by
   simp only[Lz,LU,or_false]at hc
   rcases hc with rfl|rfl|rfl|rfl|rfl
   ·exact lt iz
   ·exact lt iI
   ·exact lt iO
   ·obtain⟨o,e,_⟩:=g1.obj;exact lt e
   ·obtain⟨o,e,_⟩:=g2.obj;exact lt e
  have hf':∀ c∈[z,TI,TO,p1,p2],ag X pins (upd H s.heap.objs.size (.tup [x,y])) c:=fun c hc=>by
   obtain⟨f0,f1⟩:=hf c hc
   exact⟨by rw[g8 (nfp c hc)];exact f0,f1⟩
  have I2:Inv X pins σ (upd H s.heap.objs.size (.tup [x,y])) { s with heap:=h2,toks:=s.toks }:=by
   refine Inv.turnedN (s:={ s with heap:=s.heap.push { cls:=.type "tuple",data:=.seq #[u1,u2] },toks:=s.toks }) (t':=s.toks) (h':=h2) (ch:=[z,TI,TO,p1,p2]) I1 (fun c o hcn e=>?_) hf'
   simp only[Lz,LU,or_false,not_or]at hcn
   obtain⟨n1,n2,n3,n4,n5⟩:=hcn
   refine b2.extBut c o n1 ?_
   by_cases hcs:c=s.heap.objs.size
   ·subst hcs
    have e':(s.heap.push { cls:=.type "tuple",data:=.seq #[u1,u2] }).get? s.heap.objs.size=some o:=e
    rw[LL _ rfl]at e'
    cases e'
    exact a5
   ·have e':(s.heap.push { cls:=.type "tuple",data:=.seq #[u1,u2] }).get? c=some o:=e
    have hlt:c<s.heap.objs.size:=by
     have:=LD e'
     rw[MA]at this
     exact Nat.lt_of_le_of_ne (Nat.le_of_lt_succ this) hcs
    have hold:s.heap.get? c=some o:=by
     have:∃ o',s.heap.get? c=some o':=by
      cases q:s.heap.get? c with
      | some o'=>exact⟨o',rfl⟩
      | none=>exact absurd e' (by rw[PJ _ _ _ hcs];rw[q];exact fun z=>nomatch z)
     obtain⟨o',ho'⟩:=this
     have:=Lq { cls:=.type "tuple",data:=.seq #[u1,u2] } ho'
     rw[e']at this
     cases this;exact ho'
    exact kk c o n1 n3 n4 n5 hold
  refine⟨.ref s.heap.objs.size,_,I2,rfl,⟨_,x,y,I.hok.fresh (LM _),rfl,rfl,fun zs hz=>by rw[I.sqk_inj hz q1];exact hx,fun zs hz=>by rw[I.sqk_inj hz q2];exact hy⟩,?_,fun c hc=>(hf' c hc).1⟩
  have lift:∀ c o,c≠z→h'.get? c=some o→h2.get? c=some o:=fun c o n e=>b2.extBut c o n e
  exact⟨b1,lift _ _ D.TIz (kk _ _ D.TIz D.TITO D.TIi1 D.TIi2 iI),⟨_,_,lift _ _ D.TOz a2⟩,a3.at fun o e=>lift _ o D.i1z e,a4.at fun o e=>lift _ o D.i2z e⟩
 done:=by
  intro X hP hw hK hc i pins s σ H E I hf st hg
  subst hP hw hK
  obtain⟨iz,iI,⟨a,b,iO⟩,g1,g2⟩:=st
  obtain⟨xs,ys,q1,q2,hx⟩:=hg
  obtain⟨is1,r1,m1⟩:=I.sqk q1
  obtain⟨is2,r2,m2⟩:=I.sqk q2
  have e1:=r1.length
  have e2:=r2.length
  refine Cu (I.ok.hd hc) D iz iI iO g1 g2 m1 m2 (hx.elim (fun h=>.inl (by simp;omega)) fun h=>.inr (by simp;omega)) fun h' kk=>⟨rfl,?_⟩
  refine I.turnedN (t':=s.toks) (ch:=[z,TI,TO,p1,p2]) (fun c o hcn e=>?_) hf
  simp only[Lz,LU,or_false,not_or]at hcn
  obtain⟨n1,n2,n3,n4,n5⟩:=hcn
  exact kk c o n1 n3 n4 n5 e
 self:=fun _ _ _ _ _ st h=>wpAny_pyIter_zip st.1 h
def Ib(K:Lo)(ta:TA):TI:=fun σ H R=>ta σ H fun vs H1=>∃ k1 k2 l1 l2,vs=[.ref l1,.ref l2]∧(∃ xs,SqK K k1 H1 l1 xs)∧(∃ ys,SqK K k2 H1 l2 ys)∧R (Itz K k1 k2 l1 l2) H1
theorem Dv{X:Cx}{elts:List Expr}{kx:Nat}{tp:Pos}{a b:Expr}{ta:TA}{p pos:Pos}(hg:Gl X "zip")(hm:X.mg "zip" = none)(ha:PA X [a,b] ta)
  (hs:starEach [a,b] X.env=[(false,eval a X.env),(false,eval b X.env)]:=by rfl) (hs2:starEach [b] X.env=[(false,eval b X.env)]:=by rfl):PI X (.Tuple elts kx tp) (.Call (.Name "zip" p) [a,b] [] pos) (Ib X.K ta):=by
 intro pins s σ H R I h
 refine Call_ (Z7 I hg hm PyProof.Rows.boot_zip (PyProof.Rows.callWith_type1 (thn (ha pos pins s σ H _ I h) fun us s1 ⟨vs,H1,I1,r1,q1⟩=>?_) (by rw[hs,hs2]) (by rw[hs2];rfl)))
 obtain⟨k1,k2,l1,l2,e,⟨xs,q2⟩,⟨ys,q3⟩,q⟩:=q1
 subst e
 cases r1 with
 | cons r rr =>
  cases rr with
  | cons r' rr =>
   cases rr
   cases r
   cases r'
   obtain⟨is1,_,m1⟩:=I1.sqk q2
   obtain⟨is2,_,m2⟩:=I1.sqk q3
   have lt1:l1<s1.heap.objs.size:=by obtain⟨o,e⟩:=m1.obj;exact LD e
   have lt2:l2<s1.heap.objs.size:=by obtain⟨o,e⟩:=m2.obj;exact LD e
   refine Au m1 m2 fun h' a1 a2 a3 a4 a5 a6 kk=>?_
   refine wpAny_pyIter_zip (s:={ s1 with heap:=h' }) a1 ?_
   have D:ZipApart (s1.heap.objs.size+4) (s1.heap.objs.size+2) (s1.heap.objs.size+3) s1.heap.objs.size (s1.heap.objs.size+1) l1 l2:=PyProof.Rows.zipApart_new lt1 lt2
   refine⟨s1.heap.objs.size+4,_,_,_,H1,rfl,I1.kept (t':=s1.toks) kk,uM D,⟨a1,a2,⟨_,_,a3⟩,a4,a5⟩,fun c hc=>?_,q⟩
   have hge:s1.heap.objs.size≤c:=by
    simp only[Lz,LU,or_false]at hc
    rcases hc with rfl|rfl|rfl|rfl|rfl
    ·exact Nr _ _
    ·exact Nr _ _
    ·exact Nr _ _
    ·exact LM _
    ·exact Nr _ _
   exact I1.fpOk hge (I1.hok.fresh hge)
section
variable {X:Cx} {pins:List (Addr × Obj)} {σ:St} {H:Hp} {s:Shared} {p:Addr}
theorem Inv.swap{a b:HO}(I:Inv X pins σ H s)(hp:H p=some a)(ha:(∀ x,a ≠ .own x)∧∀ xs,a ≠ .tup xs)(h1:∀ xs,X.H₀ p≠some (.tup xs))(h2:∀ o u,X.H₀ p≠some (.frz o u))(h3:∀ ps,X.H₀ p≠some (.tbl ps))
  (new:B4 X.prog X.w H s.heap p b):Inv X pins σ (upd H p b) s:=by
 have ne:∀{c:Addr},H c=none→c≠p:=fun{c} q z=>by subst z;rw[hp]at q;cases q
 have st:∀{c:Addr} {o:HO},B4 X.prog X.w H s.heap c o→B4 X.prog X.w (upd H p b) s.heap c o:=fun{c o} x =>
  x.stay (fun _ _ _ q=>q) (fun d q=>by
   have:d≠p:=by intro z;subst z;rw[hp]at q;cases q;exact ha.1 _ rfl
   rw[g8 this];exact q) fun d xs q=>by
   have:d≠p:=by intro z;subst z;rw[hp]at q;cases q;exact ha.2 _ rfl
   rw[g8 this];exact q
 refine⟨I.ok,I.os,I.bare,⟨I.base.keep,I.base.slot,fun c o e n x=>?_,I.base.there,fun c xs q=>?_,fun c o u q=>?_,fun c ps q=>?_⟩,I.loc,I.cell,?_,fun x c e=>?_,fun q hq=>?_,fun c o q=>?_,I.len⟩
 ·have:=I.base.free c o e n x
  rw[g8 (ne this)];exact this
 ·have:c≠p:=by intro z;subst z;exact h1 xs q
  rw[g8 this];exact I.base.tups c xs q
 ·have:c≠p:=by intro z;subst z;exact h2 o u q
  rw[g8 this];exact I.base.frzs c o u q
 ·have:c≠p:=by intro z;subst z;exact h3 ps q
  rw[g8 this];exact I.base.tbls c ps q
 ·rw[g8 (ne I.free)];exact I.free
 ·rw[g8 (ne (I.freeC x c e))];exact I.freeC x c e
 ·obtain⟨a1,a2,a3,a4,a5⟩:=I.pin q hq
  exact⟨a1,by rw[g8 (ne a2)];exact a2,a3,a4,a5⟩
 ·by_cases z:c=p
  ·subst z;rw[i8]at q;cases q;exact st new
  ·rw[g8 z]at q;exact st (I.hok c o q)
theorem Inv.freeze{xs:List V}(I:Inv X pins σ H s)(hp:H p=some (.lst xs)):∃ o,Inv X pins σ (upd H p (.frz o (.lst xs))) s:=by
 have k:=I.hok p _ hp
 obtain⟨z,its,n,r,e⟩:=id k
 refine⟨_,I.swap hp ⟨fun _ q=>(nomatch q),fun _ q=>(nomatch q)⟩ (fun ys q=>?_) (fun o u q=>?_) (fun ps q=>?_) ⟨e,k⟩⟩
 ·rw[I.base.tups p ys q]at hp;cases hp
 ·rw[I.base.frzs p o u q]at hp;cases hp
 ·obtain⟨more,q⟩:=I.base.tbls p ps q;rw[q]at hp;cases hp
structure Cp(X:Cx)(p:Addr):Prop where
 t:∀ xs,X.H₀ p≠some (.tup xs)
 f:∀ o u,X.H₀ p≠some (.frz o u)
 b:∀ ps,X.H₀ p≠some (.tbl ps)
theorem Inv.loose{xs:List V}(I:Inv X pins σ H s)(hp:H p=some (.lst xs)):Cp X p :=
 ⟨fun ys q=>(by rw[I.base.tups p ys q]at hp;cases hp),fun o u q=>(by rw[I.base.frzs p o u q]at hp;cases hp),fun ps q=>(by obtain⟨more,q⟩:=I.base.tbls p ps q;rw[q]at hp;cases hp)⟩
def FE(t:TE):TE:=fun σ H Q=>t σ H fun v H1=>∃ p xs,v = .ref p∧H1 p=some (.lst xs)∧∀ o,Q v (upd H1 p (.frz o (.lst xs)))
theorem eL{x:Expr}{t:TE}(h:PE X x t):PE X x (FE t):=fun pins s σ H Q I q =>
 wpAny_mono (h pins s σ H _ I q) (fun u s1 zz=>by
  obtain⟨v,H1,I1,r,p,xs,e,hp,q1⟩:=zz
  obtain⟨o,I2⟩:=I1.freeze hp
  exact⟨v,_,I2,r,q1 o⟩) fun _ _ z=>z
theorem Dm{i:Nat}{y:Str}{pos':Pos}{x:Expr}{t:TE}(h:PU X i y pos' x t):PU X i y pos' x (FE t):=fun pins s σ H Q I q =>
 wpAny_mono (h pins s σ H _ I q) (fun u s1 zz=>by
  obtain⟨v,H1,I1,p,xs,e,hp,q1⟩:=zz
  obtain⟨o,I2⟩:=I1.freeze hp
  exact⟨v,_,I2,q1 o⟩) fun _ _ z=>z
def FD(t:TE):TE:=fun σ H Q=>t σ H fun v H1=>(∃ p xs,v = .ref p∧H1 p=some (.lst xs)∧∀ o,Q v (upd H1 p (.frz o (.lst xs))))∨Q v H1
theorem zx{x:Expr}{t:TE}(h:PE X x t):PE X x (FD t):=fun pins s σ H Q I q =>
 wpAny_mono (h pins s σ H _ I q) (fun u s1 zz=>by
  obtain⟨v,H1,I1,r,z⟩:=zz
  rcases z with⟨p,xs,e,hp,q1⟩|q1
  ·obtain⟨o,I2⟩:=I1.freeze hp
   exact⟨v,_,I2,r,q1 o⟩
  ·exact⟨v,H1,I1,r,q1⟩) fun _ _ z=>z
noncomputable def aQ(p:Addr)(xs:List V):HO:=.ext fun h=>xs.length≤sizeLine∧∃(its:List Value) (n:Nat),i7 xs its∧h.get? p=some { cls:=.type "list",data:=.seq its.toArray n }
theorem Inv.hide{xs:List V}(I:Inv X pins σ H s)(hp:H p=some (.lst xs)):Inv X pins σ (upd H p (aQ p xs)) s:=by
 have k:=I.hok p _ hp
 have l:=I.loose hp
 obtain⟨z,its,n,r,e⟩:=id k
 exact I.swap hp ⟨fun _ q=>(nomatch q),fun _ q=>(nomatch q)⟩ l.t l.f l.b ⟨⟨z,its,n,r,e⟩,⟨_,e⟩,fun h1 h2 ⟨z,its,n,r,e⟩ k=>⟨z,its,n,r,k _ e⟩⟩
theorem Inv.show'{xs:List V}(I:Inv X pins σ H s)(l:Cp X p)(hp:H p=some (aQ p xs)):Inv X pins σ (upd H p (.lst xs)) s:=by
 obtain⟨k,_,_⟩:=I.hok p _ hp
 exact I.swap hp ⟨fun _ q=>(nomatch q),fun _ q=>(nomatch q)⟩ l.t l.f l.b k
def uQ(p:Addr)(t:TE):TE:=fun σ H Q=>∃ xs,H p=some (.lst xs)∧t σ (upd H p (aQ p xs)) fun v H1=>H1 p=some (aQ p xs)∧Q v (upd H1 p (.lst xs))
theorem qy{x:Expr}{t:TE}(h:PE X x t):PE X x fun σ H Q=>∃ p,uQ p t σ H Q:=fun pins s σ H Q I ⟨p,xs,hp,q⟩ =>
 wpAny_mono (h pins s σ _ _ (I.hide hp) q) (fun u s1 ⟨v,H1,I2,r,hp1,q1⟩=>⟨v,_,I2.show' (I.loose hp) hp1,r,q1⟩) fun _ _ z=>z
def uO(p:Addr)(t:TT):TT:=fun σ H Q=>∃ xs,H p=some (.lst xs)∧t σ (upd H p (aQ p xs)) fun v H1=>H1 p=some (aQ p xs)∧Q v (upd H1 p (.lst xs))
theorem gQ{ifs:List Expr}{t:TT}(h:bH X ifs t):bH X ifs fun σ H Q=>∃ p,uO p t σ H Q:=fun pins s σ H Q I ⟨p,xs,hp,q⟩ =>
 wpAny_mono (h pins s σ _ _ (I.hide hp) q) (fun u s1 ⟨H1,I2,hp1,q1⟩=>⟨_,I2.show' (I.loose hp) hp1,q1⟩) fun _ _ z=>z
def uP(p:Addr)(g:TG):TG:=fun v σ H Q=>∃ xs,H p=some (.lst xs)∧g v σ (upd H p (aQ p xs)) fun σ1 H1=>H1 p=some (aQ p xs)∧Q σ1 (upd H1 p (.lst xs))
theorem qx{tg:Expr}{g:TG}(h:PG X tg g):PG X tg fun v σ H Q=>∃ p,uP p g v σ H Q:=fun pins s σ H v u Q I r ⟨p,xs,hp,q⟩ =>
 wpAny_mono (h pins s σ _ v u _ (I.hide hp) r q) (fun u s1 ⟨σ1,H1,I2,hp1,q1⟩=>⟨σ1,_,I2.show' (I.loose hp) hp1,q1⟩) fun _ _ z=>z
end
section
variable {X:Cx} {pos:Pos}
end
section
variable {X:Cx} {e:Expr} {te:TE} {st:Expr} {ts:TO} {pos p2:Pos}
end
section
variable {prog:Program} {w:World} {A:Around} {E:Value→Shared→Prop} {s:Shared}
end
section
variable {X:Cx}
end
section
variable {X:Cx}
end
section
variable {prog:Program} {w:World} {A:Around} {E:Value→Shared→Prop} {s:Shared}
end
section
variable {prog:Program} {w:World} {A:Around} {E:Value→Shared→Prop} {s:Shared}
end
section
variable {X:Cx}
end
section
variable {prog:Program} {w:World} {A:Around} {E:Value→Shared→Prop} {s:Shared}
end
section
variable {X:Cx}
end
section
variable {prog:Program} {w:World} {A:Around} {E:Value→Shared→Prop} {s:Shared}
theorem qE{h h2:Heap}{a b:Addr}{its:Array Value}(x:h.IsList a its)(hs:Heap.ExtBut b h h2)(ne:a≠b):h2.IsList a its:=x.at fun o e=>hs a o ne e
theorem mO{it l:Addr}{its:Array Value}(hne:l≠it):∀(n i:Nat) (s:Shared) (Q:List Value→Shared→Prop),s.heap.IsListIter it l i→s.heap.IsList l its→i+n≤its.size →
  (∀ h2,h2.IsListIter it l (i+n)→Heap.SameBut it s.heap h2→Q ((its.toList.drop i).take n) { s with heap:=h2 })→wpAny (model prog w) A (draw (.ref it) n) Q E s
 | 0,i,s,Q,hi,_,_,k=>by
  show wpAny _ _ (pure []) Q E s
  refine LG ?_
  simpa using k s.heap hi (Heap.SameBut.refl ..)
 | n+1,i,s,Q,hi,hl,hle,k=>by
  have lt:i<its.size:=by omega
  show wpAny _ _ (pyNext (.ref it) >>= _) Q E s
  refine Lp (wpAny_pyNext_list_item hi hl (x:=its[i]) (by simp[lt]) fun h1 hi1 hs1=>Lp (wpAny_holding ?_))
  refine mO hne n (i+1) _ _ hi1 (qE hl hs1.extBut hne) (by omega) fun h2 hi2 hs2=>LG ?_
  have e:its.toList.drop i=its[i] :: its.toList.drop (i+1):=by simp[Oo,lt]
  have z:=k h2 (by rw[show i+(n+1)=i+1+n by omega];exact hi2) (hs1.trans hs2)
  rw[e,Oc]at z
  exact z
theorem ny{l:Addr}{its:Array Value}{ts:List (Bool × (Value→Sem Unit))}{Q:Unit→Shared→Prop}(hh:A.handled=none)(hl:s.heap.IsList l its)(hn:ts.length=its.size)(hst:ts.findIdx? (·.1)=none)
  (k:∀ h2,Heap.ExtBut s.heap.objs.size s.heap h2→wpAny (model prog w) A (assignInOrder (ts.map (·.2)) its.toList) Q E { s with heap:=h2 }):wpAny (model prog w) A (unpack (.ref l) ts) Q E s:=by
 have ne:l≠s.heap.objs.size:=by obtain⟨o,ho,_⟩:=hl;exact Md (LD ho)
 unfold unpack
 rw[hn,hst]
 refine Lp (wpAny_holding ?_)
 unfold unpackItems
 refine Lp ?_
 unfold notIterableAtAll
 refine Lp (wpAny_specialOf hl.typeIs F.slot_list_iter.lookup (LG ?_))
 simp only[Nz,if_false]
 refine Lp (wpAny_holding (wpAny_pyIter_list hl ?_))
 refine Lp (wpAny_holding (mO ne its.size 0 _ _ ⟨_,LL _ rfl,rfl,rfl⟩ (hl.at fun o e=>Lq _ e) (by omega) fun h1 hi1 hs1=>?_))
 have all:List.take its.size (List.drop 0 its.toList)=its.toList:=by
  rw[Qp];exact Nd (by simp)
 rw[all,if_neg (by simp)]
 have hl1:h1.IsList l its:=qE (hl.at fun o e=>Lq _ e) hs1.extBut ne
 refine Lp (wpAny_holding (wpAny_pyNext_list_end hh hi1 hl1 (by simp) fun h2 he=>?_))
 simp only[Option.isSome_none,Nz,if_false]
 exact LG (k h2 fun b o hb e=>he b o hb (hs1.extBut b o hb (Lq _ e)))
end
section
variable {X:Cx} {pos:Pos}
def Ei(K:Lo)(n:Nat)(t:TGs):TG:=fun v σ H Q=>∃ a xs,v = .ref a∧SqL K H a xs∧xs.length=n∧t xs σ H Q
theorem zu{es:List Expr}{k:Nat}{t:TGs}{n:Nat}(hc:X.calm=true)(h:PGs X es t)(hn:(assignEach es X.env).length=n:=by rfl)
  (hst:(assignEach es X.env).findIdx? (·.1)=none:=by rfl):PG X (.Tuple es k pos) (Ei X.K n t):=by
 intro pins s σ H v u Q I r hw
 obtain⟨a,xs,e1,hq,hl,hw⟩:=hw
 subst e1
 cases r
 obtain⟨its,rv,ht,hz⟩:=I.list hq
 rw[assign_Tuple]
 refine Lp (wpAny_standAt (ny (I.ok.hd hc) ht.isList (by simp[hn,← hl,rv.length]) hst fun h2 hx=>?_))
 have I1:Inv X pins σ H { s with heap:=h2 }:=I.kept (t':=s.toks) fun b o e=>hx b o (Md (LD e)) e
 exact h pins _ σ H xs _ Q I1 (by simpa using rv) hw
end
section
variable {X:Cx}
end
section
variable {prog:Program} {w:World} {A:Around} {E:Value→Shared→Prop} {s:Shared}
end
end L2
namespace L2
open PySem
section
variable {prog:Program} {w:World} {A:Around} {E:Value→Shared→Prop} {s:Shared}
theorem wY{k:Bool}{e p l:Addr}{n:Nat}{xs:Array Value}{v old:Value}{Q:Option Value→Shared→Prop}(ie:IsEnum s.heap e p n old)(g:SI k s.heap p l n)(m:SS k s.heap l xs)(hv:xs[n]? = some v)(hne:e≠p)
  (q:∀ h',IsEnumOut h' e p ((n:Int)+1) v s.heap.objs.size→SI k h' p l (n+1)→h'.get? s.heap.objs.size=some { cls:=.type "tuple",data:=.seq #[.int n s.toks,v] }→h'.objs.size=s.heap.objs.size+1 →
   (∀ b o,b≠e→b≠p→s.heap.get? b=some o→h'.get? b=some o)→Q (some (.ref s.heap.objs.size)) { s with heap:=h',toks:=s.toks+1 }):wpAny (model prog w) A (pyNext (.ref e)) Q E s:=by
 have ty:s.TypeIs (.ref e) "enumerate" := ⟨_,ie,rfl⟩
 unfold pyNext
 refine Lp (wpAny_attempt (wpAny_callSpecial?_slot (name:=Str.ofString "__next__") ty F.slot_enumerate_next (wpAny_call_entry F.slot_enumerate_next ty F.entry_enumerate_next ?_ (F.args_enumerate_next_1 _))))
 obtain⟨hp,gs,dr,tk,os⟩:=s
 show wpAny _ _ (field (.ref e) 2 >>= _) _ _ _
 refine Lp (wpAny_field ie rfl (x:=.ref p) rfl (Lp (cD g m hv fun ha ga sa=>?_)))
 replace sa:Heap.SameBut p hp ha:=sa
 have ea:IsEnum ha e p n old:=(sa.2 e hne).trans ie
 show wpAny _ _ (field (.ref e) 3 >>= _) _ _ ⟨ha,gs,dr,tk,os⟩
 refine Lp (wpAny_field ea rfl (x:=rawInt n) rfl ?_)
 show wpAny _ _ (field (.ref e) 4 >>= _) _ _ ⟨ha,gs,dr,tk,os⟩
 refine Lp (wpAny_field ea rfl (x:=.none) rfl ?_)
 show wpAny _ _ (mkInt n >>= _) _ _ ⟨ha,gs,dr,tk,os⟩
 refine Lp (wpAny_mkInt ?_)
 show wpAny _ _ (setField (.ref e) 3 (rawInt ((n:Int)+1)) >>= _) _ _ ⟨ha,gs,dr,tk+1,os⟩
 refine Lp (wpAny_setField_rec ea (by simp) fun hb eb sb=>?_)
 replace sb:Heap.SameBut e ha hb:=sb
 replace eb:IsEnum hb e p ((n:Int)+1) old:=eb
 show wpAny _ _ (setField (.ref e) 4 .none >>= _) _ _ ⟨hb,gs,dr,tk+1,os⟩
 refine Lp (wpAny_setField_rec eb (by simp) fun hc ec sc=>?_)
 replace sc:Heap.SameBut e hb hc:=sc
 replace ec:IsEnum hc e p ((n:Int)+1) old:=ec
 show wpAny _ _ (newTuple [.int n tk,v] >>= _) _ _ ⟨hc,gs,dr,tk+1,os⟩
 refine Lp (wpAny_newTuple ?_)
 have zc:hc.objs.size=hp.objs.size:=by rw[sc.1,sb.1,sa.1]
 have ltE:e<hp.objs.size:=LD ie
 obtain⟨hd,hhd⟩:∃ hd,hd=hc.push { cls:=.type "tuple",data:=.seq #[.int n tk,v] }:=⟨_,rfl⟩
 have ed:IsEnum hd e p ((n:Int)+1) old:=by rw[hhd];exact Lq _ ec
 have td:hd.get? hp.objs.size=some { cls:=.type "tuple",data:=.seq #[.int n tk,v] }:=by rw[hhd,← zc];exact LL _ rfl
 have zd:hd.objs.size=hp.objs.size+1:=by rw[hhd,MA,zc]
 have kd:∀ b o,b≠e→b≠p→hp.get? b=some o→hd.get? b=some o:=fun b o b1 b2 z=>by rw[hhd];exact Lq _ (sc.extBut b o b1 (sb.extBut b o b1 (sa.extBut b o b2 z)))
 have gd:SI k hd p l (n+1):=((ga.but sb.extBut (Ne.symm hne)).but sc.extBut (Ne.symm hne)).at fun o z=>by rw[hhd];exact Lq _ z
 show wpAny _ _ (Builtin.SmallTypes.ownedTupleIsFree (.ref e) >>= _) _ _ ⟨hc.push { cls:=.type "tuple",data:=.seq #[.int n tk,v] },gs,dr,tk+1,os⟩
 rw[← hhd,zc]
 refine Lp ?_;unfold Builtin.SmallTypes.ownedTupleIsFree
 refine Lp (wpAny_field ed rfl (x:=.none) rfl (LG ?_));simp only[if_true]
 refine Lp (wpAny_rule (Lp (wpAny_field ed rfl (x:=old) rfl (Lp (wpAny_setField_rec ed (by simp) fun hf ef sf=>?_)))))
 replace sf:Heap.SameBut e hd hf:=sf
 replace ef:IsEnum hf e p ((n:Int)+1) v:=ef
 show wpAny _ _ (Builtin.SmallTypes.ownedTupleHandOut (.ref e) (.ref hp.objs.size) >>= _) _ _ ⟨hf,gs,dr,tk+1,os⟩
 refine Lp ?_;unfold Builtin.SmallTypes.ownedTupleHandOut
 refine Lp (wpAny_setField_rec ef (by simp) fun hg eg sg=>?_)
 replace sg:Heap.SameBut e hf hg:=sg
 replace eg:IsEnumOut hg e p ((n:Int)+1) v hp.objs.size:=eg
 refine wpAny_setField_rec eg (by simp) fun hh eh sh=>?_
 replace sh:Heap.SameBut e hg hh:=sh
 replace eh:IsEnumOut hh e p ((n:Int)+1) v hp.objs.size:=eh
 refine Lp (wpAny_letGo (LG ⟨_,rfl,LG (q hh eh ?_ ?_ ?_ ?_)⟩))
 ·exact((gd.but sf.extBut (Ne.symm hne)).but sg.extBut (Ne.symm hne)).but sh.extBut (Ne.symm hne)
 ·exact sh.extBut _ _ (MF ltE) (sg.extBut _ _ (MF ltE) (sf.extBut _ _ (MF ltE) td))
 ·show hh.objs.size=hp.objs.size+1
  rw[sh.1,sg.1,sf.1,zd]
 ·exact fun b o b1 b2 z=>sh.extBut b o b1 (sg.extBut b o b1 (sf.extBut b o b1 (kd b o b1 b2 z)))
theorem Aq{k:Bool}{e p l:Addr}{n:Nat}{xs:Array Value}{old:Value}{Q:Option Value→Shared→Prop}(hA:A.handled=none)(ie:IsEnum s.heap e p n old)(g:SI k s.heap p l n)(m:SS k s.heap l xs)(hv:xs[n]? = none)
  (q:∀ h',Heap.ExtBut p s.heap h'→Q none { s with heap:=h' }):wpAny (model prog w) A (pyNext (.ref e)) Q E s:=by
 have ty:s.TypeIs (.ref e) "enumerate" := ⟨_,ie,rfl⟩
 unfold pyNext
 refine Lp (wpAny_attempt (wpAny_callSpecial?_slot (name:=Str.ofString "__next__") ty F.slot_enumerate_next (wpAny_call_entry F.slot_enumerate_next ty F.entry_enumerate_next ?_ (F.args_enumerate_next_1 _))))
 show wpAny _ _ (field (.ref e) 2 >>= _) _ _ _
 refine Lp (wpAny_field ie rfl (x:=.ref p) rfl (Lp (nI hA g m hv fun h' x he' zz=>?_)))
 obtain⟨o,ho,hc⟩:=zz
 exact Lp (wpAny_isInstance (T := "StopIteration") (b:=true) ⟨o,ho,hc⟩ isSubtype_stop (LG (q _ he')))
end
set_option maxHeartbeats 2000000 in
theorem wZ(l:Addr)(xs:Array Value)(n:Nat)(dct:Option Addr)(sl:Array (Option Value)) :
  Meets (Builtin.«enumerate.__new__» ⟨[.type "enumerate",.ref l],[]⟩) (fun _ R s=>s.heap.get? l=some { cls:=.type "tuple",dict:=dct,data:=.seq xs n,slots:=sl } ∧
   R (.ok (.ret (.ref (zA false s.heap l).objs.size))) { s with heap:=(zA false s.heap l).push { cls:=.type "enumerate",data:=.fields #[.none,.bool false,.ref s.heap.objs.size,rawInt 0,.none,.none] } }) :=
 .of_wp fun prog w A R s h=>by
  obtain⟨hp,g,d,tk,os⟩:=s
  obtain⟨hl,h⟩:=h
  have hsub:=sub_enumerate
  have hT:Heap.IsTuple (Shared.heap ⟨hp,g,d,tk,os⟩) l xs:=⟨_,hl,rfl,n,rfl⟩
  wp_walk using AutoSeq1.wpAny_loadPart' hl
  refine wpAny_stack_any fun st=>LG ?_
  split
  ·rename_i c _ _ _ _ _
   cases(c == Value.type "enumerate")
   ·wp_walk using AutoSeq1.wpAny_loadPart' hl,wpAny_pyIter_tuple hT
    exact⟨_,rfl,h⟩
   ·wp_walk using AutoSeq1.wpAny_loadPart' hl,wpAny_pyIter_tuple hT
    exact⟨_,rfl,h⟩
  ·wp_walk using AutoSeq1.wpAny_loadPart' hl,wpAny_pyIter_tuple hT
   exact⟨_,rfl,h⟩
section
variable {prog:Program} {w:World} {A:Around} {E:Value→Shared→Prop} {s:Shared}
theorem xu{k:Bool}{l:Addr}{xs:Array Value}{Q:Value→Shared→Prop}(m:SS k s.heap l xs)
  (q:∀ h',IsEnum h' (s.heap.objs.size+1) s.heap.objs.size 0 .none→SI k h' s.heap.objs.size l 0→h'.objs.size=s.heap.objs.size+2→(∀ b o,s.heap.get? b=some o→h'.get? b=some o)→Q (.ref (s.heap.objs.size+1)) { s with heap:=h' }) :
  wpAny (model prog w) A (call (.type "enumerate") [.ref l]) Q E s:=by
 cases k with
 | true=>exact call_enumerate_list m q
 | false =>
  obtain⟨⟨c,dct,dt,sl⟩,hl,hc,n,hd⟩:=m
  simp only at hc hd
  subst hc;subst hd
  refine callType_new F.called_enumerate (by decide) (F.typeCall_enumerate_1 _) (F.newCall_enumerate_1 _) (fun obj=>F.args_object_init_2 obj _) F.entry_enumerate_new (wZ l xs n dct sl) ⟨hl,?_⟩
  have s1:(zA false s.heap l).objs.size=s.heap.objs.size+1:=MA ..
  have o1:((zA false s.heap l).push { cls:=.type "enumerate",data:=.fields #[.none,.bool false,.ref s.heap.objs.size,rawInt 0,.none,.none] }).get? (zA false s.heap l).objs.size=some _:=LL _ rfl
  show _∧_
  rw[s1]at o1 ⊢
  exact⟨⟨_,o1,rfl⟩,q _ o1 ⟨_,Lq _ (LL _ rfl),rfl,rfl⟩ (by rw[MA,s1]) fun b o e=>Lq _ (Lq _ e)⟩
end
end L2
namespace L2
open PySem PySem.Spec PyProof.Rows
noncomputable def Ite(K:Lo)(k:Bool)(l:Addr):It :=
 ⟨fun i H=>∃ xs x,SqK K k H l xs∧xs[i]? = some x,
  fun i H v H'=>∃ T x,H T=none∧v = .ref T∧H'=upd H T (.tup [.int i,x])∧∀ xs,SqK K k H l xs→xs[i]? = some x,
  fun i H=>∃ xs,SqK K k H l xs∧xs.length≤i⟩
def EK(k:Bool)(e p l:Addr)(i:Nat)(h:Heap):Prop:=(∃ old,IsEnum h e p i old)∧SI k h p l i
theorem rK{P:Program}{w:World}{K:Lo}{elts:List Expr}{kx:Nat}{tp:Pos}{k:Bool}{e p l:Addr}(hne:e≠p):oQ P w K (.Tuple elts kx tp) (Ite K k l) [e,p] e (EK k e p l) where
 mem:=by simp
 obj:=fun i h ⟨⟨old,ie⟩,g⟩ c hc=>by
  simp only[Lz,LU,or_false]at hc
  rcases hc with rfl|rfl
  ·exact⟨_,ie,fun v z=>by cases z⟩
  ·exact g.obj
 keep:=fun i h h' ⟨⟨old,ie⟩,g⟩ kk=>⟨⟨old,kk e (by simp) _ ie⟩,g.at fun o z=>kk p (by simp) o z⟩
 item:=by
  intro X hP hw hK hc i pins s σ H E I hf st hg
  subst hP hw hK
  obtain⟨⟨old,ie⟩,g⟩:=st
  obtain⟨xs,x,q1,hx⟩:=hg
  obtain⟨is1,r1,m1⟩:=I.sqk q1
  obtain⟨u1,hu1,ru1⟩:=r1.get hx
  refine wY ie g m1 (v:=u1) (by simpa using hu1) hne fun h' a1 a2 a3 a4 kk=>?_
  refine⟨_,rfl,?_⟩
  refine wpAny_letOwnedTupleGo_enum (s:={ s with heap:=h',toks:=s.toks+1 }) a1 fun h2 b1 b2=>?_
  have lt:∀{c o},s.heap.get? c=some o→c≠s.heap.objs.size:=fun z=>Md (LD z)
  have I1:Inv X pins σ (upd H s.heap.objs.size (.tup [.int i,x])) { s with heap:=s.heap.push { cls:=.type "tuple",data:=.seq #[.int i s.toks,u1] },toks:=s.toks+1 } :=
   I.laid (o:=.tup [.int i,x]) (fun b ob q=>Lq _ q) (LM _) ⟨(show 2≤sizeLine by decide),[.int i s.toks,u1],.cons ⟨_,rfl⟩ (.cons ru1 .nil),IsTup.new _ _⟩
  have nfp:∀ c∈[e,p],c≠s.heap.objs.size:=fun c hc=>by
   simp only[Lz,LU,or_false]at hc
   rcases hc with rfl|rfl
   ·exact lt ie
   ·obtain⟨o,z,_⟩:=g.obj;exact lt z
  have hf':∀ c∈[e,p],ag X pins (upd H s.heap.objs.size (.tup [.int i,x])) c:=fun c hc=>by
   obtain⟨f0,f1⟩:=hf c hc
   exact⟨by rw[g8 (nfp c hc)];exact f0,f1⟩
  have I2:Inv X pins σ (upd H s.heap.objs.size (.tup [.int i,x])) { s with heap:=h2,toks:=s.toks+1 }:=by
   refine Inv.turnedN (s:={ s with heap:=s.heap.push { cls:=.type "tuple",data:=.seq #[.int i s.toks,u1] },toks:=s.toks+1 }) (t':=s.toks+1) (h':=h2) (ch:=[e,p]) I1 (fun c o hcn z=>?_) hf'
   simp only[Lz,LU,or_false,not_or]at hcn
   obtain⟨n1,n2⟩:=hcn
   refine b2.extBut c o n1 ?_
   have z':(s.heap.push { cls:=.type "tuple",data:=.seq #[.int i s.toks,u1] }).get? c=some o:=z
   by_cases hcs:c=s.heap.objs.size
   ·subst hcs
    rw[LL _ rfl]at z'
    cases z'
    exact a3
   ·rw[PJ _ _ _ hcs]at z'
    exact kk c o n1 n2 z'
  refine⟨.ref s.heap.objs.size,_,I2,rfl,⟨_,x,I.hok.fresh (LM _),rfl,rfl,fun zs hz=>by rw[I.sqk_inj hz q1];exact hx⟩,?_,fun c hc=>(hf' c hc).1⟩
  have ec:((i+1:Nat):Int)=(i:Int)+1:=by omega
  exact⟨⟨u1,by rw[ec];exact b1⟩,a2.at fun o z=>b2.extBut p o (Ne.symm hne) z⟩
 done:=by
  intro X hP hw hK hc i pins s σ H E I hf st hg
  subst hP hw hK
  obtain⟨⟨old,ie⟩,g⟩:=st
  obtain⟨xs,q1,hx⟩:=hg
  obtain⟨is1,r1,m1⟩:=I.sqk q1
  have e1:=r1.length
  refine Aq (I.ok.hd hc) ie g m1 (by simp;omega) fun h' kk=>⟨rfl,?_⟩
  refine I.turnedN (t':=s.toks) (ch:=[e,p]) (fun c o hcn z=>?_) hf
  simp only[Lz,LU,or_false,not_or]at hcn
  exact kk c o hcn.2 z
 self:=fun _ _ _ _ _ st h=>let ⟨⟨_,ie⟩,_⟩:=st;wpAny_pyIter_enum ie h
def GA(K:Lo)(ta:TA):TI:=fun σ H R=>ta σ H fun vs H1=>∃ k l,vs=[.ref l]∧(∃ xs,SqK K k H1 l xs)∧R (Ite K k l) H1
theorem zr{X:Cx}{elts:List Expr}{kx:Nat}{tp:Pos}{a:Expr}{ta:TA}{p pos:Pos}(hg:Gl X "enumerate")(hm:X.mg "enumerate" = none)(ha:PA X [a] ta)(hs:starEach [a] X.env=[(false,eval a X.env)]:=by rfl) :
  PI X (.Tuple elts kx tp) (.Call (.Name "enumerate" p) [a] [] pos) (GA X.K ta):=by
 intro pins s σ H R I h
 refine Call_ (Z7 I hg hm PyProof.Rows.boot_enumerate (PyProof.Rows.callWith_type1 (thn (ha pos pins s σ H _ I h) fun us s1 ⟨vs,H1,I1,r1,q1⟩=>?_) hs rfl))
 obtain⟨k,l,e,⟨xs,q2⟩,q⟩:=q1
 subst e
 cases r1 with
 | cons r rr =>
  cases rr
  cases r
  obtain⟨is1,_,m1⟩:=I1.sqk q2
  refine xu m1 fun h' a1 a2 a3 kk=>?_
  refine wpAny_pyIter_enum (s:={ s1 with heap:=h' }) a1 ?_
  refine⟨s1.heap.objs.size+1,_,_,_,H1,rfl,I1.kept (t':=s1.toks) kk,rK (Nat.succ_ne_self _),⟨⟨_,a1⟩,a2⟩,fun c hc=>?_,q⟩
  have hge:s1.heap.objs.size≤c:=by
   simp only[Lz,LU,or_false]at hc
   rcases hc with rfl|rfl
   ·exact Nr _ _
   ·exact LM _
  exact I1.fpOk hge (I1.hok.fresh hge)
end L2
namespace L2
open PySem
theorem PE.imp{X:Cx}{x:Expr}{t t':TE}(h:PE X x t)(i:∀ σ H Q,t' σ H Q→t σ H Q):PE X x t':=fun pins s σ H Q I q=>h pins s σ H Q I (i σ H Q q)
theorem PT.imp{X:Cx}{x:Expr}{t t':TT}(h:PT X x t)(i:∀ σ H Q,t' σ H Q→t σ H Q):PT X x t':=fun pins s σ H Q I q=>h pins s σ H Q I (i σ H Q q)
theorem PW.imp{X:Cx}{x:Expr}{t t':TT}(h:PW X x t)(i:∀ σ H Q,t' σ H Q→t σ H Q):PW X x t':=fun wh pins s σ H Q I q=>h wh pins s σ H Q I (i σ H Q q)
theorem PA.imp{X:Cx}{x:List Expr}{t t':TA}(h:PA X x t)(i:∀ σ H Q,t' σ H Q→t σ H Q):PA X x t':=fun pos pins s σ H Q I q=>h pos pins s σ H Q I (i σ H Q q)
theorem PS.imp{X:Cx}{x:Stmt}{t t':TS}(h:PS X x t)(i:∀ E σ H,t' E σ H→t E σ H):PS X x t':=fun pins s σ H D I q=>h pins s σ H D I (i D σ H q)
theorem PSs.imp{X:Cx}{x:List Stmt}{t t':TS}(h:PSs X x t)(i:∀ E σ H,t' E σ H→t E σ H):PSs X x t':=fun pins s σ H D I q=>h pins s σ H D I (i D σ H q)
theorem OpR.imp{X:Cx}{f:Value→Value→Sem Value}{r r':R2}(h:OpR X f r)(i:∀ x y H Q,r' x y H Q→r x y H Q):OpR X f r':=fun pins s σ H x y v u Q I rx ry q=>h pins s σ H x y v u Q I rx ry (i x y H Q q)
theorem IxR.imp{X:Cx}{r r':R2}(h:IxR X r)(i:∀ x y H Q,r' x y H Q→r x y H Q):IxR X r':=fun va sl pins s σ H x y v u Q I rx ry q=>h va sl pins s σ H x y v u Q I rx ry (i x y H Q q)
theorem PG.imp{X:Cx}{x:Expr}{t t':TG}(h:PG X x t)(i:∀ v σ H Q,t' v σ H Q→t v σ H Q):PG X x t':=fun pins s σ H v u Q I r q=>h pins s σ H v u Q I r (i v σ H Q q)
theorem PGs.imp{X:Cx}{x:List Expr}{t t':TGs}(h:PGs X x t)(i:∀ v σ H Q,t' v σ H Q→t v σ H Q):PGs X x t':=fun pins s σ H v u Q I r q=>h pins s σ H v u Q I r (i v σ H Q q)
end L2
namespace DL
open PySem PySem.Spec L2
open PyProof.Rows hiding St
inductive D where
 | non|bl (b:Bool)|int (i:Int)|str (x:Str)|ref (a:Addr)|tup (ds:List D)|vl (ds:List D)|ty (n:String)|dic|exc (c:Str)
def KL(K:Lo)(a:Addr)(xs:List V):Prop:=∀ H:Hp,SqL K H a xs
mutual
inductive Has (K:Lo) (H:Hp):V→D→Prop
 | non:Has K H .non .non
 | bl (b:Bool):Has K H (.bl b) (.bl b)
 | int (i:Int):Has K H (.int i) (.int i)
 | str (x:Str):Has K H (.str x) (.str x)
 | ref (a:Addr):Has K H (.ref a) (.ref a)
 | ty (n:String):Has K H (.ty n) (.ty n)
 | tup {a:Addr} {xs:List V} {ds:List D}:SqT K H a xs→HasL K H xs ds→Has K H (.ref a) (.tup ds)
 | vl {a:Addr} {xs:List V} {ds:List D}:((∃ o,H a=some (.frz o (.lst xs)))∨KL K a xs)→HasL K H xs ds→Has K H (.ref a) (.vl ds)
 | dic {a:Addr}:(∃ o:Obj,H a=some (.frz o (.own 0))∧o.cls = .type "dict")→Has K H (.ref a) .dic
 | exc {a:Addr} {c:Str}:(∃(o:Obj) (C:Addr),H a=some (.frz o (.own 0))∧o.cls = .ref C∧PySem.W.nsIn K mainGlobals c=some (some (.ref C)))→Has K H (.ref a) (.exc c)
inductive HasL (K:Lo) (H:Hp):List V→List D→Prop
 | nil:HasL K H [] []
 | cons {v:V} {d:D} {vs:List V} {ds:List D}:Has K H v d→HasL K H vs ds→HasL K H (v :: vs) (d :: ds)
end
structure KT0(H H':Hp):Prop where
 tp:∀ a xs,Rd H a (.tup xs)→Rd H' a (.tup xs)
 fz:∀ a o u,H a=some (.frz o u)→H' a=some (.frz o u)
structure KT(H H':Hp):Prop extends KT0 H H' where
 ex:∀ a φ,H a=some (.ext φ)→H' a=some (.ext φ)
theorem KT.refl(H:Hp):KT H H:=⟨⟨fun _ _ h=>h,fun _ _ _ h=>h⟩,fun _ _ h=>h⟩
theorem KT.trans{H H1 H2:Hp}(a:KT H H1)(b:KT H1 H2):KT H H2:=⟨⟨fun p xs h=>b.tp p xs (a.tp p xs h),fun p o xs h=>b.fz p o xs (a.fz p o xs h)⟩,fun p φ h=>b.ex p φ (a.ex p φ h)⟩
theorem KT0.sq{K:Lo}{H H':Hp}(k:KT0 H H'){a:Addr}{xs:List V}(h:SqT K H a xs):SqT K H' a xs:=h.elim (fun z=>.inl (k.tp a xs z)) .inr
theorem KT.sq{K:Lo}{H H':Hp}(k:KT H H'){a:Addr}{xs:List V}(h:SqT K H a xs):SqT K H' a xs:=k.toKT0.sq h
theorem KT0.at{H:Hp}{p:Addr}{o:HO}(h1:∀ xs,¬ Rd H p (.tup xs))(h2:∀ q u,H p≠some (.frz q u)):KT0 H (upd H p o) where
 tp:=fun a xs r=>by
  have hn:a≠p:=by intro e;subst e;exact h1 xs r
  rcases r with r|⟨q,r⟩
  ·exact .inl (by rw[g8 hn];exact r)
  ·exact .inr ⟨q,by rw[g8 hn];exact r⟩
 fz:=fun a q xs r=>by
  have hn:a≠p:=by intro e;subst e;exact h2 q xs r
  rw[g8 hn];exact r
theorem KT.at{H:Hp}{p:Addr}{o:HO}(h1:∀ xs,¬ Rd H p (.tup xs))(h2:∀ q u,H p≠some (.frz q u))(h3:∀ φ,H p≠some (.ext φ)):KT H (upd H p o):=⟨KT0.at h1 h2,fun a φ r=>by
  have hn:a≠p:=by intro e;subst e;exact h3 φ r
  rw[g8 hn];exact r⟩
theorem KT.alloc{H:Hp}{p:Addr}{o:HO}(h:H p=none):KT H (upd H p o):=KT.at (fun xs r=>by rcases r with r|⟨_,r⟩<;>(rw[h]at r;cases r)) (fun q xs r=>by rw[h]at r;cases r) fun φ r=>by rw[h]at r;cases r
theorem KT.any{H:Hp}{p:Addr}{xs:List V}{o:HO}(h:H p=some (.lst xs)):KT H (upd H p o):=KT.at (fun xs r=>by rcases r with r|⟨_,r⟩<;>(rw[h]at r;cases r)) (fun q xs r=>by rw[h]at r;cases r) fun φ r=>by rw[h]at r;cases r
theorem KT.write{H:Hp}{p:Addr}{xs ys:List V}(h:H p=some (.lst xs)):KT H (upd H p (.lst ys)):=KT.any h
theorem KT0.ext{H:Hp}{p:Addr}{φ:Heap→Prop}{o:HO}(h:H p=some (.ext φ)):KT0 H (upd H p o):=KT0.at (fun xs r=>by rcases r with r|⟨_,r⟩<;>(rw[h]at r;cases r)) fun q xs r=>by rw[h]at r;cases r
theorem KT.new{H H':Hp}{p:Addr}{o:HO}(k:KT H H')(h:H p=none):KT H (upd H' p o) where
 tp:=fun a xs r=>by
  have hn:a≠p:=by intro e;subst e;rcases r with r|⟨_,r⟩<;>(rw[h]at r;cases r)
  rcases k.tp a xs r with r|⟨q,r⟩
  ·exact .inl (by rw[g8 hn];exact r)
  ·exact .inr ⟨q,by rw[g8 hn];exact r⟩
 fz:=fun a q xs r=>by
  have hn:a≠p:=by intro e;subst e;rw[h]at r;cases r
  rw[g8 hn];exact k.fz a q xs r
 ex:=fun a φ r=>by
  have hn:a≠p:=by intro e;subst e;rw[h]at r;cases r
  rw[g8 hn];exact k.ex a φ r
mutual
theorem Has.mono0{K:Lo}{H H':Hp}(k:KT0 H H'):∀{v:V} {d:D},Has K H v d→Has K H' v d
 | _,_,.non=>.non
 | _,_,.bl b=>.bl b
 | _,_,.int i=>.int i
 | _,_,.str x=>.str x
 | _,_,.ref a=>.ref a
 | _,_,.ty n=>.ty n
 | _,_,.tup s l=>.tup (k.sq s) (HasL.mono0 k l)
 | _,_,.vl h l=>.vl (h.elim (fun⟨o,e⟩=>.inl ⟨o,k.fz _ _ _ e⟩) .inr) (HasL.mono0 k l)
 | _,_,.dic h=>.dic (let ⟨o,e,c⟩:=h;⟨o,k.fz _ _ _ e,c⟩)
 | _,_,.exc h=>.exc (let ⟨o,C,e,c⟩:=h;⟨o,C,k.fz _ _ _ e,c⟩)
theorem HasL.mono0{K:Lo}{H H':Hp}(k:KT0 H H'):∀{v:List V} {d:List D},HasL K H v d→HasL K H' v d
 | _,_,.nil=>.nil
 | _,_,.cons a b=>.cons (Has.mono0 k a) (HasL.mono0 k b)
end
theorem Has.mono{K:Lo}{H H':Hp}(k:KT H H'){v:V}{d:D}(h:Has K H v d):Has K H' v d:=h.mono0 k.toKT0
theorem HasL.mono{K:Lo}{H H':Hp}(k:KT H H'){v:List V}{d:List D}(h:HasL K H v d):HasL K H' v d:=h.mono0 k.toKT0
section
variable {K:Lo} {H H':Hp}
theorem HasL.length:∀{vs:List V} {ds:List D},HasL K H vs ds→vs.length=ds.length
 | _,_,.nil=>rfl
 | _,_,.cons _ b=>congrArg Nat.succ (HasL.length b)
theorem HasL.get:∀{vs:List V} {ds:List D} {i:Nat} {d:D},HasL K H vs ds→ds[i]? = some d→∃ v,vs[i]? = some v∧Has K H v d
 | _,_,_,_,.nil,e=>by simp at e
 | _,_,0,_,.cons a _,e=>by simp at e;subst e;exact⟨_,rfl,a⟩
 | _,_,i+1,d,.cons _ b,e=>by
  obtain⟨v,h1,h2⟩:=HasL.get (i:=i) (d:=d) b (by simpa using e)
  exact⟨v,by simpa using h1,h2⟩
theorem HasL.getV:∀{vs:List V} {ds:List D} {i:Nat} {v:V},HasL K H vs ds→vs[i]? = some v→∃ d,ds[i]? = some d∧Has K H v d
 | _,_,_,_,.nil,e=>by simp at e
 | _,_,0,_,.cons a _,e=>by simp at e;subst e;exact⟨_,rfl,a⟩
 | _,_,i+1,d,.cons _ b,e=>by
  obtain⟨v,h1,h2⟩:=HasL.getV (i:=i) (v:=d) b (by simpa using e)
  exact⟨v,by simpa using h1,h2⟩
theorem HasL.set{v:V}{d:D}(r:Has K H v d):∀{vs:List V} {ds:List D} (i:Nat),HasL K H vs ds→HasL K H (vs.set i v) (ds.set i d)
 | _,_,_,.nil=>.nil
 | _,_,0,.cons _ t=>.cons r t
 | _,_,i+1,.cons q t=>.cons q (HasL.set r i t)
theorem HasL.append:∀{xs ys:List V} {us ws:List D},HasL K H xs us→HasL K H ys ws→HasL K H (xs++ys) (us++ws)
 | _,_,_,_,.nil,s=>s
 | _,_,_,_,.cons r t,s=>.cons r (HasL.append t s)
theorem HasL.take:∀{xs:List V} {us:List D} (n:Nat),HasL K H xs us→HasL K H (xs.take n) (us.take n)
 | _,_,0,_=>.nil
 | _,_,_+1,.nil=>.nil
 | _,_,n+1,.cons r t=>.cons r (HasL.take n t)
theorem HasL.drop:∀{xs:List V} {us:List D} (n:Nat),HasL K H xs us→HasL K H (xs.drop n) (us.drop n)
 | _,_,0,r=>r
 | _,_,_+1,.nil=>.nil
 | _,_,n+1,.cons _ t=>HasL.drop n t
theorem HasL.ints:∀(ns:List Int),HasL K H (ns.map V.int) (ns.map D.int)
 | []=>.nil
 | n :: r=>.cons (.int n) (HasL.ints r)
end
inductive MO where
 | lst (ds:List D)
 | ins (c:Str) (fs:List (Str × D))
noncomputable abbrev Mem:=Addr→Option MO
noncomputable def B9(M:Mem)(a:Addr)(o:MO):Mem:=fun b=>if b=a then some o else M b
theorem h8{M:Mem}{a:Addr}{o:MO}:B9 M a o a=some o:=by unfold B9;rw[if_pos rfl]
theorem G1{M:Mem}{a b:Addr}{o:MO}(h:b≠a):B9 M a o b=M b:=by unfold B9;rw[if_neg h]
theorem R8{M:Mem}{a:Addr}{o u:MO}:B9 (B9 M a o) a u=B9 M a u:=by
 funext b;unfold B9;by_cases h:b=a<;>simp[h]
structure oR(K:Lo)(H:Hp)(ys:List (Str × V))(fs:List (Str × D)):Prop where
 names:ys.map (·.1)=fs.map (·.1)
 has:HasL K H (ys.map (·.2)) (fs.map (·.2))
theorem oR.mono{K:Lo}{H H':Hp}(k:KT H H'){ys:List (Str × V)}{fs:List (Str × D)}(h:oR K H ys fs):oR K H' ys fs:=⟨h.names,h.has.mono k⟩
theorem oR.mono0{K:Lo}{H H':Hp}(k:KT0 H H'){ys:List (Str × V)}{fs:List (Str × D)}(h:oR K H ys fs):oR K H' ys fs:=⟨h.names,h.has.mono0 k⟩
noncomputable def MOk(K:Lo)(H:Hp)(a:Addr):MO→Prop
 | .lst ds=>∃ xs,H a=some (.lst xs)∧HasL K H xs ds
 | .ins c fs=>∃ C dx ys,H a=some (.ins C dx ys)∧oR K H ys fs∧PySem.W.nsIn K mainGlobals c=some (some (.ref C))
def m8(K:Lo)(H:Hp)(M:Mem):Prop:=∀ a o,M a=some o→MOk K H a o
section
variable {K:Lo} {H H':Hp} {M:Mem}
theorem m8.fresh(h:m8 K H M){p:Addr}(e:H p=none):M p=none:=by
 cases q:M p with
 | none=>rfl
 | some o =>
  cases o with
  | lst ds=>obtain⟨xs,z,_⟩:=h p _ q;rw[e]at z;cases z
  | ins C fs=>obtain⟨_,dx,ys,z,_⟩:=h p _ q;rw[e]at z;cases z
theorem m8.alloc(h:m8 K H M){p:Addr}{u:HO}(e:H p=none):m8 K (upd H p u) M:=fun a o m=>by
 have k:KT H (upd H p u):=KT.alloc e
 cases o with
 | lst ds =>
  obtain⟨xs,z,l⟩:=h a _ m
  have hn:a≠p:=D5 z e
  exact⟨xs,by rw[g8 hn];exact z,l.mono k⟩
 | ins C fs =>
  obtain⟨C0,dx,ys,z,l,hc⟩:=h a _ m
  have hn:a≠p:=D5 z e
  exact⟨C0,dx,ys,by rw[g8 hn];exact z,l.mono k,hc⟩
theorem m8.new(h:m8 K H M){p:Addr}{xs:List V}{ds:List D}(e:H p=none)(l:HasL K H xs ds):m8 K (upd H p (.lst xs)) (B9 M p (.lst ds)):=fun a o m=>by
 by_cases q:a=p
 ·subst q
  rw[h8]at m;cases m
  exact⟨xs,i8,l.mono (KT.alloc e)⟩
 ·rw[G1 q]at m
  exact h.alloc e a o m
theorem m8.write(h:m8 K H M){p:Addr}{xs ys:List V}{ds:List D}(e:H p=some (.lst xs))(l:HasL K H ys ds):m8 K (upd H p (.lst ys)) (B9 M p (.lst ds)):=fun a o m=>by
 have k:KT H (upd H p (.lst ys)):=KT.write e
 by_cases q:a=p
 ·subst q
  rw[h8]at m;cases m
  exact⟨ys,i8,l.mono k⟩
 ·rw[G1 q]at m
  cases o with
  | lst es =>
   obtain⟨zs,z,l⟩:=h a _ m
   exact⟨zs,by rw[g8 q];exact z,l.mono k⟩
  | ins C fs =>
   obtain⟨C0,dx,zs,z,l,hc⟩:=h a _ m
   exact⟨C0,dx,zs,by rw[g8 q];exact z,l.mono k,hc⟩
theorem m8.lst(h:m8 K H M){a:Addr}{ds:List D}(m:M a=some (.lst ds)):∃ xs,H a=some (.lst xs)∧HasL K H xs ds:=h a _ m
end
noncomputable abbrev Ev:=List (Option D)
structure A2(K:Lo)(H:Hp)(σ:St)(e:Ev):Prop where
 len:σ.length=e.length
 has:∀(i:Nat) (d:D),e[i]? = some (some d)→∃ v,σ[i]? = some (some v)∧Has K H v d
section
variable {K:Lo} {H H':Hp} {σ:St} {e:Ev}
theorem A2.mono(k:KT H H')(h:A2 K H σ e):A2 K H' σ e:=⟨h.len,fun i d z=>let ⟨v,a,b⟩:=h.has i d z;⟨v,a,b.mono k⟩⟩
theorem A2.set(h:A2 K H σ e){v:V}{d:D}(r:Has K H v d)(i:Nat):A2 K H (σ.set i (some v)) (e.set i (some d)):=by
 refine⟨by simp[h.len],fun j x z=>?_⟩
 rw[List.getElem?_set]at z ⊢
 by_cases q:i=j
 ·subst q
  rw[if_pos rfl]at z ⊢
  by_cases l:i<e.length
  ·rw[if_pos l]at z
   rw[if_pos (by rw[h.len];exact l)]
   cases z
   exact⟨v,rfl,r⟩
  ·rw[if_neg l]at z;cases z
 ·rw[if_neg q]at z ⊢
  exact h.has j x z
end
noncomputable def U5(N:List Str)(ds:List D):Ev:=ds.map some++Nc (N.length - ds.length) none
theorem A2.start0{K:Lo}{H:Hp}{N:List Str}{vs:List V}{ds:List D}(h:HasL K H vs ds):A2 K H (L2.start N vs) (U5 N ds):=by
 have hl:=h.length
 refine⟨by simp[L2.start,U5,hl],fun i d z=>?_⟩
 unfold U5 at z
 unfold L2.start
 rw[NV]at z ⊢
 simp only[Lr]at z ⊢
 rw[hl]
 by_cases q:i<ds.length
 ·rw[if_pos q]at z ⊢
  rw[LS]at z ⊢
  cases e:ds[i]? with
  | none=>rw[e]at z;cases z
  | some x =>
   rw[e]at z
   have z':x=d:=by simpa using z
   subst z'
   obtain⟨v,a,b⟩:=h.get e
   exact⟨v,by rw[a];rfl,b⟩
 ·rw[if_neg q]at z
  rw[MD]at z
  split at z<;>cases z
noncomputable abbrev DK:=D→Mem→Prop
noncomputable abbrev DTE:=Ev→Mem→DK→Prop
noncomputable abbrev DTT:=Ev→Mem→(Bool→Mem→Prop)→Prop
noncomputable abbrev DTA:=Ev→Mem→(List D→Mem→Prop)→Prop
structure ba where
 nx:Ev→Mem→Prop
 rt:DK
 bk:Ev→Mem→Prop:=fun _ _=>False
 ct:Ev→Mem→Prop:=fun _ _=>False
noncomputable abbrev DTS:=ba→Ev→Mem→Prop
def fw(K:Lo)(H:Hp)(R:DK)(Q:VK):Prop:=∀ d M',R d M'→∀ v H',KT H H'→m8 K H' M'→Has K H' v d→Q v H'
def xH(K:Lo)(H:Hp)(R:Bool→Mem→Prop)(Q:Bool→Hp→Prop):Prop:=∀ b M',R b M'→∀ H',KT H H'→m8 K H' M'→Q b H'
def AK(K:Lo)(H:Hp)(R:List D→Mem→Prop)(Q:List V→Hp→Prop):Prop:=∀ ds M',R ds M'→∀ vs H',KT H H'→m8 K H' M'→HasL K H' vs ds→Q vs H'
def nk(K:Lo)(H:Hp)(R:Ev→Mem→Prop)(Q:St→Hp→Prop):Prop:=∀ e M',R e M'→∀ σ H',KT H H'→m8 K H' M'→A2 K H' σ e→Q σ H'
structure Fit(K:Lo)(H:Hp)(F:ba)(E:nq):Prop where
 nx:nk K H F.nx E.nx
 rt:fw K H F.rt E.rt
 bk:nk K H F.bk E.bk
 ct:nk K H F.ct E.ct
section
variable {K:Lo} {H H':Hp}
theorem fw.mono{R:DK}{Q:VK}(h:fw K H R Q)(k:KT H H'):fw K H' R Q:=fun d M r v H2 k2 a b=>h d M r v H2 (k.trans k2) a b
theorem xH.mono{R:Bool→Mem→Prop}{Q:Bool→Hp→Prop}(h:xH K H R Q)(k:KT H H'):xH K H' R Q:=fun d M r H2 k2 a=>h d M r H2 (k.trans k2) a
theorem AK.mono{R:List D→Mem→Prop}{Q:List V→Hp→Prop}(h:AK K H R Q)(k:KT H H'):AK K H' R Q:=fun d M r v H2 k2 a b=>h d M r v H2 (k.trans k2) a b
theorem nk.mono{R:Ev→Mem→Prop}{Q:St→Hp→Prop}(h:nk K H R Q)(k:KT H H'):nk K H' R Q:=fun d M r v H2 k2 a b=>h d M r v H2 (k.trans k2) a b
theorem Fit.mono{F:ba}{E:nq}(h:Fit K H F E)(k:KT H H'):Fit K H' F E:=⟨h.nx.mono k,h.rt.mono k,h.bk.mono k,h.ct.mono k⟩
end
def up(K:Lo)(t:DTE):TE:=fun σ H Q=>∃ e M R,A2 K H σ e∧m8 K H M∧t e M R∧fw K H R Q
def upT(K:Lo)(t:DTT):TT:=fun σ H Q=>∃ e M R,A2 K H σ e∧m8 K H M∧t e M R∧xH K H R Q
def upA(K:Lo)(t:DTA):TA:=fun σ H Q=>∃ e M R,A2 K H σ e∧m8 K H M∧t e M R∧AK K H R Q
def upS(K:Lo)(t:DTS):TS:=fun E σ H=>∃ e M F,A2 K H σ e∧m8 K H M∧t F e M∧Fit K H F E
abbrev DPE(X:Cx)(x:Expr)(t:DTE):Prop:=PE X x (up X.K t)
abbrev DPT(X:Cx)(x:Expr)(t:DTT):Prop:=PT X x (upT X.K t)
abbrev DPW(X:Cx)(x:Expr)(t:DTT):Prop:=PW X x (upT X.K t)
abbrev DPA(X:Cx)(x:List Expr)(t:DTA):Prop:=PA X x (upA X.K t)
abbrev DPS(X:Cx)(x:Stmt)(t:DTS):Prop:=PS X x (upS X.K t)
abbrev Iv(X:Cx)(x:List Stmt)(t:DTS):Prop:=PSs X x (upS X.K t)
structure JE(X:Cx)(x:Expr)(t:DTE):Prop where
 out:DPE X x t
structure JT(X:Cx)(x:Expr)(t:DTT):Prop where
 out:DPT X x t
structure JW(X:Cx)(x:Expr)(t:DTT):Prop where
 out:DPW X x t
structure JA(X:Cx)(x:List Expr)(t:DTA):Prop where
 out:DPA X x t
structure JS(X:Cx)(x:Stmt)(t:DTS):Prop where
 out:DPS X x t
structure JSs(X:Cx)(x:List Stmt)(t:DTS):Prop where
 out:Iv X x t
section
variable {X:Cx} {a b c:Expr} {ta tb tc:DTE} {pos:Pos}
def W9(i:Nat):DTE:=fun e M R=>∃ d,e[i]? = some (some d)∧R d M
def dC(d:D):DTE:=fun _ M R=>R d M
theorem d4(i:Nat){x:Str}{pos:Pos}(hN:X.N[i]? = some x:=by rfl)(hv:Vis X.env.scope x:=by first|exact Or.inl rfl|exact Or.inr (Or.inl rfl)|exact Or.inr (Or.inr rfl))(hd:(x == ("__debug__" : Str))=false:=by decide)
  (hcd:(x == ("__classdict__" : Str))=false:=by decide):JE X (.Name x pos) (W9 i):=⟨(Dz hN hv hd hcd).imp (by
  rintro σ H Q ⟨e,M,R,ok,am,⟨d,z,r⟩,f⟩
  obtain⟨v,h1,h2⟩:=ok.has i d z
  exact⟨v,h1,f d M r v H (KT.refl H) am h2⟩)⟩
theorem W5{v:V}{d:D}(h:PE X a (tC v))(r:∀ H,Has X.K H v d):DPE X a (dC d) :=
 h.imp (by rintro σ H Q ⟨e,M,R,ok,am,z,f⟩;exact f d M z v H (KT.refl H) am (r H))
theorem d6{i j pos}:JE X (.Constant (.int i) j pos) (dC (.int i)):=⟨W5 DF fun _=>.int i⟩
theorem bU{b j pos}:JE X (.Constant (.bool b) j pos) (dC (.bl b)):=⟨W5 FW fun _=>.bl b⟩
theorem Z8{j pos}:JE X (.Constant .none j pos) (dC .non):=⟨W5 DE fun _=>.non⟩
theorem A8{x j pos}:JE X (.Constant (.str x) j pos) (dC (.str x)):=⟨W5 DB fun _=>.str x⟩
def Hs(K:Lo)(v:V)(d:D):Prop:=∀ H,Has K H v d
theorem Eo{x:Str}{v:V}{d:D}{u:Value}{pos:Pos}(hg:Gl X x)(hm:X.mg x=some u)(r:j7 v u)(hk:Hs X.K v d)(hd:(x == ("__debug__" : Str))=false:=by decide):DPE X (.Name x pos) (dC d) :=
 W5 (zw hg hm r hd) hk
noncomputable abbrev DR2:=D→D→Mem→DK→Prop
def upR(K:Lo)(g:DR2):R2:=fun x y H Q=>∃ dx dy M R,Has K H x dx∧Has K H y dy∧m8 K H M∧g dx dy M R∧fw K H R Q
def DOp(X:Cx)(f:Value→Value→Sem Value)(g:DR2):Prop:=OpR X f (upR X.K g)
def dOp(g:DR2)(ta tb:DTE):DTE:=fun e M R=>ta e M fun x M1=>tb e M1 fun y M2=>g x y M2 R
theorem iC{ta tb:DTE}{g:DR2}{σ:St}{H:Hp}{Q:VK}(h:up X.K (dOp g ta tb) σ H Q):tOp (upR X.K g) (up X.K ta) (up X.K tb) σ H Q:=by
 obtain⟨e,M,R,ok,am,t,f⟩:=h
 refine⟨e,M,_,ok,am,t,fun x M1 h1 v H1 k1 a1 r1=>?_⟩
 refine⟨e,M1,_,ok.mono k1,a1,h1,fun y M2 h2 u H2 k2 a2 r2=>?_⟩
 exact⟨x,y,M2,R,r1.mono k2,r2,a2,h2,f.mono (k1.trans k2)⟩
theorem e8{op:Operator}{g:DR2}(ho:DOp X (binaryOp op) g)(ha:JE X a ta)(hb:JE X b tb):JE X (.BinOp a op b pos) (dOp g ta tb):=⟨have ha:=ha.out;have hb:=hb.out;(BI ho ha hb).imp fun _ _ _ h=>iC h⟩
theorem Ef{op:CmpOp}{g:DR2}(ho:DOp X (compareOp op) g)(ha:JE X a ta)(hb:JE X b tb)(hm:behindInMarks op b=false):JE X (.Compare a [op] [b] pos) (dOp g ta tb):=⟨have ha:=ha.out;have hb:=hb.out;(zy ho ha hb hm).imp fun _ _ _ h=>iC h⟩
def qV(t:DTE):DTT:=fun e M R=>t e M fun x M'=>∃ k,x = .bl k∧R k M'
theorem lF{K:Lo}{H:Hp}{R:Bool→Mem→Prop}{Q:Bool→Hp→Prop}(f:xH K H R Q):fw K H (fun x M'=>∃ k,x = .bl k∧R k M') (fun x H'=>∃ k,x = .bl k∧Q k H'):=by
 rintro d M' ⟨k,rfl,r⟩ v H' kt am h
 cases h
 exact⟨k,rfl,f k M' r H' kt am⟩
theorem Ag{op:CmpOp}{g:DR2}(ho:DOp X (compareOp op) g)(ha:JE X a ta)(hb:JE X b tb)(hm:behindInMarks op b=false):JT X (.Compare a [op] [b] pos) (qV (dOp g ta tb)):=⟨have ha:=ha.out;have hb:=hb.out;(zj ho ha hb hm).imp (by rintro σ H Q ⟨e,M,R,ok,am,t,f⟩;exact iC (Q:=fun x H'=>∃ k,x = .bl k∧Q k H') ⟨e,M,_,ok,am,t,lF f⟩)⟩
theorem Q4{x:Expr}{t:DTE}(h:JE X x t)(he:∀ whole,isTrue x X.env whole=(do let v ← whole;standAt x.pos;holding [v] (truthy v)):=by intro _;rfl):JT X x (qV t):=⟨have h:=h.out;(Dn h he).imp (by rintro σ H Q ⟨e,M,R,ok,am,t,f⟩;exact⟨e,M,_,ok,am,t,lF f⟩)⟩
noncomputable def fI(f:Int→Int→D):D→D→Option D
 | .int i,.int j=>some (f i j)
 | _,_=>none
def gF(f:D→D→Option D):DR2:=fun x y M R=>∃ z,f x y=some z∧R z M
def gI(C:Int→Int→Prop)(f:Int→Int→D):DR2:=fun x y M R=>∃ i j,x = .int i∧y = .int j∧C i j∧R (f i j) M
theorem jY{f:Int→Int→D}{x y z:D}(h:fI f x y=some z):∃ i j,x = .int i∧y = .int j∧z=f i j:=by
 cases x with
 | int i =>
  cases y with
  | int j=>exact⟨i,j,rfl,rfl,(Option.some.inj h).symm⟩
  | _=>cases h
 | _=>cases h
theorem qR{f:Value→Value→Sem Value}{C:Int→Int→Prop}{g:Int→Int→V}{g':Int→Int→D}(h:OpR X f (rI C g))(hg:∀ i j H,Has X.K H (g i j) (g' i j)):DOp X f (gI C g') :=
 OpR.imp h (by
  rintro x y H Q ⟨dx,dy,M,R,hx,hy,am,⟨i,j,e1,e2,hc,r⟩,f⟩
  subst e1;subst e2
  cases hx;cases hy
  exact⟨i,j,rfl,rfl,hc,f _ M r _ H (KT.refl H) am (hg i j H)⟩)
theorem bE{f:Value→Value→Sem Value}{g:Int→Int→V}{g':Int→Int→D}(h:OpR X f (rI0 g))(hg:∀ i j H,Has X.K H (g i j) (g' i j)):DOp X f (gF (fI g')) :=
 OpR.imp h (by
  rintro x y H Q ⟨dx,dy,M,R,hx,hy,am,⟨z,e,r⟩,f⟩
  obtain⟨i,j,e1,e2,e3⟩:=jY e
  subst e1;subst e2;subst e3
  cases hx;cases hy
  exact⟨i,j,rfl,rfl,f _ M r _ H (KT.refl H) am (hg i j H)⟩)
theorem B1:DOp X (binaryOp .Add) (gF (fI fun i j=>.int (i+j))):=bE DP fun _ _ _=>.int _
theorem F5:DOp X (binaryOp .Sub) (gF (fI fun i j=>.int (i - j))):=bE DM fun _ _ _=>.int _
theorem aM:DOp X (compareOp .Lt) (gF (fI fun i j=>.bl (decide (i<j)))):=bE FY fun _ _ _=>.bl _
theorem HS:DOp X (compareOp .LtE) (gF (fI fun i j=>.bl (decide (i≤j)))):=bE FZ fun _ _ _=>.bl _
theorem eU:DOp X (compareOp .Gt) (gF (fI fun i j=>.bl (decide (j<i)))):=bE Ga fun _ _ _=>.bl _
theorem HV:DOp X (compareOp .GtE) (gF (fI fun i j=>.bl (decide (j≤i)))):=bE Gb fun _ _ _=>.bl _
theorem R4:DOp X (binaryOp .Mod) (gI (fun _ j=>0<j) fun i j=>.int (i % j)):=qR DO fun _ _ _=>.int _
theorem qB:DOp X (binaryOp .Pow) (gI xO fun i j=>.int (i ^ j.toNat)):=qR DN fun _ _ _=>.int _
noncomputable def gU(f:Int→D):D→Mem→DK→Prop:=fun x M R=>∃ i,x = .int i∧R (f i) M
def dUn(g:D→Mem→DK→Prop)(ta:DTE):DTE:=fun e M R=>ta e M fun x M1=>g x M1 R
theorem U4(ha:JE X a ta):JE X (.UnaryOp .USub a pos) (dUn (gU fun i=>.int (-i)) ta):=⟨have ha:=ha.out;(FR CI ha).imp (by rintro σ H Q ⟨e,M,R,ok,am,t,f⟩;exact⟨e,M,_,ok,am,t,fun x M1 ⟨i,z,r⟩ v H1 k1 a1 r1=>by
  subst z;cases r1;exact⟨i,rfl,f _ M1 r _ H1 k1 a1 (.int _)⟩⟩)⟩
variable {tA tB':DTT} {E4:List Expr}
def Hb(t u:DTT):DTT:=fun e M R=>t e M fun c M1=>if c=true then u e M1 R else R false M1
def dOr(t u:DTT):DTT:=fun e M R=>t e M fun c M1=>if c=true then R true M1 else u e M1 R
def GV(t:DTT):DTT:=fun e M R=>t e M fun c M1=>R (!c) M1
theorem J6(ha:JT X a tA):JW X (.BoolOp .And [a] pos) tA:=⟨have ha:=ha.out;zi ha⟩
theorem fc(ha:JT X a tA):JW X (.BoolOp .Or [a] pos) tA:=⟨have ha:=ha.out;Dj ha⟩
theorem Q5(ha:JT X a tA)(hb:JW X (.BoolOp .And (b :: E4) pos) tB'):JW X (.BoolOp .And (a :: b :: E4) pos) (Hb tA tB'):=⟨have ha:=ha.out;have hb:=hb.out;(Dk ha hb).imp (by rintro σ H Q ⟨e,M,R,ok,am,t,f⟩;exact⟨e,M,_,ok,am,t,fun k M1 h1 H1 k1 a1=>by
  cases k with
  | true=>exact⟨e,M1,R,ok.mono k1,a1,h1,f.mono k1⟩
  | false=>exact f false M1 h1 H1 k1 a1⟩)⟩
theorem gZ(ha:JT X a tA)(hb:JW X (.BoolOp .Or (b :: E4) pos) tB'):JW X (.BoolOp .Or (a :: b :: E4) pos) (dOr tA tB'):=⟨have ha:=ha.out;have hb:=hb.out;(FP ha hb).imp (by rintro σ H Q ⟨e,M,R,ok,am,t,f⟩;exact⟨e,M,_,ok,am,t,fun k M1 h1 H1 k1 a1=>by
  cases k with
  | true=>exact f true M1 h1 H1 k1 a1
  | false=>exact⟨e,M1,R,ok.mono k1,a1,h1,f.mono k1⟩⟩)⟩
theorem jV(ha:JT X a tA):JT X (.UnaryOp .Not a pos) (GV tA):=⟨have ha:=ha.out;(Dp ha).imp (by rintro σ H Q ⟨e,M,R,ok,am,t,f⟩;exact⟨e,M,_,ok,am,t,fun k M1 h1 H1 k1 a1=>f (!k) M1 h1 H1 k1 a1⟩)⟩
theorem L6{x:Expr}{t:DTT}(h:JW X x t):JT X x t:=⟨have h:=h.out;PW.pt h⟩
def Cb(ta tb:DTE):DTE:=fun e M R=>ta e M fun x M1=>∃ c,x = .bl c∧if c=true then tb e M1 R else R (.bl false) M1
def GU(ta tb:DTE):DTE:=fun e M R=>ta e M fun x M1=>∃ c,x = .bl c∧if c=true then R (.bl true) M1 else tb e M1 R
def BW(ta:DTE):DTE:=fun e M R=>ta e M fun x M1=>∃ c,x = .bl c∧R (.bl (!c)) M1
theorem cX{op}{t:DTE}(h:JE X a t):JE X (.BoolOp op [a] pos) t:=⟨have h:=h.out;DC h⟩
theorem jU(ha:JE X a ta)(hb:JE X (.BoolOp .And (b :: E4) pos) tb):JE X (.BoolOp .And (a :: b :: E4) pos) (Cb ta tb):=⟨have ha:=ha.out;have hb:=hb.out;(DH ha hb).imp (by rintro σ H Q ⟨e,M,R,ok,am,t,f⟩;exact⟨e,M,_,ok,am,t,fun x M1 ⟨k,z,h1⟩ v H1 k1 a1 r1=>by
  subst z;cases r1
  refine⟨k,rfl,?_⟩
  cases k with
  | true=>exact⟨e,M1,R,ok.mono k1,a1,h1,f.mono k1⟩
  | false=>exact f _ M1 h1 _ H1 k1 a1 (.bl _)⟩)⟩
theorem Ee(ha:JE X a ta)(hb:JE X (.BoolOp .Or (b :: E4) pos) tb):JE X (.BoolOp .Or (a :: b :: E4) pos) (GU ta tb):=⟨have ha:=ha.out;have hb:=hb.out;(FT ha hb).imp (by rintro σ H Q ⟨e,M,R,ok,am,t,f⟩;exact⟨e,M,_,ok,am,t,fun x M1 ⟨k,z,h1⟩ v H1 k1 a1 r1=>by
  subst z;cases r1
  refine⟨k,rfl,?_⟩
  cases k with
  | true=>exact f _ M1 h1 _ H1 k1 a1 (.bl _)
  | false=>exact⟨e,M1,R,ok.mono k1,a1,h1,f.mono k1⟩⟩)⟩
theorem jT(ha:JE X a ta):JE X (.UnaryOp .Not a pos) (BW ta):=⟨have ha:=ha.out;(DD ha).imp (by rintro σ H Q ⟨e,M,R,ok,am,t,f⟩;exact⟨e,M,_,ok,am,t,fun x M1 ⟨k,z,h1⟩ v H1 k1 a1 r1=>by
  subst z;cases r1
  exact⟨k,rfl,f _ M1 h1 _ H1 k1 a1 (.bl _)⟩⟩)⟩
def dIf(t:DTT)(ta tb:DTE):DTE:=fun e M R=>t e M fun c M1=>if c=true then ta e M1 R else tb e M1 R
theorem ff(hc:JT X c tA)(ha:JE X a ta)(hb:JE X b tb):JE X (.IfExp c a b pos) (dIf tA ta tb):=⟨have hc:=hc.out;have ha:=ha.out;have hb:=hb.out;(vQ hc ha hb).imp (by rintro σ H Q ⟨e,M,R,ok,am,t,f⟩;exact⟨e,M,_,ok,am,t,fun k M1 h1 H1 k1 a1=>by
  cases k with
  | true=>exact⟨e,M1,R,ok.mono k1,a1,h1,f.mono k1⟩
  | false=>exact⟨e,M1,R,ok.mono k1,a1,h1,f.mono k1⟩⟩)⟩
def Es:DTA:=fun _ M R=>R [] M
def qX(ta:DTE)(tr:DTA):DTA:=fun e M R=>ta e M fun x M1=>tr e M1 fun xs M2=>R (x :: xs) M2
variable {es:List Expr} {tr:DTA}
theorem d5:JA X [] Es:=⟨DI.imp (by rintro σ H Q ⟨e,M,R,ok,am,t,f⟩;exact f [] M t [] H (KT.refl H) am .nil)⟩
theorem a9(ha:JE X a ta)(hr:JA X es tr)(hs:starEach (a :: es) X.env=(false,eval a X.env) :: starEach es X.env:=by rfl):JA X (a :: es) (qX ta tr):=⟨have ha:=ha.out;have hr:=hr.out;(zH ha hr hs).imp (by rintro σ H Q ⟨e,M,R,ok,am,t,f⟩;exact⟨e,M,_,ok,am,t,fun x M1 h1 v H1 k1 a1 r1 =>
  ⟨e,M1,_,ok.mono k1,a1,h1,fun xs M2 h2 vs H2 k2 a2 r2=>f _ M2 h2 _ H2 (k1.trans k2) a2 (.cons (r1.mono k2) r2)⟩⟩)⟩
def GP(t:DTA):DTE:=fun e M R=>t e M fun ds M1=>ds.length≤sizeLine∧R (.tup ds) M1
def GW(t:DTA):DTE:=fun e M R=>t e M fun ds M1=>ds.length≤sizeLine∧∀ p,M1 p=none→R (.ref p) (B9 M1 p (.lst ds))
theorem f9{x1}(h:JA X es tr):JE X (.Tuple es x1 pos) (GP tr):=⟨have h:=h.out;(DA h).imp (by rintro σ H Q ⟨e,M,R,ok,am,t,f⟩;exact⟨e,M,_,ok,am,t,fun ds M1 ⟨hz,h1⟩ vs H1 k1 a1 r1=>by
  refine⟨by rw[r1.length];exact hz,fun p hp=>?_⟩
  have k2:KT H1 (upd H1 p (.tup vs)):=KT.alloc hp
  exact f _ M1 h1 _ _ (k1.trans k2) (a1.alloc hp) (.tup (SqT.of i8) (r1.mono k2))⟩)⟩
theorem fe(h:JA X es tr):JE X (.List es pos) (GW tr):=⟨have h:=h.out;(vP h).imp (by rintro σ H Q ⟨e,M,R,ok,am,t,f⟩;exact⟨e,M,_,ok,am,t,fun ds M1 ⟨hz,h1⟩ vs H1 k1 a1 r1=>by
  refine⟨by rw[r1.length];exact hz,fun p hp=>?_⟩
  have k2:KT H1 (upd H1 p (.lst vs)):=KT.alloc hp
  exact f _ _ (h1 p (a1.fresh hp)) _ _ (k1.trans k2) (a1.new hp r1) (.ref p)⟩)⟩
theorem HasL.at{K:Lo}{H:Hp}{vs:List V}{ds:List D}(h:HasL K H vs ds){i:Int}{z:D}(e:atI ds i=some z):∃ v,atI vs i=some v∧Has K H v z:=by
 unfold atI at e ⊢
 rw[h.length]
 cases q:ixN ds.length i with
 | none=>rw[q]at e;cases e
 | some j =>
  rw[q]at e
  exact h.get e
def DIx(X:Cx)(g:DR2):Prop:=IxR X (upR X.K g)
theorem Gr{g:DR2}(hr:DIx X g)(ha:JE X a ta)(hb:JE X b tb)(hs:kC b):JE X (.Subscript a b pos) (dOp g ta tb):=⟨have ha:=ha.out;have hb:=hb.out;(FU hr ha hb hs).imp fun _ _ _ h=>iC h⟩
noncomputable abbrev DXK:=Value→Mem→Prop
noncomputable abbrev DSp:=List D→Mem→DK→DXK→Prop
def EI(K:Lo)(H:Hp)(Y:DXK)(E:XK):Prop:=∀ c M',Y c M'→∀ o H',KT H H'→m8 K H' M'→E c o H'
noncomputable def lE(K:Lo)(sp:DSp):Sp:=fun vs H Q E=>∃ ds M R Y,HasL K H vs ds∧m8 K H M∧sp ds M R Y∧fw K H R Q∧EI K H Y E
def mR(sp:DSp)(dds:List D)(Y:DXK)(t:DTA):DTE:=fun e M R=>t e M fun ds M1=>sp (ds++dds) M1 R Y
end
section
variable {X:Cx} {CX:CXT} {k:Nat} {f C:Addr} {fd:FuncData} {ps:List Str} {sp:DSp} {dvs:List V} {dds:List D} {ds:List Value} {E:XK} {Y:DXK} {x m:Str} {p pos apos:Pos} {e o:Expr} {es:List Expr} {t:DTA}
theorem Ep(F:R7 X.prog X.w X.K X.mg X.base CX k f fd ps (lE X.K sp))(hr:J1 k X.A)(hg:Gl X x)(hm:X.mg x=some (.ref f))(hk:PySem.W.keepIn X.K (.ref f)=true)(hb:fD X.K fd ps ds)(hd:i7 dvs ds)(hdd:∀ H,HasL X.K H dvs dds)(hx:kD CX X E)(hY:∀ H,EI X.K H Y E)
  (ha:DPA X (e :: es) t) (hdb:(x == ("__debug__" : Str))=false:=by decide) (he:starEach (e :: es) X.env=(false,eval e X.env) :: starEach es X.env:=by rfl) (hpl:(backTo pos (starEach es X.env)).any (·.1)=false:=by rfl) :
  DPE X (.Call (.Name x p) (e :: es) [] pos) (mR sp dds Y t) :=
 (zF F hr hg hm hk hb hd hx ha hdb he hpl).imp (by rintro σ H Q ⟨e,M,R,ok,am,t,f⟩;exact⟨e,M,_,ok,am,t,fun xs M1 h1 vs H1 k1 a1 r1 =>
  ⟨xs++dds,M1,R,Y,r1.append (hdd H1),a1,h1,f.mono k1,hY H1⟩⟩)
end
section
variable {X:Cx} {st:Stmt} {E4:List Stmt} {t u:DTS} {e:Expr} {te:DTE} {pos:Pos}
def BX:DTS:=fun F e M=>F.nx e M
def GR(t u:DTS):DTS:=fun F e M=>t { F with nx:=u F } e M
theorem g6:JSs X [] BX:=⟨zl.imp (by rintro E σ H ⟨e,M,F,ok,am,t,f⟩;exact f.nx e M t σ H (KT.refl H) am ok)⟩
theorem d7(h1:JS X st t)(h2:JSs X E4 u):JSs X (st :: E4) (GR t u):=⟨have h1:=h1.out;have h2:=h2.out;(me h1 h2).imp (by rintro E σ H ⟨e,M,F,ok,am,t,f⟩;exact⟨e,M,{ F with nx:=u F },ok,am,t,⟨fun e' M' h σ' H' k a o=>⟨e',M',F,o,a,h,f.mono k⟩,f.rt,f.bk,f.ct⟩⟩)⟩
theorem d8(h1:JS X st t):JSs X [st] t:=⟨have h1:=h1.out;zk h1⟩
def BZ(te:DTE):DTS:=fun F e M=>te e M fun _ M1=>F.nx e M1
theorem U0(he:JE X e te)(hs:swapsWith e none pos.line X.env=pure false:=by rfl):JS X (.Expr e pos) (BZ te):=⟨have he:=he.out;(zo he hs).imp (by rintro E σ H ⟨e,M,F,ok,am,t,f⟩;exact⟨e,M,_,ok,am,t,fun d M1 h1 v H1 k1 a1 r1=>f.nx e M1 h1 σ H1 k1 a1 (ok.mono k1)⟩)⟩
def Er(te:DTE):DTS:=fun F e M=>te e M F.rt
theorem d9(he:JE X e te):JS X (.Return (some e) pos) (Er te):=⟨have he:=he.out;(Dr he).imp (by rintro E σ H ⟨e,M,F,ok,am,t,f⟩;exact⟨e,M,_,ok,am,t,f.rt⟩)⟩
def GX(c:DTT)(t u:DTS):DTS:=fun F e M=>c e M fun b M1=>if b=true then t F e M1 else u F e M1
theorem i0{c:Expr}{a b:List Stmt}{tc:DTT}(hc:JT X c tc)(ha:JSs X a t)(hb:JSs X b u):JS X (.If c a b pos) (GX tc t u):=⟨have hc:=hc.out;have ha:=ha.out;have hb:=hb.out;(FQ hc ha hb).imp (by rintro E σ H ⟨e,M,F,ok,am,t,f⟩;exact⟨e,M,_,ok,am,t,fun k M1 h1 H1 k1 a1=>by
  cases k with
  | true=>exact⟨e,M1,F,ok.mono k1,a1,h1,f.mono k1⟩
  | false=>exact⟨e,M1,F,ok.mono k1,a1,h1,f.mono k1⟩⟩)⟩
def xl:DTS:=fun _ _ _=>False
theorem sF:JS X st xl:=⟨vK.imp (by rintro E σ H ⟨_,_,_,_,_,t,_⟩;exact t)⟩
noncomputable abbrev DTG:=D→Ev→Mem→(Ev→Mem→Prop)→Prop
noncomputable abbrev U9:=List D→Ev→Mem→(Ev→Mem→Prop)→Prop
def upG(K:Lo)(g:DTG):TG:=fun v σ H Q=>∃ d e M R,Has K H v d∧A2 K H σ e∧m8 K H M∧g d e M R∧nk K H R Q
def Hv(K:Lo)(g:U9):TGs:=fun vs σ H Q=>∃ ds e M R,HasL K H vs ds∧A2 K H σ e∧m8 K H M∧g ds e M R∧nk K H R Q
abbrev DPG(X:Cx)(x:Expr)(g:DTG):Prop:=PG X x (upG X.K g)
abbrev Iw(X:Cx)(x:List Expr)(g:U9):Prop:=PGs X x (Hv X.K g)
structure JG(X:Cx)(x:Expr)(g:DTG):Prop where
 out:DPG X x g
structure JGs(X:Cx)(x:List Expr)(g:U9):Prop where
 out:Iw X x g
def bF(i:Nat):DTG:=fun d e M R=>R (e.set i (some d)) M
theorem wF{i:Nat}{x:Str}(hN:X.N.Nodup)(hi:X.N[i]? = some x)(hx:Loc X.env.scope x)(hf:X.fn x=true∨X.env.scope.names.lookup x=some .local:=by first|exact .inl rfl|exact .inr rfl|assumption):JG X (.Name x pos) (bF i):=⟨PG.imp (zv hN hi hx hf) (by rintro v σ H Q ⟨d,e,M,R,r,ok,am,g,f⟩;exact f _ M g _ H (KT.refl H) am (ok.set r i))⟩
def BS:U9:=fun ds e M R=>ds=[]∧R e M
def xj(t:DTG)(u:U9):U9:=fun ds e M R=>∃ d r,ds=d :: r∧t d e M fun e' M'=>u r e' M' R
theorem j0:JGs X [] BS:=⟨PGs.imp zt (by
 rintro v σ H Q ⟨ds,e,M,R,r,ok,am,⟨z,g⟩,f⟩
 subst z;cases r;exact⟨rfl,f e M g σ H (KT.refl H) am ok⟩)⟩
end
section
variable {X:Cx} {st:Stmt} {E4:List Stmt} {t u:DTS} {e:Expr} {te:DTE} {pos:Pos}
theorem e9{x:Expr}{xs:List Expr}{t:DTG}{u:U9}(h1:JG X x t)(h2:JGs X xs u)
  (hs:(assignEach (x :: xs) X.env).map (·.2)=assign x X.env :: (assignEach xs X.env).map (·.2):=by rfl):JGs X (x :: xs) (xj t u):=⟨have h1:=h1.out;have h2:=h2.out;PGs.imp (vO h1 h2 hs) (by
  rintro vs σ H Q ⟨ds,e,M,R,r,ok,am,⟨d,dr,z,g⟩,f⟩
  subst z
  cases r with
  | cons r rr=>exact⟨_,_,rfl,d,e,M,_,r,ok,am,g,fun e1 M1 h1 σ1 H1 k1 a1 ok1=>⟨dr,e1,M1,R,rr.mono k1,ok1,a1,h1,f.mono k1⟩⟩)⟩
def mQ(n:Nat)(t:U9):DTG:=fun d e M R=>∃ ds,d = .tup ds∧ds.length=n∧t ds e M R
theorem p9{xs:List Expr}{k:Nat}{t:U9}{n:Nat}(hc:X.calm=true)(h:JGs X xs t)
  (hn:(assignEach xs X.env).length=n:=by rfl) (hst:(assignEach xs X.env).findIdx? (·.1)=none:=by rfl):JG X (.Tuple xs k pos) (mQ n t):=⟨have h:=h.out;PG.imp (Dx hc h hn hst) (by
  rintro v σ H Q ⟨d,e,M,R,r,ok,am,⟨ds,z,hl,g⟩,f⟩
  subst z
  cases r with
  | tup s l=>exact⟨_,_,rfl,s,by rw[l.length];exact hl,ds,e,M,R,l,ok,am,g,f⟩)⟩
noncomputable abbrev xK:=D→D→D→Mem→(Mem→Prop)→Prop
noncomputable def BM:xK:=fun o i v M R=>∃ p ds k j,o = .ref p∧i = .int k∧M p=some (.lst ds)∧ixN ds.length k=some j∧R (B9 M p (.lst (ds.set j v)))
def BR(to ti:DTE)(t:xK):DTG:=fun d e M R=>to e M fun o M1=>ti e M1 fun i M2=>t o i d M2 fun M3=>R e M3
theorem jS{o i:Expr}{to ti:DTE}(ho:JE X o to)(hi:JE X i ti)
  (ha:∀ v,assign (.Subscript o i pos) X.env v=(do
   let ov ← holding [v] (eval o X.env)
   let iv ← holding [v,ov] (eval i X.env)
   standAt pos
   holding [v,ov,iv] (setItem ov iv v)
   release [v,ov,iv] []):=by intro _;rfl):JG X (.Subscript o i pos) (BR to ti BM):=⟨have ho:=ho.out;have hi:=hi.out;PG.imp (Dy ho hi uY ha) fun v σ H Q ⟨d,e,M,R,r,ok,am,g,f⟩ =>
  ⟨e,M,_,ok,am,g,fun x M1 h1 vo H1 k1 a1 r1=>⟨e,M1,_,ok.mono k1,a1,h1,fun y M2 ⟨p,ds,k,j,e1,e2,e3,e4,h2⟩ vi H2 k2 a2 r2=>by
   subst e1;subst e2
   cases r1;cases r2
   obtain⟨xs,hx,l⟩:=a2.lst e3
   have kt:KT H H2:=k1.trans k2
   have kw:KT H2 (upd H2 p (.lst (xs.set j v))):=KT.write hx
   exact⟨p,xs,k,j,rfl,rfl,hx,by rw[l.length];exact e4,f e _ h2 σ _ (kt.trans kw) (a2.write hx (l.set (r.mono kt) j)) ((ok.mono kt).mono kw)⟩⟩⟩⟩
def xo(te:DTE)(g:DTG):DTS:=fun F e M=>te e M fun x M1=>g x e M1 F.nx
theorem v8{tg x:Expr}{tx:DTE}{g:DTG}(he:JE X x tx)(hg:JG X tg g)(hs:swapsWithSole [tg] x pos.line X.env=pure false:=by rfl)(hw:swappedStores [tg] x X.env=pure none:=by rfl)
  (h1:(assignEach [tg] X.env).map (·.2)=[assign tg X.env]:=by rfl):JS X (.Assign [tg] x pos) (xo tx g):=⟨have he:=he.out;have hg:=hg.out;(Du he hg hs hw h1).imp (by rintro E σ H ⟨e,M,F,ok,am,t,f⟩;exact⟨e,M,_,ok,am,t,fun d M1 h1 v H1 k1 a1 r1=>⟨d,e,M1,F.nx,r1,ok.mono k1,a1,h1,f.nx.mono k1⟩⟩)⟩
theorem Af{i:Nat}{x:Str}{tx:DTE}{pos':Pos}(hN:X.N.Nodup)(hi:X.N[i]? = some x)(hx:Loc X.env.scope x)(he:JE X e tx)(hs:swapsWith e (some (.Name x pos')) pos.line X.env=pure false:=by rfl)(hf:X.fn x=true∨X.env.scope.names.lookup x=some .local:=by first|exact .inl rfl|exact .inr rfl|assumption):JS X (.Assign [.Name x pos'] e pos) (xo tx (bF i)):=⟨have he:=he.out;(Dq hN hi hx he hs hf).imp (by rintro E σ H ⟨e,M,F,ok,am,t,f⟩;exact⟨e,M,_,ok,am,t,fun d M1 h1 v H1 k1 a1 r1=>f.nx _ M1 h1 _ H1 k1 a1 ((ok.mono k1).set r1 i)⟩)⟩
def GS(i j:Nat)(ta:DTA):DTS:=fun F e M=>ta e M fun ds M1=>∃ x y,ds=[x,y]∧F.nx ((e.set i (some x)).set j (some y)) M1
theorem W3{i j:Nat}{x y:Str}{a b:Expr}{ta:DTA}{px py pt:Pos}{kt k2 pt2}(hc:X.calm=true)(hN:X.N.Nodup)(hi:X.N[i]? = some x)(hj:X.N[j]? = some y)(hij:i≠j)
  (hx:X.env.scope.names.lookup x=some .local) (hy:X.env.scope.names.lookup y=some .local) (ha:JA X [a,b] ta)
  (hw:swappedStores [.Tuple [.Name x px,.Name y py] kt pt] (.Tuple [a,b] k2 pt2) X.env=pure (some [x,y]):=by rfl)
  (hs:swapsWithSole [.Tuple [.Name x px,.Name y py] kt pt] (.Tuple [a,b] k2 pt2) pos.line X.env=pure false:=by rfl):JS X (.Assign [.Tuple [.Name x px,.Name y py] kt pt] (.Tuple [a,b] k2 pt2) pos) (GS i j ta):=⟨have ha:=ha.out;(Ds hc hN hi hj hij hx hy ha hw hs).imp (by rintro E σ H ⟨e,M,F,ok,am,t,f⟩;exact⟨e,M,_,ok,am,t,fun ds M1 ⟨x,y,z,h1⟩ vs H1 k1 a1 r1=>by
  subst z
  cases r1 with
  | cons r1 rr =>
   cases rr with
   | cons r2 rr =>
    cases rr
    exact⟨_,_,rfl,f.nx _ M1 h1 _ H1 k1 a1 (((ok.mono k1).set r1 i).set r2 j)⟩⟩)⟩
def xk(c:DTT)(tb:DTS):DTS:=fun F e M=>∃ W:Nat→Ev→Mem→Prop,(∃ m,W m e M)∧∀ m e M,W m e M →
 c e M fun b M1=>if b=true then tb { F with nx:=fun e' M'=>∃ m',m'<m∧W m' e' M',ct:=fun e' M'=>∃ m',m'<m∧W m' e' M',bk:=F.nx } e M1 else F.nx e M1
theorem bB{c:Expr}{body:List Stmt}{tc:DTT}{tb:DTS}(hp:PassesOwn (model X.prog X.w) X.A X.env X.xe)(hc:JT X c tc)(hb:JSs X body tb):JS X (.While c body [] pos) (xk tc tb):=⟨have hc:=hc.out;have hb:=hb.out;(vJ hp hc hb).imp (by
  rintro E σ H ⟨e,M,F,ok,am,⟨W,⟨m0,w0⟩,turn⟩,f⟩
  refine⟨fun m σ' H'=>∃ e' M',KT H H'∧A2 X.K H' σ' e'∧m8 X.K H' M'∧W m e' M',⟨m0,e,M,KT.refl H,ok,am,w0⟩,?_⟩
  rintro m σ1 H1 ⟨e1,M1,k1,ok1,a1,w1⟩
  refine⟨e1,M1,_,ok1,a1,turn m e1 M1 w1,fun b M2 h2 H2 k2 a2=>?_⟩
  cases b with
  | false=>exact f.nx e1 M2 h2 σ1 H2 (k1.trans k2) a2 (ok1.mono k2)
  | true =>
   refine⟨fun σ' H'=>∃ m',m'<m∧∃ e' M',KT H H'∧A2 X.K H' σ' e'∧m8 X.K H' M'∧W m' e' M',fun σ' H' h=>h,e1,M2,_,ok1.mono k2,a2,h2,?_⟩
   have kk:=k1.trans k2
   exact⟨fun e' M' ⟨m',l,w⟩ σ' H' k' a' o'=>⟨m',l,e',M',kk.trans k',o',a',w⟩,f.rt.mono kk,f.nx.mono kk,fun e' M' ⟨m',l,w⟩ σ' H' k' a' o'=>⟨m',l,e',M',kk.trans k',o',a',w⟩⟩)⟩
noncomputable abbrev DTI:=Ev→Mem→(List D→(Mem→Prop)→Mem→Prop)→Prop
def GZ(ti:DTI)(g:DTG)(tb:DTS):DTS:=fun F e M=>ti e M fun ds stay M1=>∃ W:Nat→Ev→Mem→Prop,W 0 e M1∧(∀ i e M,i≤ds.length→W i e M→stay M) ∧
 (∀(i:Nat) (d:D) e M,ds[i]? = some d→W i e M→g d e M fun e2 M2=>tb { F with nx:=W (i+1),ct:=W (i+1),bk:=F.nx } e2 M2)∧∀ e M,W ds.length e M→F.nx e M
noncomputable def I0(lo:Int)(n:Nat):List D:=(MJ n).map fun(i:Nat)=>D.int (lo+(i:Int))
theorem A0(lo:Int)(n:Nat):(I0 lo n).length=n:=by simp[I0]
theorem eJ{lo:Int}{n i:Nat}(h:i<n):(I0 lo n)[i]? = some (D.int (lo+(i:Int))):=by simp[I0,h]
theorem W0{lo:Int}{n i:Nat}{d:D}(h:(I0 lo n)[i]? = some d):i<n∧d=D.int (lo+(i:Int)):=by
 have hl:i<n:=by
  have:=(LP.mp h).1
  rw[A0]at this;exact this
 rw[eJ hl]at h
 exact⟨hl,(Option.some.inj h).symm⟩
def BQ(ta:DTA):DTI:=fun e M R=>ta e M fun ds M1=>∃ j:Int,ds=[.int j]∧-(2 ^ 62)≤j∧j<2 ^ 62∧R (I0 0 j.toNat) (fun _=>True) M1
def xg(ta:DTA):DTI:=fun e M R=>ta e M fun ds M1=>∃ i j:Int,ds=[.int i,.int j]∧(-(2 ^ 62)≤i∧i<2 ^ 62∧-(2 ^ 62)≤j∧j<2 ^ 62)∧R (I0 i (j - i).toNat) (fun _=>True) M1
theorem wW{K:Lo}{H H1 H2:Hp}{F:ba}{E:nq}{W:Nat→Ev→Mem→Prop}{g:DTG}{tb:DTS}{i:Nat}{x:V}{d:D}{σ2:St}{e2:Ev}{M2:Mem}(f:Fit K H F E)(k1:KT H H1)(k2:KT H1 H2)(ok2:A2 K H2 σ2 e2)(a2:m8 K H2 M2)(r:Has K H2 x d)
  (h:g d e2 M2 fun e3 M3=>tb { F with nx:=W (i+1),ct:=W (i+1),bk:=F.nx } e3 M3) :
  upG K g x σ2 H2 fun σ3 H3=>upS K tb { E with nx:=fun σ' H'=>∃ e' M',KT H1 H'∧A2 K H' σ' e'∧m8 K H' M'∧W (i+1) e' M',ct:=fun σ' H'=>∃ e' M',KT H1 H'∧A2 K H' σ' e'∧m8 K H' M'∧W (i+1) e' M',bk:=E.nx } σ3 H3:=by
 refine⟨d,e2,M2,_,r,ok2,a2,h,fun e3 M3 h3 σ3 H3 k3 a3 ok3=>⟨e3,M3,_,ok3,a3,h3,?_⟩⟩
 have kk:KT H H3:=k1.trans (k2.trans k3)
 exact⟨fun e' M' w σ' H' k' a' o'=>⟨e',M',k2.trans (k3.trans k'),o',a',w⟩,f.rt.mono kk,f.nx.mono kk,fun e' M' w σ' H' k' a' o'=>⟨e',M',k2.trans (k3.trans k'),o',a',w⟩⟩
variable {tg iter:Expr} {body:List Stmt} {ti:DTE} {ta:DTA} {g:DTG} {tb:DTS}
theorem Has.il{K:Lo}{H:Hp}{v:V}{ds:List D}(h:Has K H v (.vl ds)):∃ a xs,v = .ref a∧SqL K H a xs∧HasL K H xs ds:=by
 cases h with
 | vl h l=>exact⟨_,_,rfl,h.elim (fun⟨o,e⟩=>.inl (.inr ⟨o,e⟩)) (fun k=>k H),l⟩
end
section
variable {P:Program} {w:World} {K:Lo} {mg:Str→Option Value} {base:Heap}
end
section
variable {X:Cx} {x:Str} {p pos:Pos} {e:Expr} {es:List Expr} {t:DTA} {id T:String}
noncomputable abbrev DRC:=List D→Mem→DK→Prop
noncomputable def upC(K:Lo)(g:DRC):List V→Hp→VK→Prop:=fun xs H Q=>∃ ds M R,HasL K H xs ds∧m8 K H M∧g ds M R∧fw K H R Q
def bb(X:Cx)(f:Value)(g:DRC):Prop:=A6 X f (upC X.K g)
def dCB(g:DRC)(t:DTA):DTE:=fun e M R=>t e M fun ds M1=>g ds M1 R
theorem Hh{g:DRC}{σ:St}{H:Hp}{Q:VK}(h:up X.K (dCB g t) σ H Q):tCB (upC X.K g) (upA X.K t) σ H Q:=by
 obtain⟨e,M,R,ok,am,t,f⟩:=h
 exact⟨e,M,_,ok,am,t,fun ds M1 h1 vs H1 k1 a1 r1=>⟨ds,M1,R,r1,a1,h1,f.mono k1⟩⟩
theorem A6.imp{f:Value}{r r':List V→Hp→VK→Prop}(h:A6 X f r)(i:∀ xs H Q,r' xs H Q→r xs H Q):A6 X f r':=fun pins s σ H xs us Q I rv q=>h pins s σ H xs us Q I rv (i xs H Q q)
theorem HasL.one{K:Lo}{H:Hp}{vs:List V}{d:D}(h:HasL K H vs [d]):∃ v,vs=[v]∧Has K H v d:=by
 cases h with
 | cons r rr=>cases rr;exact⟨_,rfl,r⟩
theorem HasL.two{K:Lo}{H:Hp}{vs:List V}{d d':D}(h:HasL K H vs [d,d']):∃ v v',vs=[v,v']∧Has K H v d∧Has K H v' d':=by
 cases h with
 | cons r rr=>cases rr with|cons r2 rr=>cases rr;exact⟨_,_,rfl,r,r2⟩
def GK:DRC:=fun ds M R=>∃ i:Int,ds=[.int i]∧R (.int (i.natAbs:Int)) M
theorem fm:bb X (.builtin "abs") GK:=A6.imp xt (by
 rintro xs H Q ⟨ds,M,R,hl,am,⟨i,z,r⟩,f⟩
 subst z
 obtain⟨v,rfl,h⟩:=hl.one
 cases h
 have e:(if i<0 then -i else i)=(i.natAbs:Int):=by split<;>omega
 exact⟨i,rfl,by rw[e];exact f _ M r _ H (KT.refl H) am (.int _)⟩)
def GD:DRC:=fun ds M R=>∃ i j:Int,ds=[.int i,.int j]∧R (.int (max i j)) M
theorem Ck(hc:X.calm=true):bb X (.builtin "max") GD:=A6.imp (sR hc) (by
 rintro xs H Q ⟨ds,M,R,hl,am,⟨i,j,z,r⟩,f⟩
 subst z
 obtain⟨v,v',rfl,h,h'⟩:=hl.two
 cases h;cases h'
 have e:(if j > i then j else i)=max i j:=by
  rw[Int.max_def];split<;>split<;>omega
 exact⟨i,j,rfl,by rw[e];exact f _ M r _ H (KT.refl H) am (.int _)⟩)
def GC:DRC:=fun ds M R=>∃ i j:Int,ds=[.int i,.int j]∧R (.int (min i j)) M
theorem Cj(hc:X.calm=true):bb X (.builtin "min") GC:=A6.imp (sQ hc) (by
 rintro xs H Q ⟨ds,M,R,hl,am,⟨i,j,z,r⟩,f⟩
 subst z
 obtain⟨v,v',rfl,h,h'⟩:=hl.two
 cases h;cases h'
 have e:(if j<i then j else i)=min i j:=by
  rw[Int.min_def];split<;>split<;>omega
 exact⟨i,j,rfl,by rw[e];exact f _ M r _ H (KT.refl H) am (.int _)⟩)
noncomputable def DY(M:Mem):D→Option Nat
 | .tup ds=>some ds.length
 | .ref p=>match M p with
  | some (.lst ds)=>some ds.length
  | _=>none
 | .vl ds=>some ds.length
 | _=>none
def sJ:DRC:=fun ds M R=>∃ d n,ds=[d]∧DY M d=some n∧R (.int (n:Int)) M
theorem U8:bb X (.builtin "len") sJ:=A6.imp kv (by
 rintro xs H Q ⟨ds,M,R,hl,am,⟨d,n,z,hn,r⟩,f⟩
 subst z
 obtain⟨v,rfl,h⟩:=hl.one
 cases d with
 | tup es =>
  cases h with
  | tup s l =>
   cases hn
   exact⟨_,_,rfl,.inr s,by rw[l.length];exact f _ M r _ H (KT.refl H) am (.int _)⟩
 | ref p =>
  cases h
  unfold DY at hn
  cases q:M p with
  | none=>simp[q]at hn
  | some o =>
   cases o with
   | lst es =>
    simp only[q]at hn
    cases hn
    obtain⟨ys,hy,l⟩:=am.lst q
    exact⟨p,ys,rfl,.inl (SqL.of hy),by rw[l.length];exact f _ M r _ H (KT.refl H) am (.int _)⟩
   | ins C fs=>simp[q]at hn
 | vl es =>
  cases hn
  obtain⟨a,xs,rfl,sq,l⟩:=h.il
  exact⟨a,_,rfl,.inl sq,by rw[l.length];exact f _ M r _ H (KT.refl H) am (.int _)⟩
 | _=>cases hn)
end
theorem af:bootBuiltins "abs" = some (.builtin "abs"):=by decide +kernel
theorem xx:bootBuiltins "max" = some (.builtin "max"):=by decide +kernel
theorem xw:bootBuiltins "min" = some (.builtin "min"):=by decide +kernel
theorem K9:bootBuiltins "len" = some (.builtin "len"):=by decide +kernel
theorem X2:bootBuiltins "isinstance" = some (.builtin "isinstance"):=by decide +kernel
theorem Ew:bootBuiltins "int" = some (.type "int"):=by decide +kernel
theorem Aw:bootBuiltins "bool" = some (.type "bool"):=by decide +kernel
theorem Av:bootBuiltins "list" = some (.type "list"):=by decide +kernel
section
variable {X:Cx} {a b c:Expr} {ta tb tc:DTE} {pos:Pos}
theorem zK:OpR X (binaryOp .Mult) (rI IntMulOk fun i j=>.int (i*j)):=opI fun _ _ _ _ _ _ _ hc q=>mul_int q hc
def CFd(i j:Int):Prop:=j≠0∧j.natAbs.log2<9000
theorem vV:OpR X (binaryOp .FloorDiv) (rI CFd fun i j=>.int (i.fdiv j)):=opI fun _ _ _ _ _ _ _ hc q=>floordiv_int hc.1 q (.inl (PyProof.noPylong_of_log2 hc.2))
theorem h9:DOp X (binaryOp .Mult) (gI IntMulOk fun i j=>.int (i*j)):=qR zK fun _ _ _=>.int _
theorem K6:DOp X (binaryOp .FloorDiv) (gI CFd fun i j=>.int (i.fdiv j)):=qR vV fun _ _ _=>.int _
noncomputable def ixD(M:Mem):D→D→Option D
 | .tup ds,.int i=>atI ds i
 | .ref p,.int i=>match M p with
  | some (.lst ds)=>atI ds i
  | _=>none
 | .vl ds,.int i=>atI ds i
 | _,_=>none
def gIx:DR2:=fun x y M R=>∃ z,ixD M x y=some z∧R z M
theorem IxR.or'{r r':R2}(h:IxR X r)(h':IxR X r'){g:R2}(i:∀ x y H Q,g x y H Q→r x y H Q∨r' x y H Q):IxR X g:=IxR.imp (IxR.or h h') i
theorem Gx:DIx X gIx:=IxR.or' Eg Ai (by
 rintro x y H Q ⟨dx,dy,M,R,hx,hy,am,⟨z,e,r⟩,f⟩
 cases dy with
 | int i =>
  cases hy
  cases dx with
  | tup ds =>
   cases hx with
   | tup s l =>
    obtain⟨v,h1,h2⟩:=l.at (show atI ds i=some z from e)
    exact .inl ⟨_,_,i,v,rfl,rfl,s,h1,f z M r v H (KT.refl H) am h2⟩
  | ref p =>
   cases hx
   unfold ixD at e
   cases q:M p with
   | none=>simp[q]at e
   | some o =>
    cases o with
    | lst ds =>
     simp only[q]at e
     obtain⟨xs,h1,h2⟩:=am.lst q
     obtain⟨v,h3,h4⟩:=h2.at e
     exact .inr ⟨_,_,i,v,rfl,rfl,SqL.of h1,h3,f z M r v H (KT.refl H) am h4⟩
    | ins C fs=>simp[q]at e
  | vl ds =>
   obtain⟨a,xs,rfl,sq,l⟩:=hx.il
   obtain⟨v,h1,h2⟩:=l.at (show atI ds i=some z from e)
   exact .inr ⟨_,_,i,v,rfl,rfl,sq,h1,f z M r v H (KT.refl H) am h2⟩
  | _=>simp[ixD]at e
 | _=>cases dx<;>simp[ixD]at e)
theorem E9{M:Mem}{p:Addr}{ds:List D}{i:Int}{z:D}(m:M p=some (.lst ds))(h:atI ds i=some z):ixD M (.ref p) (.int i)=some z:=by
 unfold ixD;simp only[m];exact h
noncomputable def isD:D→D→Option Bool
 | .bl a,.bl b=>some (a == b)
 | .non,.non=>some true
 | .bl _,.non=>some false
 | .int _,.non=>some false
 | .str _,.non=>some false
 | .ref _,.non=>some false
 | .tup _,.non=>some false
 | .vl _,.non=>some false
 | .exc _,.non=>some false
 | _,_=>none
theorem hG{x y:D}{b:Bool}(h:isD x y=some b):(∃ p q,x = .bl p∧y = .bl q∧b=(p == q))∨(y = .non∧((x = .non∧b=true)∨(x ≠ .non∧b=false))):=by
 cases x<;>cases y<;>simp[isD]at h<;>simp[h]
theorem qI{K:Lo}{H:Hp}{v:V}{x:D}(h:Has K H v x)(n:x ≠ .non):v ≠ .non:=by
 intro e;subst e;cases h;exact n rfl
def gIs(neg:Bool):DR2:=fun x y M R=>∃ b,isD x y=some b∧R (.bl (neg.xor b)) M
theorem Gh:DOp X (compareOp .Is) (gIs false):=by
 intro pins s σ H x y v u Q I rx ry h
 obtain⟨dx,dy,M,R,hx,hy,am,⟨b,e,r⟩,f⟩:=h
 have fin:EP X pins σ Q (.bool b) s:=⟨.bl b,H,I,rfl,by have:=f _ M r (.bl b) H (KT.refl H) am (by simpa using Has.bl (K:=X.K) (H:=H) b);exact this⟩
 rcases hG e with⟨p,q,rfl,rfl,rfl⟩|⟨rfl,hx'⟩
 ·cases hx;cases hy;cases rx;cases ry
  exact is_bool fin
 ·cases hy;cases ry
  refine is_none_gen ?_
  rw[j7.none_iff rx]
  rcases hx' with⟨rfl,rfl⟩|⟨n,rfl⟩
  ·cases hx;exact fin
  ·rw[decide_eq_false (qI hx n)];exact fin
theorem qC:DOp X (compareOp .IsNot) (gIs true):=by
 intro pins s σ H x y v u Q I rx ry h
 obtain⟨dx,dy,M,R,hx,hy,am,⟨b,e,r⟩,f⟩:=h
 have fin:EP X pins σ Q (.bool (!b)) s:=⟨.bl (!b),H,I,rfl,by have:=f _ M r (.bl (!b)) H (KT.refl H) am (by simpa using Has.bl (K:=X.K) (H:=H) (!b));exact this⟩
 rcases hG e with⟨p,q,rfl,rfl,rfl⟩|⟨rfl,hx'⟩
 ·cases hx;cases hy;cases rx;cases ry
  exact isnot_bool fin
 ·cases hy;cases ry
  refine isnot_none_gen ?_
  rw[j7.none_iff rx]
  rcases hx' with⟨rfl,rfl⟩|⟨n,rfl⟩
  ·cases hx;exact fin
  ·rw[decide_eq_false (qI hx n)];exact fin
mutual
inductive PyR (M:Mem):D→PyData→Prop
 | non:PyR M .non .none
 | bl (b:Bool):PyR M (.bl b) (.bool b)
 | int (i:Int):PyR M (.int i) (.int i)
 | str (x:Str):PyR M (.str x) (.str x)
 | tup {ds:List D} {ps:List PyData}:PyRL M ds ps→PyR M (.tup ds) (.tuple ps)
 | lst {p:Addr} {ds:List D} {ps:List PyData}:M p=some (.lst ds)→PyRL M ds ps→PyR M (.ref p) (.list ps)
 | vl {ds:List D} {ps:List PyData}:PyRL M ds ps→PyR M (.vl ds) (.list ps)
inductive PyRL (M:Mem):List D→List PyData→Prop
 | nil:PyRL M [] []
 | cons {d:D} {p:PyData} {ds:List D} {ps:List PyData}:PyR M d p→PyRL M ds ps→PyRL M (d :: ds) (p :: ps)
end
mutual
theorem K5{pins:List (Addr × Obj)}{s:Shared}{σ:St}{H:Hp}{M:Mem}(I:Inv X pins σ H s)(am:m8 X.K H M):∀{d:D} {p:PyData},PyR M d p→∀{v:V} {u:Value},Has X.K H v d→j7 v u→∃ as,Reads s.heap u p as
 | _,_,.non,_,_,h,r=>by cases h;cases r;exact⟨_,.none⟩
 | _,_,.bl b,_,_,h,r=>by cases h;cases r;exact⟨_,.bool b⟩
 | _,_,.int i,_,_,h,r=>by cases h;obtain⟨t,rfl⟩:=r;exact⟨_,.int i t⟩
 | _,_,.str x,_,_,h,r=>by cases h;obtain⟨t,rfl⟩:=r;exact⟨_,.str x t⟩
 | _,_,.tup l,_,_,h,r=>by
  cases h with
  | tup s' hl =>
   cases r
   obtain⟨its,rv,⟨o,e,hc,n,hd⟩,_⟩:=I.tuple s'
   obtain⟨as,ra⟩:=readsL_of I am l hl rv
   exact⟨as,.tuple e hc hd (by simpa using ra)⟩
 | _,_,.lst m l,_,_,h,r=>by
  cases h
  cases r
  obtain⟨xs,hx,hl⟩:=am.lst m
  obtain⟨its,rv,⟨o,n,e,hc,_,hd⟩,_⟩:=I.list (SqL.of hx)
  obtain⟨as,ra⟩:=readsL_of I am l hl rv
  exact⟨_,.list e hc hd (by simpa using ra)⟩
 | _,_,.vl l,_,_,h,r=>by
  obtain⟨a,xs,rfl,sq,hl⟩:=h.il
  cases r
  obtain⟨its,rv,⟨o,n,e,hc,_,hd⟩,_⟩:=I.list sq
  obtain⟨as,ra⟩:=readsL_of I am l hl rv
  exact⟨_,.list e hc hd (by simpa using ra)⟩
theorem readsL_of{pins:List (Addr × Obj)}{s:Shared}{σ:St}{H:Hp}{M:Mem}(I:Inv X pins σ H s)(am:m8 X.K H M):∀{ds:List D} {ps:List PyData},PyRL M ds ps→∀{vs:List V} {us:List Value},HasL X.K H vs ds→i7 vs us→∃ as,ReadsAll s.heap us ps as
 | _,_,.nil,_,_,h,r=>by cases h;cases r;exact⟨_,.nil⟩
 | _,_,.cons a l,_,_,h,r=>by
  cases h with
  | cons h hl =>
   cases r with
   | cons r rl =>
    obtain⟨as,q⟩:=K5 I am a h r
    obtain⟨bs,q2⟩:=readsL_of I am l hl rl
    exact⟨_,.cons q q2⟩
end
def gEq(neg:Bool):DR2:=fun x y M R=>∃ px py,PyR M x px∧PyR M y py∧SeqAt.shaped px=true∧SeqAt.shaped py=true∧R (.bl (neg.xor (PyData.eqv px py))) M
theorem HW(hu:X.A.units+64<cLine):DOp X (compareOp .Eq) (gEq false):=by
 intro pins s σ H x y v u Q I rx ry h
 obtain⟨dx,dy,M,R,hx,hy,am,⟨px,py,p1,p2,s1,s2,r⟩,f⟩:=h
 obtain⟨as,r1⟩:=K5 I am p1 hx rx
 obtain⟨bs,r2⟩:=K5 I am p2 hy ry
 exact eq_dataH r1 r2 s1 s2 hu ⟨.bl _,H,I,rfl,by have:=f _ M r _ H (KT.refl H) am (.bl _);simpa using this⟩
theorem HR(hu:X.A.units+64<cLine):DOp X (compareOp .NotEq) (gEq true):=by
 intro pins s σ H x y v u Q I rx ry h
 obtain⟨dx,dy,M,R,hx,hy,am,⟨px,py,p1,p2,s1,s2,r⟩,f⟩:=h
 obtain⟨as,r1⟩:=K5 I am p1 hx rx
 obtain⟨bs,r2⟩:=K5 I am p2 hy ry
 exact ne_dataH r1 r2 s1 s2 hu ⟨.bl _,H,I,rfl,by have:=f _ M r _ H (KT.refl H) am (.bl _);simpa using this⟩
mutual
noncomputable def pyD:D→PyData
 | .int i=>.int i
 | .str x=>.str x
 | .bl b=>.bool b
 | .tup ds=>.tuple (pyDL ds)
 | .vl ds=>.list (pyDL ds)
 | _=>.none
noncomputable def pyDL:List D→List PyData
 | []=>[]
 | d :: r=>pyD d :: pyDL r
end
mutual
noncomputable def cl:Nat→D→Bool
 | _,.int _=>true
 | _,.non=>true
 | _,.str x=>PyData.canLay0 (.str x)
 | k+1,.tup ds=>clL k ds
 | k+1,.vl ds=>clL k ds
 | _,_=>false
noncomputable def clL:Nat→List D→Bool
 | _,[]=>true
 | k,d :: r=>cl k d && clL k r
end
mutual
theorem ik{M:Mem}:∀{k:Nat} {d:D},cl k d=true→PyR M d (pyD d)∧(pyD d).canLay0=true∧(pyD d).depth≤k
 | _,.int i,_=>⟨.int i,rfl,Mn _⟩
 | _,.non,_=>⟨.non,rfl,Mn _⟩
 | 0,.tup ds,h=>by simp[cl]at h
 | k+1,.tup ds,h=>by
  obtain⟨a,b,c⟩:=clL_py (M:=M) (k:=k) (ds:=ds) (by simpa[cl]using h)
  exact⟨.tup a,by simpa[pyD,PyData.canLay0]using b,by simp only[pyD,PyData.depth];omega⟩
 | _,.str x,h=>⟨.str x,by simpa[cl,pyD]using h,Mn _⟩
 | _,.bl _,h=>by simp[cl]at h
 | _,.ref _,h=>by simp[cl]at h
 | 0,.vl ds,h=>by simp[cl]at h
 | k+1,.vl ds,h=>by
  obtain⟨a,b,c⟩:=clL_py (M:=M) (k:=k) (ds:=ds) (by simpa[cl]using h)
  exact⟨.vl a,by simpa[pyD,PyData.canLay0]using b,by simp only[pyD,PyData.depth];omega⟩
 | _,.ty _,h=>by simp[cl]at h
theorem clL_py{M:Mem}:∀{k:Nat} {ds:List D},clL k ds=true→PyRL M ds (pyDL ds)∧PyData.canLayAll0 (pyDL ds)=true∧PyData.depthAll (pyDL ds)≤k
 | _,[],_=>⟨.nil,rfl,Mn _⟩
 | k,d :: r,h=>by
  have h':cl k d=true∧clL k r=true:=by simpa[clL]using h
  obtain⟨a,b,c⟩:=ik (M:=M) h'.1
  obtain⟨a2,b2,c2⟩:=clL_py (M:=M) h'.2
  exact⟨.cons a a2,by simp[pyDL,PyData.canLayAll0,b,b2],by simp only[pyDL,PyData.depthAll];omega⟩
end
mutual
theorem oK:∀{k j:Nat} {x y:D},cl k x=true→cl j y=true→(PyData.eqv (pyD x) (pyD y)=true↔x=y)
 | _,_,.int i,.int j,_,_=>by simp[pyD,PyData.eqv]
 | _,_,.int i,.non,_,_=>by simp[pyD,PyData.eqv]
 | _,_,.non,.int i,_,_=>by simp[pyD,PyData.eqv]
 | _,_,.non,.non,_,_=>by simp[pyD,PyData.eqv]
 | _,_,.int i,.tup ds,_,_=>by simp[pyD,PyData.eqv]
 | _,_,.non,.tup ds,_,_=>by simp[pyD,PyData.eqv]
 | _,_,.tup ds,.int i,_,_=>by simp[pyD,PyData.eqv]
 | _,_,.tup ds,.non,_,_=>by simp[pyD,PyData.eqv]
 | k+1,j+1,.tup ds,.tup es,h,h'=>by
  have:=clL_eqv (k:=k) (j:=j) (xs:=ds) (ys:=es) (by simpa[cl]using h) (by simpa[cl]using h')
  simp only[pyD,PyData.eqv,D.tup.injEq]
  exact this
 | 0,_,.tup ds,.tup es,h,_=>by simp[cl]at h
 | _,0,.tup ds,.tup es,_,h=>by simp[cl]at h
 | _,_,.str x,.str y,_,_=>by simp[pyD,PyData.eqv]
 | _,_,.str x,.int i,_,_=>by simp[pyD,PyData.eqv]
 | _,_,.str x,.non,_,_=>by simp[pyD,PyData.eqv]
 | _,_,.str x,.tup ds,_,_=>by simp[pyD,PyData.eqv]
 | _,_,.int i,.str x,_,_=>by simp[pyD,PyData.eqv]
 | _,_,.non,.str x,_,_=>by simp[pyD,PyData.eqv]
 | _,_,.tup ds,.str x,_,_=>by simp[pyD,PyData.eqv]
 | k+1,j+1,.vl ds,.vl es,h,h'=>by
  have:=clL_eqv (k:=k) (j:=j) (xs:=ds) (ys:=es) (by simpa[cl]using h) (by simpa[cl]using h')
  simp only[pyD,PyData.eqv,D.vl.injEq]
  exact this
 | 0,_,.vl ds,.vl es,h,_=>by simp[cl]at h
 | _,0,.vl ds,.vl es,_,h=>by simp[cl]at h
 | _,_,.vl ds,.int i,_,_=>by simp[pyD,PyData.eqv]
 | _,_,.vl ds,.non,_,_=>by simp[pyD,PyData.eqv]
 | _,_,.vl ds,.str x,_,_=>by simp[pyD,PyData.eqv]
 | _,_,.vl ds,.tup es,_,_=>by simp[pyD,PyData.eqv]
 | _,_,.int i,.vl ds,_,_=>by simp[pyD,PyData.eqv]
 | _,_,.non,.vl ds,_,_=>by simp[pyD,PyData.eqv]
 | _,_,.str x,.vl ds,_,_=>by simp[pyD,PyData.eqv]
 | _,_,.tup es,.vl ds,_,_=>by simp[pyD,PyData.eqv]
 | _,_,.bl _,_,h,_=>by simp[cl]at h
 | _,_,.ref _,_,h,_=>by simp[cl]at h
 | _,_,.ty _,_,h,_=>by simp[cl]at h
 | _,_,_,.bl _,_,h=>by simp[cl]at h
 | _,_,_,.ref _,_,h=>by simp[cl]at h
 | _,_,_,.ty _,_,h=>by simp[cl]at h
theorem clL_eqv:∀{k j:Nat} {xs ys:List D},clL k xs=true→clL j ys=true→(PyData.eqvAll (pyDL xs) (pyDL ys)=true↔xs=ys)
 | _,_,[],[],_,_=>by simp[pyDL,PyData.eqvAll]
 | _,_,[],_ :: _,_,_=>by simp[pyDL,PyData.eqvAll]
 | _,_,_ :: _,[],_,_=>by simp[pyDL,PyData.eqvAll]
 | k,j,x :: xs,y :: ys,h,h'=>by
  have h1:cl k x=true∧clL k xs=true:=by simpa[clL]using h
  have h2:cl j y=true∧clL j ys=true:=by simpa[clL]using h'
  have e1:=oK h1.1 h2.1
  have e2:=clL_eqv h1.2 h2.2
  simp only[pyDL,PyData.eqvAll,MY,e1,e2,List.cons.injEq]
end
open Classical in
theorem wU{neg:Bool}{x y:D}{M:Mem}{R:DK}(h:R (.bl (neg.xor (decide (x=y)))) M)(hx:cl 60 x=true:=by rfl)(hy:cl 60 y=true:=by rfl):gEq neg x y M R:=by
 obtain⟨a,b,c⟩:=ik (M:=M) hx
 obtain⟨a2,b2,c2⟩:=ik (M:=M) hy
 refine⟨_,_,a,a2,?_,?_,?_⟩
 ·simp only[SeqAt.shaped,b,Pr];exact decide_eq_true (by omega)
 ·simp only[SeqAt.shaped,b2,Pr];exact decide_eq_true (by omega)
 ·have e:PyData.eqv (pyD x) (pyD y)=decide (x=y):=by
   have:=oK hx hy
   by_cases q:x=y
   ·rw[decide_eq_true q];exact this.mpr q
   ·rw[decide_eq_false q]
    cases z:PyData.eqv (pyD x) (pyD y)with
    | false=>rfl
    | true=>exact absurd (this.mp z) q
  rw[e];exact h
noncomputable def tyD(M:Mem):D→Option String
 | .non=>some "NoneType"
 | .bl _=>some "bool"
 | .int _=>some "int"
 | .str _=>some "str"
 | .tup _=>some "tuple"
 | .ref p=>match M p with
  | some (.lst _)=>some "list"
  | _=>none
 | .vl _=>some "list"
 | .ty _=>none
 | .dic=>some "dict"
 | .exc _=>none
noncomputable def yP(t T:String):Option Bool:=if t=T then some true else
 match t,T with
 | "bool","int" => some true
 | _,_=>if (t∈["NoneType","bool","int","str","tuple","list","dict"])∧(T∈["bool","int","str","tuple","list"])then some false else none
def xD(K:Lo):Prop:=∀ t T b,yP t T=some b→PySem.W.kitOne K (.type t) (.type T)=some b
theorem BL{x:Str}{n:String}(hg:Gl X x)(hm:X.mg x=none)(hv:bootBuiltins x=some (.type n))(hn:x ≠ "__name__" := by decide)(hd:(x == ("__debug__" : Str))=false:=by decide):JE X (.Name x pos) (dC (.ty n)):=⟨W5 (v:=.ty n) (zG hg hm hv rfl hn hd) fun _=>.ty n⟩
def A9:DRC:=fun ds M R=>∃ d t T b,ds=[d,.ty T]∧tyD M d=some t∧yP t T=some b∧R (.bl b) M
theorem Cm(hk:xD X.K):bb X (.builtin "isinstance") A9:=by
 intro pins s σ H xs us Q I rv h
 obtain⟨ds,M,R,hl,am,⟨d,t,T,b,rfl,ht,hb,r⟩,f⟩:=h
 obtain⟨v,v',rfl,h1,h2⟩:=hl.two
 cases h2
 obtain⟨u,w',rfl,r1,r2⟩:=uK rv
 cases(show w'=Value.type T from r2)
 have e:=hk t T b hb
 have fin:∀ tk,EP X pins σ Q (.bool b) { s with toks:=tk }:=fun tk=>⟨.bl b,H,I.tok tk,rfl,f _ M r _ H (KT.refl H) am (.bl b)⟩
 cases h1 with
 | non=>cases ht;exact O6 I r1 .non e fin
 | bl q=>cases ht;exact O6 I r1 (.bl q) e fin
 | int q=>cases ht;exact O6 I r1 (.int q) e fin
 | str q=>cases ht;exact O6 I r1 (.str q) e fin
 | ty q=>cases ht
 | ref p =>
  unfold tyD at ht
  cases q:M p with
  | none=>simp[q]at ht
  | some o =>
   cases o with
   | lst es =>
    simp only[q]at ht
    cases ht
    obtain⟨ys,hy,_⟩:=am.lst q
    exact O6 I r1 (.lst hy) e fin
   | ins C fs=>simp[q]at ht
 | tup s' l =>
  cases ht
  cases(show u=Value.ref _ from r1)
  obtain⟨its,_,⟨o,h1,h2,_⟩,_⟩:=I.tuple s'
  exact PySem.W.kia_one PySem.W.kitx_tuple I.kIn ⟨o,h1,h2⟩ e (fun z=>nomatch z) fin
 | vl hq hl' =>
  cases ht
  cases(show u=Value.ref _ from r1)
  obtain⟨_,_,ea,sq,_⟩:=Has.il (.vl hq hl')
  cases ea
  obtain⟨its,_,⟨o,n,h1,h2,_⟩,_⟩:=I.list sq
  exact PySem.W.kia_one PySem.W.kitx_list I.kIn ⟨o,h1,h2⟩ e (fun z=>nomatch z) fin
 | dic hq =>
  cases ht
  cases(show u=Value.ref _ from r1)
  obtain⟨o,g1,g2⟩:=hq
  exact PySem.W.kia_one PySem.W.kitx_dict I.kIn ⟨o,(I.hok _ _ g1).1,g2⟩ e (fun z=>nomatch z) fin
 | exc hq=>cases ht
theorem zX:MtR X "int.bit_length" (fun x xs H Q=>∃ i,x = .int i∧xs=[]∧Q (.int (Builtin.Int.intBits i:Nat)) H):=by
 intro pins s σ H x xs v us Q I rx rv h
 obtain⟨i,rfl,rfl,q⟩:=h
 cases rv
 obtain⟨t,rfl⟩:=rx
 exact call_int_bit_length ⟨.int _,H,I.tok _,⟨_,rfl⟩,q⟩
end
section
variable {X:Cx} {a b c:Expr} {ta tb tc:DTE} {pos:Pos}
def Y0:DXK:=fun _ _=>False
theorem Ij{K:Lo}{H:Hp}{E:XK}:EI K H Y0 E:=fun _ _ h=>h.elim
structure AJ(K:Lo)(x:Str)(st:Stmt)(f:Addr)(fd:FuncData):Prop where
 ex:∃(oc:Value) (od:Option Addr) (dV kV doc pm:Value) (an:Option Addr) (cdv ct:Value) (osl:Array (Option Value)),
  fd=PySem.W.fnOf x x (Q8 st) (J9 st) (e6 st) dV kV doc pm an cdv ct∧K.lookup f=some ⟨oc,od,.func fd,osl⟩∧PySem.W.codeIn K cdv x=true
 kp:PySem.W.keepIn K (.ref f)=true
structure Df(K:Lo)(mg:Str→Option Value)(x:Str)(st:Stmt)(ps:List Str):Prop where
 ex:∃(f:Addr) (fd:FuncData),AJ K x st f fd∧mg x=some (.ref f)∧fD K fd ps []
structure DfL(K:Lo)(mg:Str→Option Value)(x:Str)(st:Stmt)(ps:List Str):Prop where
 ex:∃(f:Addr) (fd:FuncData),AJ K x st f fd∧mg x=some (.ref f)∧∀ us:List Value,us.length=ps.length→bindArgs fd ⟨us,[]⟩=pure (ps.zip us)
structure Fn(P:Program)(w:World)(K:Lo)(mg:Str→Option Value)(base:Heap)(x:Str)(k:Nat)(ps:List Str)(sp:DSp):Prop where
 ex:∃(f:Addr) (fd:FuncData),R7 P w K mg base CX0 k f fd ps (lE K sp)∧mg x=some (.ref f)∧PySem.W.keepIn K (.ref f)=true∧fD K fd ps []
theorem wI{x:Str}{j:Nat}{ps:List Str}{sp:DSp}{p:Pos}{e:Expr}{es:List Expr}{t:DTA}(G:Fn X.prog X.w X.K X.mg X.base x j ps sp)(hr:J1 j X.A)(hg:Gl X x)(ha:JA X (e :: es) t)
  (hdb:(x == ("__debug__" : Str))=false:=by decide) (he:starEach (e :: es) X.env=(false,eval e X.env) :: starEach es X.env:=by rfl) (hpl:(backTo pos (starEach es X.env)).any (·.1)=false:=by rfl):JE X (.Call (.Name x p) (e :: es) [] pos) (mR sp [] Y0 t):=⟨have ha:=ha.out;by
 obtain⟨f,fd,F,hm,hk,hb⟩:=G.ex
 exact Ep F hr hg hm hk hb .nil (fun _=>.nil) FX (fun _=>Ij) ha hdb he hpl⟩
end
section
variable {P:Program} {w:World} {K:Lo} {mg:Str→Option Value} {base:Heap}
theorem BN{x:Str}{st:Stmt}{f:Addr}{fd:FuncData}{N ps:List Str}{k:Nat}{sp:DSp}(F:AJ K x st f fd)(S:f7 N ps (e6 st))(len:∀ ds M R Y,sp ds M R Y→ds.length=ps.length)
  (hbody:∀(cdv:Value) (A:Around) (outer:List Env) (s:Shared) (H:Hp) (E:XK) (ds:List D) (M:Mem) (R:DK) (Y:DXK),J1 k (A.deeper (envOfC x (e6 st) s.heap.objs.size f cdv))→sp ds M R Y →
   ∃ t,JSs (oF CX0 P w K mg base N x (e6 st) f cdv A outer s H E).nox (J9 st) t∧t { nx:=fun _ M'=>R .non M',rt:=R } (U5 N ds) M):R7 P w K mg base CX0 (k+1) f fd ps (lE K sp):=by
 obtain⟨oc,od,dV,kV,doc,pm,an,cdv,ct,osl,rfl,lk,hcd⟩:=F.ex
 refine GL lk hcd S (fun vs H Q E ⟨ds,M,R,Y,hl,_,hs,_,_⟩=>by rw[hl.length];exact len ds M R Y hs) fun A outer s H vs Q E hr zz=>?_
 obtain⟨ds,M,R,Y,hl,am,hs,fv,fx⟩:=zz
 obtain⟨t,h1,h2⟩:=hbody cdv A outer s H E ds M R Y hr hs
 refine⟨_,h1.out.nox,U5 N ds,M,_,A2.start0 hl,am,h2,⟨?_,fv,fun _ _ h=>h.elim,fun _ _ h=>h.elim⟩⟩
 exact fun e M' h σ' H' kt a o=>fv .non M' h .non H' kt a .non
theorem h7{x:Str}{st:Stmt}{N ps:List Str}{k:Nat}{sp:DSp}(d:Df K mg x st ps)(S:f7 N ps (e6 st))(len:∀ ds M R Y,sp ds M R Y→ds.length=ps.length)
  (hbody:∀(f:Addr) (cdv:Value) (A:Around) (outer:List Env) (s:Shared) (H:Hp) (E:XK) (ds:List D) (M:Mem) (R:DK) (Y:DXK),J1 k (A.deeper (envOfC x (e6 st) s.heap.objs.size f cdv))→sp ds M R Y →
   ∃ t,JSs (oF CX0 P w K mg base N x (e6 st) f cdv A outer s H E).nox (J9 st) t∧t { nx:=fun _ M'=>R .non M',rt:=R } (U5 N ds) M):Fn P w K mg base x (k+1) ps sp:=by
 obtain⟨f,fd,F,hm,hb⟩:=d.ex
 exact⟨f,fd,BN F S len (hbody f),hm,F.kp,hb⟩
theorem i3{x:Str}{st:Stmt}{ps:List Str}{h:Heap}{f:Addr}{oc:Value}{od an:Option Addr}{osl:Array (Option Value)}{dV kV doc pm cdv ct:Value}(X:K.In h)(G:h.Ns mainGlobals mg)
  (n:PySem.W.nsIn K mainGlobals x=some (some (.ref f)))
  (l:K.lookup f=some ⟨oc,od,.func (PySem.W.fnOf x x (Q8 st) (J9 st) (e6 st) dV kV doc pm an cdv ct),osl⟩)
  (c:PySem.W.codeIn K cdv x=true) (k:PySem.W.keepIn K (.ref f)=true)
  (hb:∀ us:List Value,us.length=ps.length→bindArgs (PySem.W.fnOf x x (Q8 st) (J9 st) (e6 st) dV kV doc pm an cdv ct) ⟨us,[]⟩=pure (ps.zip us)):Df K mg x st ps :=
 ⟨f,_,⟨⟨oc,od,dV,kV,doc,pm,an,cdv,ct,osl,rfl,l,c⟩,k⟩,PySem.W.mg_of X G n,.all hb⟩
theorem El{x:Str}{st:Stmt}{ps:List Str}{h:Heap}{f:Addr}{oc:Value}{od an:Option Addr}{osl:Array (Option Value)}{dV kV doc pm cdv ct:Value}(X:K.In h)(G:h.Ns mainGlobals mg)
  (n:PySem.W.nsIn K mainGlobals x=some (some (.ref f)))
  (l:K.lookup f=some ⟨oc,od,.func (PySem.W.fnOf x x (Q8 st) (J9 st) (e6 st) dV kV doc pm an cdv ct),osl⟩)
  (c:PySem.W.codeIn K cdv x=true) (k:PySem.W.keepIn K (.ref f)=true)
  (hb:∀ us:List Value,us.length=ps.length→bindArgs (PySem.W.fnOf x x (Q8 st) (J9 st) (e6 st) dV kV doc pm an cdv ct) ⟨us,[]⟩=pure (ps.zip us)):DfL K mg x st ps :=
 ⟨f,_,⟨⟨oc,od,dV,kV,doc,pm,an,cdv,ct,osl,rfl,l,c⟩,k⟩,PySem.W.mg_of X G n,hb⟩
theorem Em{x:Str}{st:Stmt}{ps:List Str}{h:Heap}{f:Addr}{oc:Value}{od an:Option Addr}{osl:Array (Option Value)}{dV kV doc pm cdv ct:Value}(X:K.In h)(G:h.Ns mainGlobals mg)
  (n:PySem.W.nsIn K mainGlobals x=some (some (.ref f)))
  (l:K.lookup f=some ⟨oc,od,.func (PySem.W.fnOf x x (Q8 st) (J9 st) (e6 st) dV kV doc pm an cdv ct),osl⟩)
  (c:PySem.W.codeIn K cdv x=true) (k:PySem.W.keepIn K (.ref f)=true)
  (hb:∀ us:List Value,us.length=ps.length→∀ S,PySem.W.peek K S (bindArgs (PySem.W.fnOf x x (Q8 st) (J9 st) (e6 st) dV kV doc pm an cdv ct) ⟨us,[]⟩)=some (ps.zip us)):Df K mg x st ps :=
 ⟨f,_,⟨⟨oc,od,dV,kV,doc,pm,an,cdv,ct,osl,rfl,l,c⟩,k⟩,PySem.W.mg_of X G n,fun s us X' hl=>by rw[Ng]at hl ⊢;exact PySem.W.kp_binds X' (hb us hl)⟩
end
section
variable {X:Cx} {x:Str} {p pos:Pos} {e:Expr} {es:List Expr} {t:DTA} {id T:String} {o:Expr} {to:DTE} {a b c:Expr} {ta tb tc:DTE}
theorem p8{g:DRC}(hc:bb X (.builtin id) g)(hg:Gl X x)(hm:X.mg x=none)(hv:bootBuiltins x=some (.builtin id))(ha:JA X (e :: es) t)
  (hn:x ≠ "__name__" := by decide) (hdb:(x == ("__debug__" : Str))=false:=by decide) (he:starEach (e :: es) X.env=(false,eval e X.env) :: starEach es X.env:=by rfl) (hpl:(backTo pos (starEach es X.env)).any (·.1)=false:=by rfl):JE X (.Call (.Name x p) (e :: es) [] pos) (dCB g t):=⟨have ha:=ha.out;(vS hc hg hm hv ha hn hdb he hpl).imp fun _ _ _ h=>Hh h⟩
noncomputable def GH:D→Mem→DK→Prop:=fun x M R=>∃ i,x = .int i∧R (.int (Builtin.Int.intBits i:Nat)) M
theorem Ah{apos cpos:Pos}(ho:JE X o to)(hbase:attributeBase o "bit_length" X.env (eval o X.env)=eval o X.env:=by rfl)(hline:(apos.endLine == cpos.line)=true:=by rfl):JE X (.Call (.Attribute o "bit_length" apos) [] [] cpos) (dUn GH to):=⟨have ho:=ho.out;(DG PySem.F.plainAttrs_int PySem.F.slot_int_bit_length PySem.F.type_int_bit_length zX ho hbase hline).imp (by rintro σ H Q ⟨e,M,R,ok,am,t,f⟩;exact⟨e,M,_,ok,am,t,fun x M1 ⟨i,z,r⟩ v H1 k1 a1 r1=>by
  subst z;cases r1;exact⟨rfl,i,rfl,rfl,f _ M1 r _ H1 k1 a1 (.int _)⟩⟩)⟩
theorem zL:OpR X (binaryOp .Add) (fun x y H Q=>∃ l b xs zs,x = .ref l∧y = .ref b∧SqL X.K H l xs∧SqL X.K H b zs∧xs.length+zs.length≤sizeLine∧∀ p,H p=none→Q (.ref p) (upd H p (.lst (xs++zs)))):=by
 intro pins s σ H x y v u Q I rx ry h
 obtain⟨l,b,xs,zs,rfl,rfl,hH,hB,hz,q⟩:=h
 cases rx
 cases ry
 obtain⟨its,r,pl,z1⟩:=I.list hH
 obtain⟨its2,r2,pl2,z2⟩:=I.list hB
 have hl:=r.length
 have hl2:=r2.length
 obtain⟨⟨cls,dd,data,sl⟩,ho,hc,n,hd⟩:=pl.isList
 obtain⟨⟨cls2,dd2,data2,sl2⟩,ho2,hc2,n2,hd2⟩:=pl2.isList
 simp only at hc hd hc2 hd2
 subst hc hd hc2 hd2
 have ea:its.toArray++its2.toArray=(its++its2).toArray:=by simp
 refine concat_meets ⟨_,ho,rfl⟩ ⟨_,ho2,rfl⟩ noFill_list_add seq_list_add PySem.F.slot_list_add PySem.F.entry_list_add (PySem.F.args_list_add_2 _ _) (list_addW l b its.toArray its2.toArray n n2 dd dd2 sl sl2 (by simp only[LV];omega)) ⟨ho,ho2,?_⟩
 rw[ea]
 exact⟨.ref _,_,I.lnew (t':=s.toks) (r.append r2) (by rw[LQ];omega),rfl,q _ I.fresh⟩
noncomputable def N9(M:Mem):D→Option (List D)
 | .ref p=>match M p with
  | some (.lst ds)=>some ds
  | _=>none
 | .vl ds=>some ds
 | _=>none
theorem C2{K:Lo}{H:Hp}{M:Mem}{v:V}{d:D}{ds:List D}(am:m8 K H M)(h:Has K H v d)(e:N9 M d=some ds):∃ a xs,v = .ref a∧SqL K H a xs∧HasL K H xs ds:=by
 cases h with
 | ref p =>
  unfold N9 at e
  cases q:M p with
  | none=>simp[q]at e
  | some o =>
   cases o with
   | lst es =>
    simp only[q]at e
    cases e
    obtain⟨xs,hx,l⟩:=am.lst q
    exact⟨p,xs,rfl,SqL.of hx,l⟩
   | ins C fs=>simp[q]at e
 | vl hq hl =>
  cases e
  exact Has.il (.vl hq hl)
 | _=>cases e
end
theorem sl(n:Nat)(h:n≤1000:=by decide):n≤sizeLine:=LB h (by decide)
section
variable {X:Cx}
open Classical in
def Ej(neg:Bool):DR2:=fun x y M R=>cl 60 x=true∧cl 60 y=true∧R (.bl (neg.xor (decide (x=y)))) M
theorem mF(hu:X.A.units+64<cLine):DOp X (compareOp .Eq) (Ej false):=OpR.imp (HW hu) (by rintro _ _ _ _ ⟨dx,dy,M,R,hx,hy,am,⟨h1,h2,h3⟩,f⟩;exact⟨dx,dy,M,R,hx,hy,am,wU h3 h1 h2,f⟩)
theorem wd(hu:X.A.units+64<cLine):DOp X (compareOp .NotEq) (Ej true):=OpR.imp (HR hu) (by rintro _ _ _ _ ⟨dx,dy,M,R,hx,hy,am,⟨h1,h2,h3⟩,f⟩;exact⟨dx,dy,M,R,hx,hy,am,wU h3 h1 h2,f⟩)
theorem D7:DOp X (compareOp .Eq) (gF (fI fun i j=>.bl (decide (i=j)))):=OpR.imp vW (by
 rintro x y H Q ⟨dx,dy,M,R,hx,hy,am,⟨z,e,r⟩,f⟩
 obtain⟨i,j,e1,e2,e3⟩:=jY e
 subst e1;subst e2;subst e3
 cases hx;cases hy
 refine⟨rfl,?_⟩
 have e:decide (V.int i=V.int j)=decide (i=j):=by simp
 rw[e]
 exact f _ M r _ H (KT.refl H) am (.bl _))
theorem Gf:DOp X (compareOp .NotEq) (gF (fI fun i j=>.bl (!decide (i=j)))):=OpR.imp vU (by
 rintro x y H Q ⟨dx,dy,M,R,hx,hy,am,⟨z,e,r⟩,f⟩
 obtain⟨i,j,e1,e2,e3⟩:=jY e
 subst e1;subst e2;subst e3
 cases hx;cases hy
 refine⟨rfl,?_⟩
 have e:decide (V.int i=V.int j)=decide (i=j):=by simp
 rw[e]
 exact f _ M r _ H (KT.refl H) am (.bl _))
end
theorem wJ{c:Prop}[Decidable c]{A B:Prop}(h1:c→A)(h2:¬ c→B):if decide c=true then A else B:=by
 by_cases h:c
 ·rw[if_pos (decide_eq_true h)];exact h1 h
 ·rw[if_neg (by rw[decide_eq_false h];exact LN)];exact h2 h
theorem Gu{c:Prop}[Decidable c]{A B:Prop}(h1:¬ c→A)(h2:c→B):if (!decide c)=true then A else B:=by
 by_cases h:c
 ·rw[decide_eq_true h];rw[if_neg (by decide)];exact h2 h
 ·rw[decide_eq_false h];rw[if_pos (by decide)];exact h1 h
theorem K8{n k:Nat}(h:n<2 ^ k)(hk:0<k):n.log2<k:=by
 rcases Pp n with h0|h0
 ·subst h0;rw[Nat.log2_zero];exact hk
 ·exact(Pd (Pe.mp h0)).mpr h
theorem j6{a b:Int}(m n:Nat)(ha:a.natAbs<2 ^ m)(hb:b.natAbs<2 ^ n)(h:m+n≤100000):IntMulOk a b:=by
 have hx:∀(x:Int) (k:Nat),x.natAbs<2 ^ k→Builtin.Int.intBits x≤k:=fun x k hx=>by
  unfold Builtin.Int.intBits
  split
  ·exact Mn _
  ·rename_i h0
   have:x.natAbs≠0:=by
    intro z;apply h0
    first|exact(by simpa using Int.natAbs_eq_zero.mp z)|(simp;omega)
   have:=(Pd this).mpr hx
   omega
 exact PySem.IntMulOk.of_le (hx a m ha) (hx b n hb) (by omega)
noncomputable def HZ(t T:String):Option Bool:=if PySem.W.kitMeta T=true then(fastBuiltinMro t).map (·.contains (.type T))else none
theorem FJ(K:Lo):xD K:=by
 intro t T b h
 unfold yP at h
 by_cases e:t=T
 ·subst e
  rw[if_pos rfl]at h
  cases h
  unfold PySem.W.kitOne
  rw[if_pos (beq_self_eq_true _)]
 ·rw[if_neg e]at h
  have hne:¬ (Value.type t == Value.type T)=true:=fun z=>e (by have:=eq_of_beq z;injection this)
  unfold PySem.W.kitOne
  rw[if_neg hne]
  show HZ t T=some b
  split at h
  ·cases h;decide +kernel
  ·split at h
   ·rename_i hh
    obtain⟨ht,hT⟩:=hh
    simp only[Lz,LU,or_false]at ht hT
    cases h
    rcases ht with rfl|rfl|rfl|rfl|rfl|rfl|rfl<;>rcases hT with rfl|rfl|rfl|rfl|rfl<;>first|exact absurd rfl e|decide +kernel|(exfalso;simp_all)
   ·cases h
theorem ox{K:Lo}{H:Hp}{a:Addr}{ns:List Int}(hO:sV H)(hS:SqL K H a (ns.map V.int)):Has K H (.ref a) (.vl (ns.map D.int)):=by
 rcases hS with(h|⟨o,h⟩)|h
 ·rcases hO a with z|⟨o,xs,z⟩
  ·rw[z]at h;cases h
  ·rw[z]at h;cases h
 ·exact .vl (.inl ⟨o,h⟩) (HasL.ints ns)
 ·exact .vl (.inr fun _=>.inr h) (HasL.ints ns)
theorem DZ{K:Lo}{H:Hp}{a:Addr}{ns:List Int}{sp:DSp}(hO:sV H)(hS:SqL K H a (ns.map V.int))(h:sp [.vl (ns.map D.int)] (fun _=>none) (fun d _=>d = .bl true) Y0) :
  lE K sp [.ref a] H (fun v _=>v = .bl true) (fun _ _ _=>False) :=
 ⟨[.vl (ns.map D.int)],fun _=>none,fun d _=>d = .bl true,Y0,.cons (ox hO hS) .nil,fun _ _ z=>(by cases z),h,fun d M' e v H' _ _ hv=>by subst e;cases hv;rfl,fun _ _ z=>z.elim⟩
section
variable {X:Cx} {o e:Expr} {es:List Expr} {to:DTE} {t:DTA} {name:Str} {apos cpos:Pos} {id:String}
noncomputable abbrev DRM:=D→List D→Mem→DK→Prop
noncomputable def upM(K:Lo)(g:DRM):V→List V→Hp→VK→Prop:=fun x xs H Q=>∃ dx ds M R,Has K H x dx∧HasL K H xs ds∧m8 K H M∧g dx ds M R∧fw K H R Q
def DMt(X:Cx)(id:String)(g:DRM):Prop:=MtR X id (upM X.K g)
theorem MtR.imp{r r':V→List V→Hp→VK→Prop}(h:MtR X id r)(i:∀ x xs H Q,r' x xs H Q→r x xs H Q):MtR X id r':=fun pins s σ H x xs v us Q I rx rv q=>h pins s σ H x xs v us Q I rx rv (i x xs H Q q)
def dLM(g:DRM)(to:DTE)(t:DTA):DTE:=fun e M R=>to e M fun x M1=>(∃ l ds,x = .ref l∧M1 l=some (.lst ds))∧t e M1 fun xs M2=>g x xs M2 R
theorem mL{g:DRM}(slot:Slot "list" name id)(hty:typeOf (.builtin id)=pure (.type "method_descriptor"))(hm:DMt X id g)(ho:JE X o to)(ha:JA X (e :: es) t)
  (hbase:attributeBase o name X.env (eval o X.env)=eval o X.env:=by rfl)
  (hfew:((backTo cpos (starEach (e :: es) X.env)).all (fun x=>!x.1) && (backToKw cpos (keywordEach [] X.env)).all (fun x=>x.1.isSome)
   && decide ((e :: es).length+([]:List Keyword).length+(if ([]:List Keyword).isEmpty then 0 else 1)<30))=true:=by rfl)
  (hline:(apos.endLine == cpos.line)=true:=by rfl) (hs:starEach (e :: es) X.env=(false,eval e X.env) :: starEach es X.env:=by rfl) (hplain:(backTo cpos (starEach es X.env)).any (·.1)=false:=by rfl):JE X (.Call (.Attribute o name apos) (e :: es) [] cpos) (dLM g to t):=⟨have ho:=ho.out;have ha:=ha.out;(FV PySem.F.plainAttrs_list slot hty hm ho ha hbase hfew hline hs hplain).imp (by rintro σ H Q ⟨e,M,R,ok,am,t,f⟩;exact⟨e,M,_,ok,am,t,fun x M1 ⟨⟨l,ds,z,hM⟩,h1⟩ v H1 k1 a1 r1=>by
  subst z
  have r1':=r1
  cases r1
  obtain⟨xs,hx,_⟩:=a1.lst hM
  refine⟨.inl ⟨rfl,xs,SqL.of hx⟩,e,M1,_,ok.mono k1,a1,h1,fun zs M2 h2 vs H2 k2 a2 r2=>?_⟩
  exact⟨_,zs,M2,R,r1'.mono k2,r2,a2,h2,f.mono (k1.trans k2)⟩⟩)⟩
theorem X5:∀{bs:List Bool} {us:List Value},i7 (bs.map V.bl) us→us=bs.map Value.bool
 | [],_,r=>by cases r;rfl
 | b :: bs,_,r=>by
  cases r with
  | cons r rr =>
   cases(show _=Value.bool b from r)
   rw[X5 rr];rfl
theorem HasL.bools{K:Lo}{H:Hp}:∀{bs:List Bool} {vs:List V},HasL K H vs (bs.map D.bl)→vs=bs.map V.bl
 | [],_,r=>by cases r;rfl
 | b :: bs,_,r=>by
  cases r with
  | cons r rr=>cases r;rw[HasL.bools rr];rfl
noncomputable def fB(f:Bool→Bool→D):D→D→Option D
 | .bl i,.bl j=>some (f i j)
 | _,_=>none
theorem qP{f:Bool→Bool→D}{x y z:D}(h:fB f x y=some z):∃ i j,x = .bl i∧y = .bl j∧z=f i j:=by
 cases x with
 | bl i =>
  cases y with
  | bl j=>exact⟨i,j,rfl,rfl,(Option.some.inj h).symm⟩
  | _=>cases h
 | _=>cases h
theorem Gi:DOp X (compareOp .Eq) (gF (fB fun i j=>.bl (i == j))):=OpR.imp vW (by
 rintro x y H Q ⟨dx,dy,M,R,hx,hy,am,⟨z,e,r⟩,f⟩
 obtain⟨i,j,e1,e2,e3⟩:=qP e
 subst e1;subst e2;subst e3
 cases hx;cases hy
 exact⟨rfl,by rw[ke];exact f _ M r _ H (KT.refl H) am (.bl _)⟩)
theorem Gg:DOp X (compareOp .NotEq) (gF (fB fun i j=>.bl (!(i == j)))):=OpR.imp vU (by
 rintro x y H Q ⟨dx,dy,M,R,hx,hy,am,⟨z,e,r⟩,f⟩
 obtain⟨i,j,e1,e2,e3⟩:=qP e
 subst e1;subst e2;subst e3
 cases hx;cases hy
 exact⟨rfl,by rw[ke];exact f _ M r _ H (KT.refl H) am (.bl _)⟩)
end
section
variable {X:Cx}
end
section
variable {X:Cx} {st:Stmt} {E4:List Stmt} {t u:DTS}
def BU(t u:DTS):DTS:=fun F e M=>∃ P:Ev→Mem→Prop,t { F with nx:=P } e M∧∀ e' M',P e' M'→u F e' M'
theorem W4(h1:JS X st t)(h2:JSs X E4 u):JSs X (st :: E4) (BU t u):=⟨have h1:=h1.out;have h2:=h2.out;(me h1 h2).imp (by rintro E σ H ⟨e,M,F,ok,am,⟨P,t,hP⟩,f⟩;exact⟨e,M,{ F with nx:=P },ok,am,t,⟨fun e' M' h σ' H' k a o=>⟨e',M',F,o,a,hP e' M' h,f.mono k⟩,f.rt,f.bk,f.ct⟩⟩)⟩
end
section
variable {X:Cx}
theorem rS(bs:List Bool):(MJ bs.length).all (fun i=>bs.getD i true)=bs.all id:=by
 have:(MJ bs.length).map (fun i=>bs.getD i true)=bs:=by
  apply NR (by simp)
  intro i h1 h2
  simp[LF,h2]
 conv=>rhs;rw[← this]
 rw[List.all_map];rfl
theorem rR(bs:List Bool):(MJ bs.length).any (fun i=>bs.getD i true)=bs.any id:=by
 have:(MJ bs.length).map (fun i=>bs.getD i true)=bs:=by
  apply NR (by simp)
  intro i h1 h2
  simp[LF,h2]
 conv=>rhs;rw[← this]
 rw[List.any_map];rfl
theorem bR{prog:Program}{w:World}{A:Around}(bs:List Bool):TruthOf prog w A (fun i v=>(bs.map Value.bool).toArray[i]? = some v) (fun i=>bs.getD i true):=by
 intro i v s Q E h q
 have h':(bs.map Value.bool)[i]? = some v:=by simpa using h
 rw[LS]at h'
 cases e:bs[i]? with
 | none=>rw[e]at h';cases h'
 | some b =>
  rw[e]at h'
  cases h'
  have q':Q b s:=by simpa[LF,e]using q
  exact wpAny_truthy_bool q'
theorem sT(hc:X.calm=true):A6 X (.builtin "all") (fun xs H Q=>∃(l:Addr) (bs:List Bool),xs=[.ref l]∧SqL X.K H l (bs.map V.bl)∧Q (.bl (bs.all id)) H):=by
 intro pins s σ H xs us Q I r h
 obtain⟨l,bs,rfl,hS,q⟩:=h
 obtain⟨u,rfl,ru⟩:=lD r
 cases ru
 obtain⟨its,rv,p,_⟩:=I.list hS
 have hb:=X5 rv
 subst hb
 have hl:s.heap.IsList l (bs.map Value.bool).toArray:=p.isList
 have hne:l≠s.heap.objs.size:=by
  obtain⟨o,e,_⟩:=id hl
  exact Md (LD e)
 refine call_all_walk (wpAny_pyIter_list hl ?_)
 refine⟨s.heap.objs.size,_,_,_,_,_,fun i=>bs.getD i true,rfl,Walks.list (A:=X.A.in1) (I.ok.hd hc) s.heap.objs.size l hne (bs.map Value.bool).toArray,⟨⟨_,LL _ rfl,rfl,rfl⟩,hl.at fun o e=>Lq _ e⟩,bR bs,fun h' tk kk=>?_⟩
 have e:(MJ (bs.map Value.bool).toArray.size).all (fun i=>bs.getD i true)=bs.all id:=by
  rw[show(bs.map Value.bool).toArray.size=bs.length by simp];exact rS bs
 rw[e]
 exact⟨.bl (bs.all id),H,I.kept fun b o z=>kk b o (by simp;exact Md (LD z)) (Lq _ z),rfl,q⟩
theorem sS(hc:X.calm=true):A6 X (.builtin "any") (fun xs H Q=>∃(l:Addr) (bs:List Bool),xs=[.ref l]∧SqL X.K H l (bs.map V.bl)∧Q (.bl (bs.any id)) H):=by
 intro pins s σ H xs us Q I r h
 obtain⟨l,bs,rfl,hS,q⟩:=h
 obtain⟨u,rfl,ru⟩:=lD r
 cases ru
 obtain⟨its,rv,p,_⟩:=I.list hS
 have hb:=X5 rv
 subst hb
 have hl:s.heap.IsList l (bs.map Value.bool).toArray:=p.isList
 have hne:l≠s.heap.objs.size:=by
  obtain⟨o,e,_⟩:=id hl
  exact Md (LD e)
 refine call_any_walk (wpAny_pyIter_list hl ?_)
 refine⟨s.heap.objs.size,_,_,_,_,_,fun i=>bs.getD i true,rfl,Walks.list (A:=X.A.in1) (I.ok.hd hc) s.heap.objs.size l hne (bs.map Value.bool).toArray,⟨⟨_,LL _ rfl,rfl,rfl⟩,hl.at fun o e=>Lq _ e⟩,bR bs,fun h' tk kk=>?_⟩
 have e:(MJ (bs.map Value.bool).toArray.size).any (fun i=>bs.getD i true)=bs.any id:=by
  rw[show(bs.map Value.bool).toArray.size=bs.length by simp];exact rR bs
 rw[e]
 exact⟨.bl (bs.any id),H,I.kept fun b o z=>kk b o (by simp;exact Md (LD z)) (Lq _ z),rfl,q⟩
def GJ:DRC:=fun ds M R=>∃(d:D) (bs:List Bool),ds=[d]∧N9 M d=some (bs.map D.bl)∧R (.bl (bs.all id)) M
def GI:DRC:=fun ds M R=>∃(d:D) (bs:List Bool),ds=[d]∧N9 M d=some (bs.map D.bl)∧R (.bl (bs.any id)) M
theorem Hm(hc:X.calm=true):bb X (.builtin "all") GJ:=A6.imp (sT hc) (by
 rintro xs H Q ⟨ds,M,R,hl,am,⟨d,bs,z,hM,r⟩,f⟩
 subst z
 obtain⟨v,rfl,hv⟩:=hl.one
 obtain⟨a,vs,rfl,s,l⟩:=C2 am hv hM
 rw[l.bools]at s
 exact⟨a,bs,rfl,s,f _ M r _ H (KT.refl H) am (.bl _)⟩)
theorem Hl(hc:X.calm=true):bb X (.builtin "any") GI:=A6.imp (sS hc) (by
 rintro xs H Q ⟨ds,M,R,hl,am,⟨d,bs,z,hM,r⟩,f⟩
 subst z
 obtain⟨v,rfl,hv⟩:=hl.one
 obtain⟨a,vs,rfl,s,l⟩:=C2 am hv hM
 rw[l.bools]at s
 exact⟨a,bs,rfl,s,f _ M r _ H (KT.refl H) am (.bl _)⟩)
end
theorem Ey:bootBuiltins "all" = some (.builtin "all"):=by decide +kernel
theorem Ex:bootBuiltins "any" = some (.builtin "any"):=by decide +kernel
structure GlD(K:Lo)(mg:Str→Option Value)(x:Str)(d:D):Prop where
 ex:∃(v:V) (u:Value),mg x=some u∧j7 v u∧Hs K v d
theorem E7{X:Cx}{x:Str}{d:D}{pos:Pos}(hg:Gl X x)(g:GlD X.K X.mg x d)(hd:(x == ("__debug__" : Str))=false:=by decide):JE X (.Name x pos) (dC d):=⟨by
 obtain⟨v,u,h1,h2,h3⟩:=g.ex
 exact Eo hg h1 h2 h3 hd⟩
theorem Am{K:Lo}{mg:Str→Option Value}{h:Heap}{x:Str}{a:Addr}{od:Option Addr}{osl:Array (Option Value)}{i j:Int}{t u:Tok}{cap:Nat}(X:K.In h)(G:h.Ns mainGlobals mg)
  (n:PySem.W.nsIn K mainGlobals x=some (some (.ref a))) (l:K.lookup a=some ⟨.type "tuple",od,.seq #[.int i t,.int j u] cap,osl⟩):GlD K mg x (.tup [.int i,.int j]) :=
 ⟨.ref a,.ref a,PySem.W.mg_of X G n,rfl,fun H=>.tup (xs:=[.int i,.int j]) (.inr ⟨_,_,_,l,rfl,rfl,(show 2≤sizeLine by decide),.cons (show j7 (.int i) (.int i t)from⟨t,rfl⟩) (.cons (show j7 (.int j) (.int j u)from⟨u,rfl⟩) .nil)⟩) (.cons (.int i) (.cons (.int j) .nil))⟩
noncomputable def fS(f:Str→Str→D):D→D→Option D
 | .str i,.str j=>some (f i j)
 | _,_=>none
theorem qO{f:Str→Str→D}{x y z:D}(h:fS f x y=some z):∃ i j,x = .str i∧y = .str j∧z=f i j:=by
 cases x with
 | str i =>
  cases y with
  | str j=>exact⟨i,j,rfl,rfl,(Option.some.inj h).symm⟩
  | _=>cases h
 | _=>cases h
section
variable {X:Cx}
theorem gT:DOp X (compareOp .Eq) (gF (fS fun i j=>.bl (decide (i=j)))):=OpR.imp vW (by
 rintro x y H Q ⟨dx,dy,M,R,hx,hy,am,⟨z,e,r⟩,f⟩
 obtain⟨i,j,e1,e2,e3⟩:=qO e
 subst e1;subst e2;subst e3
 cases hx;cases hy
 refine⟨rfl,?_⟩
 have e:decide (V.str i=V.str j)=decide (i=j):=by simp
 rw[e]
 exact f _ M r _ H (KT.refl H) am (.bl _))
theorem Ge:DOp X (compareOp .NotEq) (gF (fS fun i j=>.bl (!decide (i=j)))):=OpR.imp vU (by
 rintro x y H Q ⟨dx,dy,M,R,hx,hy,am,⟨z,e,r⟩,f⟩
 obtain⟨i,j,e1,e2,e3⟩:=qO e
 subst e1;subst e2;subst e3
 cases hx;cases hy
 refine⟨rfl,?_⟩
 have e:decide (V.str i=V.str j)=decide (i=j):=by simp
 rw[e]
 exact f _ M r _ H (KT.refl H) am (.bl _))
end
structure nj(K:Lo)(H1:Hp)(J:It)(ds:List D)(stay:Mem→Prop):Prop where
 go:∀ i H' M',i<ds.length→KT H1 H'→m8 K H' M'→stay M'→J.go i H'
 yld:∀ i H' M' x H'',i<ds.length→KT H1 H'→m8 K H' M'→stay M'→J.yld i H' x H''→∃ d,ds[i]? = some d∧KT H' H''∧m8 K H'' M'∧Has K H'' x d
 stop:∀ i H' M',ds.length≤i→KT H1 H'→m8 K H' M'→stay M'→J.stop i H'
 up:∀ M' p o,stay M'→M' p=none→stay (B9 M' p o)
def upI(K:Lo)(ti:DTI):TI:=fun σ H R=>∃ e M R',A2 K H σ e∧m8 K H M∧ti e M R'∧∀ ds stay M1,R' ds stay M1→∀ H1,KT H H1→m8 K H1 M1→∀ J,nj K H1 J ds stay→R J H1
def DPI(X:Cx)(tg iter:Expr)(ti:DTI):Prop:=PI X tg iter (upI X.K ti)
structure JI(X:Cx)(tg iter:Expr)(ti:DTI):Prop where
 out:DPI X tg iter ti
theorem PI.imp{X:Cx}{tg iter:Expr}{wi wi':TI}(h:PI X tg iter wi)(i:∀ σ H R,wi' σ H R→wi σ H R):PI X tg iter wi':=fun pins s σ H R I q=>h pins s σ H R I (i σ H R q)
section
variable {X:Cx} {tg iter:Expr} {ti:DTE} {ta:DTA}
theorem uH{K:Lo}{H1:Hp}{a:Addr}{xs:List V}{ds:List D}(s:SqT K H1 a xs)(l:HasL K H1 xs ds):nj K H1 (Itt K a) ds (fun _=>True) where
 go:=fun i H' M' hi k _ _=>⟨xs,_,k.sq s,LJ (by rw[l.length];exact hi)⟩
 yld:=fun i H' M' x H'' hi k am _ zz=>by
  obtain⟨e,y⟩:=zz
  subst e
  obtain⟨d,hd,r⟩:=l.getV (y xs (k.sq s))
  exact⟨d,hd,KT.refl _,am,r.mono k⟩
 stop:=fun i H' M' hi k _ _=>⟨xs,k.sq s,by rw[l.length];exact hi⟩
 up:=fun _ _ _ _ _=>trivial
theorem uJ{K:Lo}{H1:Hp}{p:Addr}{ds:List D}:nj K H1 (Itl K p) ds (fun M'=>M' p=some (.lst ds)) where
 go:=fun i H' M' hi k am st=>by
  obtain⟨ys,hy,ly⟩:=am.lst st
  exact⟨ys,_,SqL.of hy,LJ (by rw[ly.length];exact hi)⟩
 yld:=fun i H' M' x H'' hi k am st zz=>by
  obtain⟨e,y⟩:=zz
  subst e
  obtain⟨ys,hy,ly⟩:=am.lst st
  obtain⟨d,hd,r⟩:=ly.getV (y ys (SqL.of hy))
  exact⟨d,hd,KT.refl _,am,r⟩
 stop:=fun i H' M' hi k am st=>by
  obtain⟨ys,hy,ly⟩:=am.lst st
  exact⟨ys,SqL.of hy,by rw[ly.length];exact hi⟩
 up:=fun M' q o st hq=>by rw[G1 (by intro e;subst e;rw[hq]at st;cases st)];exact st
theorem lC{K:Lo}{H1:Hp}{lo:Int}{n:Nat}:nj K H1 (Itr lo n) (I0 lo n) (fun _=>True) where
 go:=fun i H' M' hi k am st=>by rw[A0]at hi;exact hi
 yld:=fun i H' M' x H'' hi k am st zz=>by
  obtain⟨e,y⟩:=zz
  subst e;subst y
  rw[A0]at hi
  exact⟨_,eJ hi,KT.refl _,am,.int _⟩
 stop:=fun i H' M' hi k am st=>by rw[A0]at hi;exact hi
 up:=fun _ _ _ _ _=>trivial
theorem W2{a:Expr}{p p2:Pos}(hr:Gl X "range")(hm:X.mg "range" = none)(ha:JA X [a] ta)(hs0:starEach [a] X.env=[(false,eval a X.env)]:=by rfl):JI X tg (.Call (.Name "range" p) [a] [] p2) (BQ ta):=⟨have ha:=ha.out;PI.imp (rW hr hm ha hs0) (by rintro σ H R ⟨e,M,R',ok,am,t,f⟩;exact⟨e,M,_,ok,am,t,fun ds M1 ⟨j,z,b1,b2,r⟩ vs H1 k1 a1 r1=>by
  subst z
  obtain⟨v,rfl,hv⟩:=r1.one
  cases hv
  exact⟨j,rfl,b1,b2,f _ _ M1 r H1 k1 a1 _ lC⟩⟩)⟩
theorem wC{a b:Expr}{p p2:Pos}(hr:Gl X "range")(hm:X.mg "range" = none)(ha:JA X [a,b] ta)(hs0:starEach [a,b] X.env=[(false,eval a X.env),(false,eval b X.env)]:=by rfl)(hs1:starEach [b] X.env=[(false,eval b X.env)]:=by rfl):JI X tg (.Call (.Name "range" p) [a,b] [] p2) (xg ta):=⟨have ha:=ha.out;PI.imp (rV hr hm ha hs0 hs1) (by rintro σ H R ⟨e,M,R',ok,am,t,f⟩;exact⟨e,M,_,ok,am,t,fun ds M1 ⟨i,j,z,b1,r⟩ vs H1 k1 a1 r1=>by
  subst z
  cases r1 with
  | cons h1 r1 =>
   obtain⟨v,rfl,hv⟩:=r1.one
   cases h1
   cases hv
   exact⟨i,j,rfl,b1,f _ _ M1 r H1 k1 a1 _ lC⟩⟩)⟩
def u9(M:Mem)(x:D)(ds:List D):Prop:=x = .tup ds∨(∃ p,x = .ref p∧M p=some (.lst ds))∨x = .vl ds
noncomputable def eZ:D→Bool
 | .tup _=>false
 | _=>true
theorem u8{K:Lo}{H:Hp}{M:Mem}{v:V}{x:D}{ds:List D}(h:u9 M x ds)(am:m8 K H M)(r:Has K H v x):∃ a xs,v = .ref a∧SqK K (eZ x) H a xs∧HasL K H xs ds:=by
 rcases h with rfl|⟨p,rfl,m⟩|rfl
 rotate_left 2
 ·obtain⟨a,xs,e,sq,l⟩:=r.il
  exact⟨a,xs,e,sq,l⟩
 ·cases r with
  | tup s l=>exact⟨_,_,rfl,s,l⟩
 ·cases r
  obtain⟨xs,hx,l⟩:=am.lst m
  exact⟨p,xs,rfl,SqL.of hx,l⟩
theorem V3{M:Mem}{x:D}{ds:List D}{q:Addr}{o:MO}(h:u9 M x ds)(hq:M q=none):u9 (B9 M q o) x ds:=by
 rcases h with h|⟨p,e,h⟩|h
 ·exact .inl h
 ·exact .inr (.inl ⟨p,e,by rw[G1 (by intro e;subst e;rw[hq]at h;cases h)];exact h⟩)
 ·exact .inr (.inr h)
noncomputable def bc(ds es:List D):List D:=List.zipWith (fun a b=>.tup [a,b]) ds es
theorem bI(ds es:List D):(bc ds es).length=min ds.length es.length:=by simp[bc]
theorem sY{ds es:List D}{i:Nat}{a b:D}(h1:ds[i]? = some a)(h2:es[i]? = some b):(bc ds es)[i]? = some (.tup [a,b]):=by
 unfold bc
 rw[List.getElem?_zipWith,h1,h2]
theorem uG{K:Lo}{H1:Hp}{x y:D}{l1 l2:Addr}{ds es:List D}(h1:Has K H1 (.ref l1) x)(h2:Has K H1 (.ref l2) y) :
  nj K H1 (Itz K (eZ x) (eZ y) l1 l2) (bc ds es) (fun M'=>u9 M' x ds∧u9 M' y es) where
 go:=fun i H' M' hi k am zz=>by
  obtain⟨s1,s2⟩:=zz
  rw[bI]at hi
  obtain⟨a,xs,e1,q1,m1⟩:=u8 s1 am (h1.mono k)
  obtain⟨b,ys,e2,q2,m2⟩:=u8 s2 am (h2.mono k)
  cases e1;cases e2
  exact⟨xs,ys,_,_,q1,q2,LJ (by rw[m1.length];omega),LJ (by rw[m2.length];omega)⟩
 yld:=fun i H' M' v H'' hi k am ⟨s1,s2⟩ ⟨T,a,b,hT,ev,eH,u1,u2⟩=>by
  subst ev;subst eH
  obtain⟨a',xs,e1,q1,m1⟩:=u8 s1 am (h1.mono k)
  obtain⟨b',ys,e2,q2,m2⟩:=u8 s2 am (h2.mono k)
  cases e1;cases e2
  obtain⟨d1,g1,r1⟩:=m1.getV (u1 xs q1)
  obtain⟨d2,g2,r2⟩:=m2.getV (u2 ys q2)
  have kt:KT H' (upd H' T (.tup [a,b])):=KT.alloc hT
  exact⟨_,sY g1 g2,kt,am.alloc hT,.tup (SqT.of i8) (.cons (r1.mono kt) (.cons (r2.mono kt) .nil))⟩
 stop:=fun i H' M' hi k am zz=>by
  obtain⟨s1,s2⟩:=zz
  rw[bI]at hi
  obtain⟨a,xs,e1,q1,m1⟩:=u8 s1 am (h1.mono k)
  obtain⟨b,ys,e2,q2,m2⟩:=u8 s2 am (h2.mono k)
  cases e1;cases e2
  refine⟨xs,ys,q1,q2,?_⟩
  rw[m1.length,m2.length]
  omega
 up:=fun _ _ _ st hq=>⟨V3 st.1 hq,V3 st.2 hq⟩
def BO(ta:DTA):DTI:=fun e M R=>ta e M fun xs M1=>∃ x y ds es,xs=[x,y]∧u9 M1 x ds∧u9 M1 y es∧R (bc ds es) (fun M'=>u9 M' x ds∧u9 M' y es) M1
theorem qG{elts:List Expr}{kx:Nat}{tp:Pos}{a b:Expr}{p pos:Pos}(hg:Gl X "zip")(hm:X.mg "zip" = none)(ha:JA X [a,b] ta)
  (hs:starEach [a,b] X.env=[(false,eval a X.env),(false,eval b X.env)]:=by rfl) (hs2:starEach [b] X.env=[(false,eval b X.env)]:=by rfl):JI X (.Tuple elts kx tp) (.Call (.Name "zip" p) [a,b] [] pos) (BO ta):=⟨have ha:=ha.out;PI.imp (Dv hg hm ha hs hs2) (by rintro σ H R ⟨e,M,R',ok,am,t,f⟩;exact⟨e,M,_,ok,am,t,fun xs M1 ⟨x,y,ds,es,z,s1,s2,r⟩ vs H1 k1 a1 r1=>by
  subst z
  obtain⟨v,v',rfl,hv,hv'⟩:=r1.two
  obtain⟨a,zs,rfl,q1,m1⟩:=u8 s1 a1 hv
  obtain⟨b,ws,rfl,q2,m2⟩:=u8 s2 a1 hv'
  exact⟨_,_,a,b,rfl,⟨zs,q1⟩,⟨ws,q2⟩,f _ _ M1 r H1 k1 a1 _ (uG hv hv')⟩⟩)⟩
end
section
variable {X:Cx} {tg iter:Expr} {body:List Stmt} {ti:DTI} {g:DTG} {tb:DTS} {pos:Pos}
theorem t8(hp:PassesOwn (model X.prog X.w) X.A X.env X.xe)(hc:X.calm=true)(hi:JI X tg iter ti)(hg:JG X tg g)(hb:JSs X body tb)
  (hs:∀ x,foldedSetIterable iter X.env x=pure x:=by intro _;rfl):JS X (.For tg iter body [] pos) (GZ ti g tb):=⟨have hi:=hi.out;have hg:=hg.out;have hb:=hb.out;(Dt hp hc hi hg hb hs).imp (by rintro E σ H ⟨e,M,F,ok,am,t,f⟩;exact⟨e,M,_,ok,am,t,fun ds stay M1 ⟨W,w0,hst,step,done⟩ H1 k1 a1 J wk=>by
  refine⟨fun i m σ' H'=>m=ds.length - i∧i≤ds.length∧∃ e' M',KT H1 H'∧A2 X.K H' σ' e'∧m8 X.K H' M'∧W i e' M',⟨ds.length,by simp,Mn _,e,M1,KT.refl H1,ok.mono k1,a1,w0⟩,?_⟩
  rintro i m σ2 H2 ⟨rfl,hi,e2,M2,k2,ok2,a2,w2⟩
  have st:=hst i e2 M2 hi w2
  by_cases hlt:i<ds.length
  ·refine .inr ⟨wk.go i H2 M2 hlt k2 a2 st,fun σ' H'=>∃ e' M',KT H1 H'∧A2 X.K H' σ' e'∧m8 X.K H' M'∧W (i+1) e' M',fun σ' H' h=>⟨ds.length - (i+1),by omega,rfl,hlt,h⟩,fun y H' yl=>?_⟩
   obtain⟨d,hd,k3,a3,r⟩:=wk.yld i H2 M2 y H' hlt k2 a2 st yl
   exact wW f k1 (k2.trans k3) (ok2.mono k3) a3 r (step i d e2 M2 hd w2)
  ·have e':i=ds.length:=by omega
   subst e'
   exact .inl ⟨wk.stop _ H2 M2 (LM _) k2 a2 st,f.nx e2 M2 (done e2 M2 w2) σ2 H2 (k1.trans k2) a2 ok2⟩⟩)⟩
end
noncomputable def nc(n:Nat)(caps:List Nat)(e:Ev):Ev:=Nc n none++caps.map fun i=>(e[i]?).getD none
theorem Ao{K:Lo}{H:Hp}{σ:St}{e:Ev}(n:Nat)(caps:List Nat)(ok:A2 K H σ e):A2 K H (kr n caps σ) (nc n caps e):=by
 refine⟨by simp[kr,nc],fun i d h=>?_⟩
 unfold nc at h
 unfold kr
 rw[NV]at h ⊢
 rw[NK]at h ⊢
 by_cases hi:i<n
 ·rw[if_pos hi]at h
  rw[MD]at h
  split at h<;>cases h
 ·rw[if_neg hi]at h ⊢
  rw[LS]at h ⊢
  cases hj:caps[i - n]? with
  | none=>rw[hj]at h;cases h
  | some j =>
   rw[hj]at h
   have h':(e[j]?).getD none=some d:=by simpa using h
   have he:e[j]? = some (some d):=by
    cases q:e[j]? with
    | none=>rw[q]at h';cases h'
    | some z=>rw[q]at h';rw[show z=some d by simpa using h']
   obtain⟨v,h1,h2⟩:=ok.has j d he
   exact⟨v,by simp[h1],h2⟩
theorem aY{p:Str→Prop}{a:Str}(h:p a):∀ x∈[a],p x:=fun x hx=>by
 simp only[Lz,LU,or_false]at hx
 subst hx;exact h
theorem AA{p:Str→Prop}{a b:Str}(h:p a)(h2:p b):∀ x∈[a,b],p x:=fun x hx=>by
 simp only[Lz,LU,or_false]at hx
 rcases hx with rfl|rfl
 ·exact h
 ·exact h2
section
variable {X:Cx}
def Ic(K:Lo)(tl:TE):TI:=fun σ H R=>tl σ H fun x H1=>∃(a:Addr) (k:Bool),x = .ref a∧(∃ xs,SqK K k H1 a xs)∧R (if k=true then Itl K a else Itt K a) H1
theorem Dw{tg l:Expr}{tl:TE}(hl:PE X l tl):PI X tg l (Ic X.K tl):=by
 intro pins s σ H R I h
 refine thn (hl pins s σ H _ I h) fun v s1 zz=>?_
 obtain⟨x,H1,I1,r1,q1⟩:=zz
 obtain⟨a,k,e,⟨xs,hq⟩,q⟩:=q1
 subst e
 cases r1
 obtain⟨its,rv,p⟩:=I1.sqk hq
 have nf:∀ b∈[s1.heap.objs.size],ag X pins H1 b:=fun b hb=>by
  have e:b=s1.heap.objs.size:=by simpa using hb
  subst e
  exact I1.fpOk (LM _) (I1.hok.fresh (LM _))
 cases k with
 | true=>exact wpAny_pyIter_list p ⟨s1.heap.objs.size,[s1.heap.objs.size],_,_,H1,rfl,I1.kept (t':=s1.toks) fun b o e=>Lq _ e,rJ a _,⟨_,LL _ rfl,rfl,rfl⟩,nf,q⟩
 | false=>exact wpAny_pyIter_tuple p ⟨s1.heap.objs.size,[s1.heap.objs.size],_,_,H1,rfl,I1.kept (t':=s1.toks) fun b o e=>Lq _ e,nA a _,⟨_,LL _ rfl,rfl,rfl⟩,nf,q⟩
def BP(ti:DTE):DTI:=fun e M R=>ti e M fun x M1=>∃ ds,u9 M1 x ds∧R ds (fun M'=>u9 M' x ds) M1
theorem y4{tg iter:Expr}{ti:DTE}(hi:JE X iter ti):JI X tg iter (BP ti):=⟨have hi:=hi.out;PI.imp (Dw hi) (by rintro σ H R ⟨e,M,R',ok,am,t,f⟩;exact⟨e,M,_,ok,am,t,fun x M1 ⟨ds,sq,r⟩ v H1 k1 a1 r1=>by
 have sq':=sq
 rcases sq with rfl|⟨p,rfl,hm⟩|rfl
 rotate_left 2
 ·obtain⟨a,xs,rfl,sq,l⟩:=r1.il
  have wk:nj X.K H1 (Itl X.K a) ds (fun M'=>u9 M' (.vl ds) ds):=⟨fun i H' M' hi k am _=>by
    obtain⟨a',ys,e,sq',l'⟩:=(r1.mono k).il
    cases e
    exact⟨ys,_,sq',LJ (by rw[l'.length];exact hi)⟩,
   fun i H' M' x H'' hi k am _ zz=>by
    obtain⟨e,y⟩:=zz
    subst e
    obtain⟨a',ys,e,sq',l'⟩:=(r1.mono k).il
    cases e
    obtain⟨d,hd,r⟩:=l'.getV (y ys sq')
    exact⟨d,hd,KT.refl _,am,r⟩,
   fun i H' M' hi k am _=>by
    obtain⟨a',ys,e,sq',l'⟩:=(r1.mono k).il
    cases e
    exact⟨ys,sq',by rw[l'.length];exact hi⟩,fun _ _ _ st hq=>V3 st hq⟩
  exact⟨a,true,rfl,⟨xs,sq⟩,f ds _ M1 r H1 k1 a1 _ wk⟩
 ·cases r1 with
  | tup s l =>
   refine⟨_,false,rfl,⟨_,s⟩,f ds _ M1 r H1 k1 a1 _ ?_⟩
   have w:=uH (K:=X.K) s l
   exact⟨fun i H' M' a b c _=>w.go i H' M' a b c trivial,fun i H' M' y H2 a b c _ g=>w.yld i H' M' y H2 a b c trivial g,fun i H' M' a b c _=>w.stop i H' M' a b c trivial,fun _ _ _ st hq=>V3 st hq⟩
 ·cases r1
  obtain⟨xs,hx,l⟩:=a1.lst hm
  refine⟨p,true,rfl,⟨xs,SqL.of hx⟩,f ds _ M1 r H1 k1 a1 _ ?_⟩
  have w:=uJ (K:=X.K) (H1:=H1) (p:=p) (ds:=ds)
  have cv:∀{M':Mem},u9 M' (.ref p) ds→M' p=some (.lst ds):=fun z=>by
   rcases z with z|⟨p',z,h⟩|z
   ·cases z
   ·cases z;exact h
   ·cases z
  exact⟨fun i H' M' a b c z=>w.go i H' M' a b c (cv z),fun i H' M' y H2 a b c z g=>w.yld i H' M' y H2 a b c (cv z) g,fun i H' M' a b c z=>w.stop i H' M' a b c (cv z),fun _ _ _ st hq=>V3 st hq⟩⟩)⟩
end
theorem wO{K:Lo}{mg:Str→Option Value}{h:Heap}{x:Str}{a b c:Addr}{od od1 od2:Option Addr}{osl osl1 osl2:Array (Option Value)}{i j k l:Int}{t1 t2 t3 t4:Tok}{cap cap1 cap2:Nat}(X:K.In h)(G:h.Ns mainGlobals mg)
  (n:PySem.W.nsIn K mainGlobals x=some (some (.ref a))) (l0:K.lookup a=some ⟨.type "tuple",od,.seq #[.ref b,.ref c] cap,osl⟩)
  (l1:K.lookup b=some ⟨.type "tuple",od1,.seq #[.int i t1,.int j t2] cap1,osl1⟩) (l2:K.lookup c=some ⟨.type "tuple",od2,.seq #[.int k t3,.int l t4] cap2,osl2⟩):GlD K mg x (.tup [.tup [.int i,.int j],.tup [.int k,.int l]]):=by
 have two:(2:Nat)≤sizeLine:=by decide
 have p1:∀ H:Hp,Has K H (.ref b) (.tup [.int i,.int j]):=fun H=>.tup (xs:=[.int i,.int j]) (.inr ⟨_,_,_,l1,rfl,rfl,two,.cons (show j7 (.int i) (.int i t1)from⟨t1,rfl⟩) (.cons (show j7 (.int j) (.int j t2)from⟨t2,rfl⟩) .nil)⟩) (.cons (.int i) (.cons (.int j) .nil))
 have p2:∀ H:Hp,Has K H (.ref c) (.tup [.int k,.int l]):=fun H=>.tup (xs:=[.int k,.int l]) (.inr ⟨_,_,_,l2,rfl,rfl,two,.cons (show j7 (.int k) (.int k t3)from⟨t3,rfl⟩) (.cons (show j7 (.int l) (.int l t4)from⟨t4,rfl⟩) .nil)⟩) (.cons (.int k) (.cons (.int l) .nil))
 exact⟨.ref a,.ref a,PySem.W.mg_of X G n,rfl,fun H=>.tup (xs:=[.ref b,.ref c]) (.inr ⟨_,_,_,l0,rfl,rfl,two,.cons (show j7 (.ref b) (.ref b)from rfl) (.cons (show j7 (.ref c) (.ref c)from rfl) .nil)⟩) (.cons (p1 H) (.cons (p2 H) .nil))⟩
theorem rz{ds:List D}{r:Int}(h0:0≤r)(h1:r<ds.length):∃ d,atI ds r=some d∧d∈ds:=by
 unfold atI ixN
 rw[if_pos h0,if_pos h1]
 have hl:r.toNat<ds.length:=by omega
 exact⟨ds[r.toNat],by simp[hl],Na hl⟩
section
variable {X:Cx}
end
section
variable {X:Cx}
def qL:DRM:=fun x xs M R=>∃ l ds v,x = .ref l∧xs=[v]∧M l=some (.lst ds)∧ds.length<sizeLine∧R .non (B9 M l (.lst (ds++[v])))
theorem O8:DMt X "list.append" qL:=MtR.imp (r:=qv) gW (by
 rintro x xs H Q ⟨dx,ds,M,R,hx,hl,am,⟨l,es,v,e1,e2,hM,hz,r⟩,f⟩
 subst e1;subst e2
 cases hx
 obtain⟨w,rfl,hw⟩:=hl.one
 obtain⟨ys,hy,ly⟩:=am.lst hM
 exact⟨l,ys,w,rfl,rfl,hy,by rw[ly.length];exact hz,f _ _ r _ _ (KT.write hy) (am.write hy (ly.append (.cons hw .nil))) .non⟩)
end
section
variable {X:Cx}
end
noncomputable abbrev DTO:=Ev→Mem→(Option Int→Mem→Prop)→Prop
def upO(K:Lo)(t:DTO):TO:=fun σ H Q=>∃ e M R,A2 K H σ e∧m8 K H M∧t e M R∧∀ o M',R o M'→∀ H',KT H H'→m8 K H' M'→Q o H'
def DPO(X:Cx)(e:Option Expr)(t:DTO):Prop:=PO X e (upO X.K t)
structure JO(X:Cx)(e:Option Expr)(t:DTO):Prop where
 out:DPO X e t
def qW:DTO:=fun _ M R=>R none M
def BV(t:DTE):DTO:=fun e M R=>t e M fun x M1=>∃ i,x = .int i∧R (some i) M1
theorem PO.imp{X:Cx}{e:Option Expr}{t t':TO}(h:PO X e t)(i:∀ σ H Q,t' σ H Q→t σ H Q):PO X e t':=fun pins s σ H Q I q=>h pins s σ H Q I (i σ H Q q)
section
variable {X:Cx} {e:Expr} {te:DTE} {lo hi:Option Expr} {tl th:DTO} {pos p2:Pos}
theorem B6:JO X none qW:=⟨PO.imp zq (by rintro σ H Q ⟨e,M,R,ok,am,t,f⟩;exact f none M t H (KT.refl H) am)⟩
theorem B5(h:JE X e te):JO X (some e) (BV te):=⟨have h:=h.out;PO.imp (zp h) (by rintro σ H Q ⟨e,M,R,ok,am,t,f⟩;exact⟨e,M,_,ok,am,t,fun x M1 ⟨i,z,r⟩ v H1 k1 a1 r1=>by
 subst z;cases r1
 exact⟨i,rfl,f (some i) M1 r H1 k1 a1⟩⟩)⟩
noncomputable def R5(ds:List D)(lo hi:Option Int):List D:=(ds.drop (HT.sIx ds.length 0 lo)).take (HT.sIx ds.length ds.length hi - HT.sIx ds.length 0 lo)
theorem HasL.cut{K:Lo}{H:Hp}{xs:List V}{ds:List D}(h:HasL K H xs ds)(lo hi:Option Int):HasL K H (mS xs lo hi) (R5 ds lo hi):=by
 unfold mS R5
 rw[h.length]
 exact(h.drop _).take _
def Ih(x:D)(lo hi:Option Int)(M:Mem)(R:DK):Prop:=∃ ds,N9 M x=some ds∧∀ p,M p=none→R (.ref p) (B9 M p (.lst (R5 ds lo hi)))
def dSl(te:DTE)(tl th:DTO):DTE:=fun e M R=>te e M fun x M1=>tl e M1 fun l M2=>th e M2 fun u M3=>Ih x l u M3 R
theorem wG(he:JE X e te)(hl:JO X lo tl)(hu:JO X hi th):JE X (.Subscript e (.Slice lo hi none p2) pos) (dSl te tl th):=⟨have he:=he.out;have hl:=hl.out;have hu:=hu.out;(mh qp he hl hu).imp (by rintro σ H Q ⟨e,M,R,ok,am,t,f⟩;exact⟨e,M,_,ok,am,t,fun x M1 h1 v H1 k1 a1 r1=>⟨e,M1,_,ok.mono k1,a1,h1,fun l M2 h2 H2 k2 a2=>⟨e,M2,_,(ok.mono k1).mono k2,a2,h2,fun u M3 ⟨ds,hi,r⟩ H3 k3 a3=>by
  obtain⟨a,xs,rfl,sq,lx⟩:=C2 a3 ((r1.mono k2).mono k3) hi
  exact⟨a,xs,rfl,sq,fun p hp=>f _ _ (r p (a3.fresh hp)) _ _ ((k1.trans (k2.trans k3)).trans (KT.alloc hp)) (a3.new hp (lx.cut l u)) (.ref p)⟩⟩⟩⟩)⟩
end
noncomputable def O7(ds:List D):List D:=ds.mapIdx fun i d=>.tup [.int i,d]
theorem J8(ds:List D):(O7 ds).length=ds.length:=by simp[O7]
theorem sL{ds:List D}{i:Nat}{d:D}(h:ds[i]? = some d):(O7 ds)[i]? = some (.tup [.int i,d]):=by
 unfold O7
 rw[OY,h];rfl
theorem mN{ds:List D}{i:Nat}{x:D}(h:(O7 ds)[i]? = some x):∃ d,ds[i]? = some d∧x = .tup [.int i,d]:=by
 unfold O7 at h
 rw[OY]at h
 cases e:ds[i]? with
 | none=>rw[e]at h;cases h
 | some d=>rw[e]at h;exact⟨d,rfl,(Option.some.inj h).symm⟩
theorem rH{K:Lo}{H1:Hp}{x:D}{l:Addr}{ds:List D}(h1:Has K H1 (.ref l) x):nj K H1 (Ite K (eZ x) l) (O7 ds) (fun M'=>u9 M' x ds) where
 go:=fun i H' M' hi k am s1=>by
  rw[J8]at hi
  obtain⟨a,xs,e1,q1,m1⟩:=u8 s1 am (h1.mono k)
  cases e1
  exact⟨xs,_,q1,LJ (by rw[m1.length];omega)⟩
 yld:=fun i H' M' v H'' hi k am s1 zz=>by
  obtain⟨T,a,hT,ev,eH,u1⟩:=zz
  subst ev;subst eH
  obtain⟨a',xs,e1,q1,m1⟩:=u8 s1 am (h1.mono k)
  cases e1
  obtain⟨d1,g1,r1⟩:=m1.getV (u1 xs q1)
  have kt:KT H' (upd H' T (.tup [.int i,a])):=KT.alloc hT
  exact⟨_,sL g1,kt,am.alloc hT,.tup (SqT.of i8) (.cons (.int _) (.cons (r1.mono kt) .nil))⟩
 stop:=fun i H' M' hi k am s1=>by
  rw[J8]at hi
  obtain⟨a,xs,e1,q1,m1⟩:=u8 s1 am (h1.mono k)
  cases e1
  exact⟨xs,q1,by rw[m1.length];exact hi⟩
 up:=fun _ _ _ st hq=>V3 st hq
section
variable {X:Cx} {ta:DTA}
def xh(ta:DTA):DTI:=fun e M R=>ta e M fun xs M1=>∃ x ds,xs=[x]∧u9 M1 x ds∧R (O7 ds) (fun M'=>u9 M' x ds) M1
theorem fb{elts:List Expr}{kx:Nat}{tp:Pos}{a:Expr}{p pos:Pos}(hg:Gl X "enumerate")(hm:X.mg "enumerate" = none)(ha:JA X [a] ta)(hs:starEach [a] X.env=[(false,eval a X.env)]:=by rfl):JI X (.Tuple elts kx tp) (.Call (.Name "enumerate" p) [a] [] pos) (xh ta):=⟨have ha:=ha.out;PI.imp (zr hg hm ha hs) (by rintro σ H R ⟨e,M,R',ok,am,t,f⟩;exact⟨e,M,_,ok,am,t,fun xs M1 ⟨x,ds,z,s1,r⟩ vs H1 k1 a1 r1=>by
  subst z
  obtain⟨v,rfl,hv⟩:=r1.one
  obtain⟨a,zs,rfl,q1,m1⟩:=u8 s1 a1 hv
  exact⟨_,a,rfl,⟨zs,q1⟩,f _ _ M1 r H1 k1 a1 _ (rH hv)⟩⟩)⟩
end
noncomputable def cm(M:Mem)(a:Addr):Mem:=fun b=>if b=a then none else M b
theorem kc{M:Mem}{a b:Addr}(h:b≠a):cm M a b=M b:=by unfold cm;rw[if_neg h]
theorem U6{M:Mem}{a:Addr}{o:MO}(h:M a=none):cm (B9 M a o) a=M:=by
 funext b;unfold cm B9;by_cases e:b=a
 ·rw[if_pos e,e,h]
 ·rw[if_neg e,if_neg e]
section
variable {K:Lo} {H:Hp} {M:Mem} {p:Addr}
theorem m8.at{o:HO}(h:m8 K H M)(k:KT0 H (upd H p o))(hp:M p=none):m8 K (upd H p o) M:=fun a u m=>by
 cases u with
 | lst ds =>
  obtain⟨xs,z,l⟩:=h a _ m
  have hn:a≠p:=by intro e;subst e;rw[hp]at m;cases m
  exact⟨xs,by rw[g8 hn];exact z,l.mono0 k⟩
 | ins C fs =>
  obtain⟨C0,dx,ys,z,l,hc⟩:=h a _ m
  have hn:a≠p:=by intro e;subst e;rw[hp]at m;cases m
  exact⟨C0,dx,ys,by rw[g8 hn];exact z,l.mono0 k,hc⟩
theorem m8.del(h:m8 K H M):m8 K H (cm M p):=fun a u m=>by
 by_cases e:a=p
 ·subst e;unfold cm at m;rw[if_pos rfl]at m;cases m
 ·rw[kc e]at m;exact h a u m
theorem sN:cm M p p=none:=by unfold cm;rw[if_pos rfl]
theorem m8.none_ext{φ:Heap→Prop}(h:m8 K H M)(e:H p=some (.ext φ)):M p=none:=by
 cases q:M p with
 | none=>rfl
 | some o =>
  cases o with
  | lst ds=>obtain⟨xs,z,_⟩:=h p _ q;rw[e]at z;cases z
  | ins C fs=>obtain⟨_,dx,ys,z,_⟩:=h p _ q;rw[e]at z;cases z
end
section
variable {X:Cx} {x:Expr} {t:DTE} {es:List Expr} {tr:DTA} {pos:Pos}
def GY(t:DTE):DTE:=fun e M R=>t e M fun x M1=>∃ p ds,x = .ref p∧M1 p=some (.lst ds)∧R (.vl ds) (cm M1 p)
theorem bC(h:JE X x t):JE X x (GY t):=⟨have h:=h.out;(eL h).imp (by rintro σ H Q ⟨e,M,R,ok,am,t,f⟩;exact⟨e,M,_,ok,am,t,fun d M1 ⟨p,ds,z,hm,r⟩ v H1 k1 a1 r1=>by
 subst z
 cases r1
 obtain⟨xs,hx,lx⟩:=a1.lst hm
 exact⟨p,xs,rfl,hx,fun o=>f _ _ r _ _ (k1.trans (KT.any hx)) (a1.del.at (KT.any hx).toKT0 sN) (.vl (.inl ⟨o,i8⟩) (lx.mono (KT.any hx)))⟩⟩)⟩
def Ha(t:DTE):DTE:=fun e M R=>t e M fun x M1=>∃ M2:Mem,(∀ b o,M2 b=some o→M1 b=some o)∧R x M2
theorem bD(h:JE X x t):JE X x (Ha t):=⟨have h:=h.out;PE.imp h (by rintro σ H Q ⟨e,M,R,ok,am,t,f⟩;exact⟨e,M,_,ok,am,t,fun d M1 ⟨M2,hs,r⟩ v H1 k1 a1 r1=>f d M2 r v H1 k1 (fun a o q=>a1 a o (hs a o q)) r1⟩)⟩
def BY(t:DTA):DTE:=fun e M R=>t e M fun ds M1=>ds.length≤sizeLine∧R (.vl ds) M1
theorem cZ{K:Lo}{H0 H:Hp}{M:Mem}{R:DK}{Q:VK}{vs:List V}{ds:List D}(f:fw K H0 R Q)(k:KT H0 H)(am:m8 K H M)(l:HasL K H vs ds)(r:R (.vl ds) M)(p:Addr)(hp:H p=none) :
  ∃ q xs,V.ref p = .ref q∧upd H p (.lst vs) q=some (.lst xs)∧∀ o,Q (.ref p) (upd (upd H p (.lst vs)) q (.frz o (.lst xs))) :=
 ⟨p,vs,rfl,i8,fun o=>by
  rw[aj]
  exact f _ M r _ _ (k.trans (KT.alloc hp)) (am.alloc hp) (.vl (.inl ⟨o,i8⟩) (l.mono (KT.alloc hp)))⟩
theorem C5(h:JA X es tr):JE X (.List es pos) (BY tr):=⟨have h:=h.out;(eL (vP h)).imp (by rintro σ H Q ⟨e,M,R,ok,am,t,f⟩;exact⟨e,M,_,ok,am,t,fun ds M1 ⟨hz,h1⟩ vs H1 k1 a1 r1=>⟨by rw[r1.length];exact hz,fun p hp=>cZ f k1 a1 r1 h1 p hp⟩⟩)⟩
def wV(x y:D)(M:Mem)(R:DK):Prop:=∃ xs ys,N9 M x=some xs∧N9 M y=some ys∧xs.length+ys.length≤sizeLine∧R (.vl (xs++ys)) M
def Ca(ta tb:DTE):DTE:=fun e M R=>ta e M fun x M1=>tb e M1 fun y M2=>wV x y M2 R
theorem L7{a b:Expr}{ta tb:DTE}(ha:JE X a ta)(hb:JE X b tb):JE X (.BinOp a .Add b pos) (Ca ta tb):=⟨have ha:=ha.out;have hb:=hb.out;(eL (BI zL ha hb)).imp (by rintro σ H Q ⟨e,M,R,ok,am,t,f⟩;exact⟨e,M,_,ok,am,t,fun x M1 h1 v H1 k1 a1 r1=>⟨e,M1,_,ok.mono k1,a1,h1,fun y M2 ⟨xs,ys,e1,e2,hz,r⟩ u H2 k2 a2 r2=>by
  obtain⟨a,vs,rfl,s1,l1⟩:=C2 a2 (r1.mono k2) e1
  obtain⟨b,ws,rfl,s2,l2⟩:=C2 a2 r2 e2
  exact⟨a,b,vs,ws,rfl,rfl,s1,s2,by rw[l1.length,l2.length];exact hz,fun p hp=>cZ f (k1.trans k2) a2 (l1.append l2) r p hp⟩⟩⟩)⟩
def An(x:D)(lo hi:Option Int)(M:Mem)(R:DK):Prop:=(∃ ds,N9 M x=some ds∧R (.vl (R5 ds lo hi)) M) ∨ ∃ ds,x = .tup ds∧¬ (HT.sIx ds.length 0 lo=0∧HT.sIx ds.length ds.length hi=ds.length)∧R (.tup (R5 ds lo hi)) M
def GQ(te:DTE)(tl th:DTO):DTE:=fun e M R=>te e M fun x M1=>tl e M1 fun l M2=>th e M2 fun u M3=>An x l u M3 R
theorem C4{e:Expr}{te:DTE}{lo hi:Option Expr}{tl th:DTO}{p2:Pos}(he:JE X e te)(hl:JO X lo tl)(hu:JO X hi th):JE X (.Subscript e (.Slice lo hi none p2) pos) (GQ te tl th):=⟨have he:=he.out;have hl:=hl.out;have hu:=hu.out;(zx (mh (SlR.or qp CS) he hl hu)).imp (by rintro σ H Q ⟨e,M,R,ok,am,t,f⟩;exact⟨e,M,_,ok,am,t,fun x M1 h1 v H1 k1 a1 r1=>⟨e,M1,_,ok.mono k1,a1,h1,fun l M2 h2 H2 k2 a2=>⟨e,M2,_,(ok.mono k1).mono k2,a2,h2,fun u M3 h3 H3 k3 a3=>by
  rcases h3 with⟨ds,hi,r⟩|⟨ds,rfl,hw,r⟩
  ·obtain⟨a,xs,rfl,sq,lx⟩:=C2 a3 ((r1.mono k2).mono k3) hi
   exact .inl ⟨a,xs,rfl,sq,fun p hp=>.inl (cZ f (k1.trans (k2.trans k3)) a3 (lx.cut l u) r p hp)⟩
  ·cases(r1.mono k2).mono k3 with
   | tup sq lx =>
    exact .inr ⟨_,_,rfl,sq,by rw[lx.length];exact hw,fun p hp=>.inr (f _ M3 r _ _ ((k1.trans (k2.trans k3)).trans (KT.alloc hp)) (a3.alloc hp) (.tup (SqT.of i8) ((lx.cut l u).mono (KT.alloc hp))))⟩⟩⟩⟩)⟩
def jX(ds:List D)(M:Mem)(R:DK):Prop:=∃ x ys,ds=[x]∧u9 M x ys∧R (.vl ys) M
def xm(t:DTA):DTE:=fun e M R=>t e M fun ds M1=>jX ds M1 R
end
section
variable {X:Cx} {e:Expr} {es:List Expr} {t:DTA} {x:Str} {p pos:Pos}
theorem wH(hg:Gl X x)(hm:X.mg x=none)(hv:bootBuiltins x=some (.type "list"))(ha:JA X (e :: es) t)
  (hn:x ≠ "__name__" := by decide) (hdb:(x == ("__debug__" : Str))=false:=by decide) (he:starEach (e :: es) X.env=(false,eval e X.env) :: starEach es X.env:=by rfl) (hpl:(backTo pos (starEach es X.env)).any (·.1)=false:=by rfl):JE X (.Call (.Name x p) (e :: es) [] pos) (xm t):=⟨have ha:=ha.out;(eL (rX ku hg hm hv ha hn hdb he hpl)).imp (by rintro σ H Q ⟨e,M,R,ok,am,t,f⟩;exact⟨e,M,_,ok,am,t,fun ds M1 ⟨d,ys,z,sq,r⟩ vs H1 k1 a1 r1=>by
  subst z
  obtain⟨v,rfl,hv⟩:=r1.one
  obtain⟨a,xs,rfl,q1,m1⟩:=u8 sq a1 hv
  refine⟨a,xs,rfl,?_,fun p hp=>cZ f k1 a1 m1 r p hp⟩
  cases hk:eZ d with
  | true=>rw[hk]at q1;exact .inl q1
  | false=>rw[hk]at q1;exact .inr q1⟩)⟩
variable {te:DTE} {pos':Pos}
end
section
variable {X:Cx}
noncomputable def qM:D→Option V
 | .non=>some .non
 | .bl b=>some (.bl b)
 | .int i=>some (.int i)
 | .str x=>some (.str x)
 | _=>none
theorem hJ{K:Lo}{H:Hp}{v w:V}{d:D}(h:Has K H v d)(e:qM d=some w):v=w∧X1 w=true:=by
 cases h with
 | non=>cases e;exact⟨rfl,rfl⟩
 | bl b=>cases e;exact⟨rfl,rfl⟩
 | int i=>cases e;exact⟨rfl,rfl⟩
 | str x=>cases e;exact⟨rfl,rfl⟩
 | _=>cases e
theorem hZ{K:Lo}{H:Hp}:∀{vs ws:List V} {ds:List D},HasL K H vs ds→ds.map qM=ws.map some→vs=ws∧ws.all X1=true
 | _,[],_,.nil,_=>⟨rfl,rfl⟩
 | _,_ :: _,_,.nil,e=>by cases e
 | _,[],_,.cons _ _,e=>by cases e
 | _,w :: ws,_,.cons h t,e=>by
  rw[LY,LY]at e
  injection e with e1 e2
  obtain⟨rfl,f⟩:=hJ h e1
  obtain⟨rfl,f2⟩:=hZ t e2
  exact⟨rfl,by rw[Po,f,f2];rfl⟩
def gIn(neg:Bool):DR2:=fun x y M R=>∃(v:V) (ds:List D) (ws:List V),qM x=some v∧u9 M y ds∧ds.map qM=ws.map some∧R (.bl (if neg then !inV v ws else inV v ws)) M
theorem HU:DOp X (compareOp .In) (gIn false):=OpR.imp rZ (by
 rintro x y H Q ⟨dx,dy,M,R,hx,hy,am,⟨v,ds,ws,e1,sq,e2,r⟩,f⟩
 obtain⟨rfl,fv⟩:=hJ hx e1
 obtain⟨a,xs,rfl,q1,m1⟩:=u8 sq am hy
 obtain⟨rfl,fs⟩:=hZ m1 e2
 refine⟨a,xs,rfl,?_,fv,fs,f _ M r _ H (KT.refl H) am (.bl _)⟩
 cases hk:eZ dy with
 | true=>rw[hk]at q1;exact .inl q1
 | false=>rw[hk]at q1;exact .inr q1)
def GF(neg:Bool):DR2:=fun x y M R=>∃ ds,cl 60 x=true∧u9 M y ds∧clL 59 ds=true∧R (.bl (neg.xor (@decide (x∈ds) (Mg _)))) M
noncomputable def N0(h:Heap)(p:PyData)(y:Value):Bool:=@decide (∃ d as,Reads h y d as∧PyData.eqv d p=true) (Mg _)
theorem rQ{h:Heap}{p d:PyData}{y:Value}{as:List Addr}(c:d.canLay0=true)(r:Reads h y d as):N0 h p y=PyData.eqv d p:=by
 unfold N0
 cases e:PyData.eqv d p with
 | true=>exact @decide_eq_true _ (Mg _) ⟨d,as,r,e⟩
 | false =>
  refine @decide_eq_false _ (Mg _) ?_
  rintro⟨d',as',r',e'⟩
  rw[← SeqAt.Reads.unique d d' y as as' c r r',e]at e'
  cases e'
theorem X8{X:Cx}{pins:List (Addr × Obj)}{s:Shared}{σ:St}{H:Hp}{M:Mem}{B:Around}{x:D}{u:Value}{bs:List Addr}(I:Inv X pins σ H s)(am:m8 X.K H M)(hB:B.units+62<cLine)(cx:cl 60 x=true)(rx:Reads s.heap u (pyD x) bs) :
  ∀{ds:List D} {vs:List V} {us:List Value},clL 59 ds=true→HasL X.K H vs ds→i7 vs us→(∀ w∈us,SeqAt.EqAt B s w u (N0 s.heap (pyD x) w))∧us.any (N0 s.heap (pyD x)) = @decide (x∈ds) (Mg _)
 | [],_,_,_,h,r=>by
  cases h;cases r
  refine⟨fun w hw=>(nomatch hw),?_⟩
  rw[List.any_nil]
  exact(@decide_eq_false _ (Mg _) (fun z=>nomatch z)).symm
 | d :: ds,_,_,c,h,r=>by
  cases h with
  | cons h hl =>
   cases r with
   | cons r rl =>
    have c':cl 59 d=true∧clL 59 ds=true:=by simpa[clL]using c
    obtain⟨ih1,ih2⟩:=X8 I am hB cx rx c'.2 hl rl
    obtain⟨p1,p2,p3⟩:=ik (M:=M) c'.1
    obtain⟨q1,q2,q3⟩:=ik (M:=M) cx
    obtain⟨as,rd⟩:=K5 I am p1 h r
    have es:=rQ (p:=pyD x) p2 rd
    refine⟨fun w hw=>?_,?_⟩
    ·rcases Lz.mp hw with rfl|hw
     ·rw[es]
      exact SeqAt.eqAt_reads _ _ B s _ _ _ _ rd rx p2 q2 (by have:=Qe (pyD d).depth (pyD x).depth;omega)
     ·exact ih1 w hw
    ·rw[Oz,es,ih2]
     have ev:=oK c'.1 cx
     by_cases e:d=x
     ·rw[ev.mpr e]
      exact(@decide_eq_true _ (Mg _) (by rw[e];exact Ly)).symm
     ·have:PyData.eqv (pyD d) (pyD x)=false:=by
       cases z:PyData.eqv (pyD d) (pyD x)with
       | false=>rfl
       | true=>exact absurd (ev.mp z) e
      rw[this,Bool.false_or]
      congr 1
      refine propext ⟨fun z=>Ls _ z,fun z=>?_⟩
      rcases Lz.mp z with z|z
      ·exact absurd z.symm e
      ·exact z
theorem wc(hu:X.A.units+64<cLine):DOp X (compareOp .NotIn) (GF true):=by
 intro pins s σ H x y v u Q I rx ry h
 obtain⟨dx,dy,M,R,hx,hy,am,⟨ds,c1,sq,c2,r⟩,f⟩:=h
 obtain⟨a,xs,rfl,q1,m1⟩:=u8 sq am hy
 cases ry
 obtain⟨bs,rd⟩:=K5 I am (ik (M:=M) c1).1 hx rx
 have fin:=f _ M r _ H (KT.refl H) am (.bl _)
 cases hk:eZ dy with
 | true =>
  rw[hk]at q1
  obtain⟨its,rv,pl,hz⟩:=I.list q1
  obtain⟨i1,i2⟩:=X8 (B:=X.A.in1) I am (by show X.A.units+1+62<cLine;omega) c1 rd c2 m1 rv
  refine SeqAt.notIn_listAt (N0 s.heap (pyD dx)) pl.isList (fun w hw=>i1 w (by simpa using hw)) ⟨.bl _,H,I,rfl,?_⟩
  rw[show its.toArray.any (N0 s.heap (pyD dx))=its.any (N0 s.heap (pyD dx))by simp,i2]
  simpa using fin
 | false =>
  rw[hk]at q1
  obtain⟨its,rv,pl,hz⟩:=I.tuple q1
  obtain⟨i1,i2⟩:=X8 (B:=X.A.in1) I am (by show X.A.units+1+62<cLine;omega) c1 rd c2 m1 rv
  refine SeqAt.notIn_tupleAt (N0 s.heap (pyD dx)) pl (fun w hw=>i1 w (by simpa using hw)) ⟨.bl _,H,I,rfl,?_⟩
  rw[show its.toArray.any (N0 s.heap (pyD dx))=its.any (N0 s.heap (pyD dx))by simp,i2]
  simpa using fin
end
noncomputable abbrev aZ:=Ev→Mem→(Bool→Mem→Prop)→Prop
abbrev Ht(X:Cx)(ifs:List Expr)(t:aZ):Prop:=bH X ifs (upT X.K t)
structure AI(X:Cx)(ifs:List Expr)(t:aZ):Prop where
 out:Ht X ifs t
def Ar:aZ:=fun _ M R=>R true M
theorem bH.imp{X:Cx}{ifs:List Expr}{t t':TT}(h:bH X ifs t)(i:∀ σ H Q,t' σ H Q→t σ H Q):bH X ifs t':=fun pins s σ H Q I q=>h pins s σ H Q I (i σ H Q q)
theorem A5{X:Cx}:AI X [] Ar:=⟨bH.imp vM (by rintro σ H Q ⟨e,M,R,ok,am,t,f⟩;exact f true M t H (KT.refl H) am)⟩
theorem gY{X:Cx}{c:Expr}{t:DTT}(h:JT X c t):AI X [c] t:=⟨have h:=h.out;vL h⟩
structure nr(e0:Ev)(g:DTG)(tc:aZ)(te:DTE)(ds:List D)(stay:Mem→Prop)(M1:Mem)(E:List D→Mem→Prop)(W:Nat→List D→Mem→Prop):Prop where
 start:W 0 [] M1
 stays:∀ i ys M,i≤ds.length→W i ys M→stay M
 turn:∀(i:Nat) (d:D) ys M,ds[i]? = some d→W i ys M→g d e0 M fun e2 M2=>tc e2 M2 fun b M3=>if b=true then te e2 M3 fun v M4=>ys.length<sizeLine∧W (i+1) (ys++[v]) M4 else W (i+1) ys M3
 done:∀ ys M,W ds.length ys M→E ys M
def Cr(e0:Ev)(g:DTG)(tc:aZ)(te:DTE)(ds:List D)(stay:Mem→Prop)(M1:Mem)(R:DK):Prop:=∃ W,nr e0 g tc te ds stay M1 (fun ys M=>R (.vl ys) M) W
def oA(n:Nat)(caps:List Nat)(ti:DTI)(g:DTG)(tc:aZ)(te:DTE):DTE:=fun e M R=>ti e M fun ds stay M1=>Cr (nc n caps e) g tc te ds stay M1 R
section
variable {X:Cx} {elt tg iter:Expr} {scope:Scope} {tgs cps:List Str} {caps:List Nat} {ti:DTI} {g:DTG} {tc:aZ} {te:DTE} {pos:Pos} {ifs:List Expr}
def CWH(K:Lo)(H1:Hp)(D0:Addr)(len:Nat)(W:Nat→List D→Mem→Prop)(i m:Nat)(H':Hp):Prop:=m=len - i∧i≤len∧∃ M' ys xs,KT H1 H'∧m8 K H' M'∧H' D0=some (.lst xs)∧M' D0=none∧HasL K H' xs ys∧W i ys M'
theorem ig{K:Lo}{H1:Hp}{J:It}{ds:List D}{stay:Mem→Prop}{M1:Mem}{n:Nat}{caps:List Nat}{σ:St}{e:Ev}{E:List D→Mem→Prop}{W:Nat→List D→Mem→Prop}{D0:Addr}{Qd:Hp→Prop}(ok:A2 K H1 σ e)(a1:m8 K H1 M1)(wk:nj K H1 J ds stay)(hD:H1 D0=none)
  (C:nr (nc n caps e) g tc te ds stay M1 E W) (fin:∀ ys M xs H',KT H1 H'→m8 K H' M→H' D0=some (.lst xs)→M D0=none→HasL K H' xs ys→E ys M→Qd H') (i m:Nat) (H2:Hp) (w:CWH K H1 D0 ds.length W i m H2) :
  (J.stop i H2∧Qd H2)∨(J.go i H2∧∀ x H',J.yld i H2 x H'→(∃ p,uP p (upG K g) x (kr n caps σ) H' fun σ2 H3=>∃ p,uO p (upT K tc) σ2 H3 fun b H3'=>if b=true then ∃ p,uQ p (up K te) σ2 H3' fun v H4 =>
   ∃ ys,H4 D0=some (.lst ys)∧ys.length<sizeLine∧∃ m',m'<m∧CWH K H1 D0 ds.length W (i+1) m' (upd H4 D0 (.lst (ys++[v])))else ∃ m',m'<m∧CWH K H1 D0 ds.length W (i+1) m' H3')):=by
 obtain⟨rfl,hi,M2,ys,xs,k2,a2,hx,hM,lx,w2⟩:=w
 have a2':m8 K H2 (B9 M2 D0 (.lst ys)):=fun a o q=>by
  by_cases e:a=D0
  ·subst e;rw[h8]at q;cases q;exact⟨xs,hx,lx⟩
  ·rw[G1 e]at q;exact a2 a o q
 have st:=wk.up _ D0 (.lst ys) (C.stays i ys M2 hi w2) hM
 by_cases hlt:i<ds.length
 ·refine .inr ⟨wk.go i H2 _ hlt k2 a2' st,fun y H' yl=>?_⟩
  obtain⟨d,hd,k3,a3',r⟩:=wk.yld i H2 _ y H' hlt k2 a2' st yl
  obtain⟨xs',hx',lx'⟩:=a3'.lst h8
  have a3:m8 K H' M2:=fun a o q=>by
   have e:a≠D0:=by intro e;subst e;rw[hM]at q;cases q
   exact a3' a o (by rw[G1 e];exact q)
  have kh:KT H' (upd H' D0 (aQ D0 xs')):=KT.any hx'
  have k1h:=(k2.trans k3).trans kh
  have same:∀{H3:Hp},H3 D0=some (aQ D0 xs')→upd (upd H3 D0 (.lst xs')) D0 (aQ D0 xs')=H3:=fun{H3} q=>by
   rw[aj];funext b;by_cases e:b=D0
   ·subst e;rw[i8,q]
   ·rw[g8 e]
  refine⟨D0,xs',hx',d,nc n caps e,M2,_,r.mono kh,Ao n caps (ok.mono k1h),a3.at kh.toKT0 hM,C.turn i d ys M2 hd w2,fun e3 M3 h3 σ3 H3 k4 a4 ok3=>?_⟩
  have q3:H3 D0=some (aQ D0 xs'):=k4.ex D0 _ i8
  refine⟨q3,D0,xs',i8,?_⟩
  rw[same q3]
  refine⟨e3,M3,_,ok3,a4,h3,fun b M4 h4 H4 k5 a5=>?_⟩
  have q4:H4 D0=some (aQ D0 xs'):=k5.ex D0 _ q3
  refine⟨q4,?_⟩
  have kk:=k1h.trans (k4.trans k5)
  cases b with
  | false =>
   have h4':W (i+1) ys M4:=h4
   show ∃ m',m'<ds.length - i∧CWH K H1 D0 ds.length W (i+1) m' (upd H4 D0 (.lst xs'))
   exact⟨ds.length - (i+1),by omega,rfl,hlt,M4,ys,xs',kk.new hD,a5.at (KT0.ext q4) (a5.none_ext q4),i8,a5.none_ext q4,(lx'.mono (kh.trans (k4.trans k5))).mono0 (KT0.ext q4),h4'⟩
  | true =>
   show ∃ p,uQ p (up K te) σ3 (upd H4 D0 (.lst xs')) _
   refine⟨D0,xs',i8,?_⟩
   rw[same q4]
   refine⟨e3,M4,_,ok3.mono k5,a5,h4,fun dv M5 ⟨hz,w5⟩ vv H5 k6 a6 r6=>?_⟩
   have q5:H5 D0=some (aQ D0 xs'):=k6.ex D0 _ q4
   refine⟨q5,xs',i8,by rw[lx'.length];exact hz,ds.length - (i+1),by omega,rfl,hlt,M5,ys++[dv],xs'++[vv],?_,?_,i8,a6.none_ext q5,?_,w5⟩
   ·rw[aj];exact(kk.trans k6).new hD
   ·rw[aj];exact a6.at (KT0.ext q5) (a6.none_ext q5)
   ·rw[aj];exact((lx'.mono (kh.trans (k4.trans (k5.trans k6)))).mono0 (KT0.ext q5)).append (.cons (r6.mono0 (KT0.ext q5)) .nil)
 ·have e':i=ds.length:=by omega
  subst e'
  exact .inl ⟨wk.stop _ H2 _ (LM _) k2 a2' st,fin ys M2 xs H2 k2 a2 hx hM lx (C.done ys M2 w2)⟩
theorem E8(caps:List Nat)(tgs cps:List Str)(hc:X.calm=true)(hcell:∀ x∈scope.names,x.2 ≠ .cell)(hkind:scope.kind = .function)(hnames:∀ x∈scope.names,x.2 = .local→scope.names.lookup x.1=some .local)
  (hfr:∀ x∈scope.names,x.2 = .free→x.1∈cps) (hN:caps.map (fun i=>X.N[i]?)=cps.map some) (hX:∀ x∈cps,X.env.scope.names.lookup x=some .cell∧scope.names.lookup x=some .free)
  (hsc:∀ x∈cps,(relabel scope X.env).names.lookup x=some .cell∨(relabel scope X.env).names.lookup x=some .free)
  (hi:JI X tg iter ti) (hg:∀ cl s3 H3 C fp pins,JG (cxF X scope cl (tgs++cps) s3 H3 C fp pins) tg g) (hq:∀ cl s3 H3 C fp pins,AI (cxF X scope cl (tgs++cps) s3 H3 C fp pins) ifs tc) (he:∀ cl s3 H3 C fp pins,JE (cxF X scope cl (tgs++cps) s3 H3 C fp pins) elt te)
  (hs:∀ x,foldedSetIterable iter X.env x=pure x:=by intro _;rfl):JE X (.ListComp elt [⟨tg,iter,ifs,0⟩] scope pos) (oA tgs.length caps ti g tc te):=⟨have hi:=hi.out;have hg:=fun v0 v1 v2 v3 v4 v5=>(hg v0 v1 v2 v3 v4 v5).out;have hq:=fun v0 v1 v2 v3 v4 v5=>(hq v0 v1 v2 v3 v4 v5).out;have he:=fun v0 v1 v2 v3 v4 v5=>(he v0 v1 v2 v3 v4 v5).out;(eL (vR (tgs:=tgs) (cps:=cps) (caps:=caps) hc hcell hkind hnames hfr hN hX hsc hi (fun cl s3 H3 C fp pins=>qx (hg cl s3 H3 C fp pins)) (fun cl s3 H3 C fp pins=>gQ (hq cl s3 H3 C fp pins)) (fun cl s3 H3 C fp pins=>qy (he cl s3 H3 C fp pins)) hs)).imp (by rintro σ H Q ⟨e,M,R,ok,am,t,f⟩;exact⟨e,M,_,ok,am,t,fun ds stay M1 hW H1 k1 a1 J wk=>by
  intro D0 hD
  obtain⟨W,C⟩:=hW
  refine⟨fun i m H'=>CWH X.K H1 D0 ds.length W i m H',⟨ds.length,by simp,Mn _,M1,[],[],KT.alloc hD,a1.alloc hD,i8,a1.fresh hD,.nil,C.start⟩,fun i m H2 w=>ig (Qd:=fun H'=>∃ p xs,V.ref D0 = .ref p∧H' p=some (.lst xs)∧∀ o,Q (.ref D0) (upd H' p (.frz o (.lst xs)))) (ok.mono k1) a1 wk hD C (fun ys M2 xs H' k2 a2 hx hM lx r=>?_) i m H2 w⟩
  exact⟨D0,xs,rfl,hx,fun o=>f _ M2 r _ _ (k1.trans (k2.trans (KT.any hx))) (a2.at (KT.any hx).toKT0 hM) (.vl (.inl ⟨o,i8⟩) (lx.mono (KT.any hx)))⟩⟩)⟩
theorem J5{i:Nat}{x:Str}{pos' pos2:Pos}(caps:List Nat)(tgs cps:List Str)(hNd:X.N.Nodup)(hxi:X.N[i]? = some x)(hx:Loc X.env.scope x)(hc:X.calm=true)(hcell:∀ x∈scope.names,x.2 ≠ .cell)(hkind:scope.kind = .function)(hnames:∀ x∈scope.names,x.2 = .local→scope.names.lookup x.1=some .local)
  (hfr:∀ x∈scope.names,x.2 = .free→x.1∈cps) (hN:caps.map (fun i=>X.N[i]?)=cps.map some) (hX:∀ x∈cps,X.env.scope.names.lookup x=some .cell∧scope.names.lookup x=some .free)
  (hsc:∀ x∈cps,(relabel scope X.env).names.lookup x=some .cell∨(relabel scope X.env).names.lookup x=some .free)
  (hi:JI X tg iter ti) (hg:∀ cl s3 H3 C fp pins,JG (cxF X scope cl (tgs++cps) s3 H3 C fp pins) tg g) (hq:∀ cl s3 H3 C fp pins,AI (cxF X scope cl (tgs++cps) s3 H3 C fp pins) ifs tc) (he:∀ cl s3 H3 C fp pins,JE (cxF X scope cl (tgs++cps) s3 H3 C fp pins) elt te)
  (hsw:swapsWith (.ListComp elt [⟨tg,iter,ifs,0⟩] scope pos) (some (.Name x pos')) pos2.line X.env=pure true:=by rfl) (hs:∀ x,foldedSetIterable iter X.env x=pure x:=by intro _;rfl) (hf:X.fn x=true∨X.env.scope.names.lookup x=some .local:=by first|exact .inl rfl|exact .inr rfl|assumption):JS X (.Assign [.Name x pos'] (.ListComp elt [⟨tg,iter,ifs,0⟩] scope pos) pos2) (xo (oA tgs.length caps ti g tc te) (bF i)):=⟨have hi:=hi.out;have hg:=fun v0 v1 v2 v3 v4 v5=>(hg v0 v1 v2 v3 v4 v5).out;have hq:=fun v0 v1 v2 v3 v4 v5=>(hq v0 v1 v2 v3 v4 v5).out;have he:=fun v0 v1 v2 v3 v4 v5=>(he v0 v1 v2 v3 v4 v5).out;(zm (Dm (vI (tgs:=tgs) (cps:=cps) (caps:=caps) hc hcell hkind hnames hfr hN hX hsc hi (fun cl s3 H3 C fp pins=>qx (hg cl s3 H3 C fp pins)) (fun cl s3 H3 C fp pins=>gQ (hq cl s3 H3 C fp pins)) (fun cl s3 H3 C fp pins=>qy (he cl s3 H3 C fp pins)) hNd hxi hx hf hs)) hsw).imp (by rintro E σ H ⟨e,M,F,ok,am,t,f⟩;exact⟨e,M,_,ok,am,t,fun ds stay M1 hW H1 k1 a1 J wk=>by
  intro D0 hD
  obtain⟨W,C⟩:=hW
  refine⟨fun i m H'=>CWH X.K H1 D0 ds.length W i m H',⟨ds.length,by simp,Mn _,M1,[],[],KT.alloc hD,a1.alloc hD,i8,a1.fresh hD,.nil,C.start⟩,fun j m H2 w=>ig (Qd:=fun H'=>∃ p xs,V.ref D0 = .ref p∧H' p=some (.lst xs)∧∀ o,E.nx (σ.set i (some (.ref D0))) (upd H' p (.frz o (.lst xs)))) (ok.mono k1) a1 wk hD C (fun ys M2 xs H' k2 a2 hx hM lx r=>?_) j m H2 w⟩
  exact⟨D0,xs,rfl,hx,fun o=>f.nx _ M2 r _ _ (k1.trans (k2.trans (KT.any hx))) (a2.at (KT.any hx).toKT0 hM) ((ok.mono (k1.trans (k2.trans (KT.any hx)))).set (.vl (.inl ⟨o,i8⟩) (lx.mono (KT.any hx))) i)⟩⟩)⟩
end
section
variable {X:Cx} {e:Expr} {te:DTE} {p1 p2 pos pos2:Pos}
theorem SqL.upd{K:Lo}{H:Hp}{a it:Addr}{xs:List V}{o:HO}(h:SqL K H a xs)(ne:a≠it):SqL K (upd H it o) a xs:=h.elim (fun z=>.inl (by unfold Rd at z ⊢;rw[g8 ne];exact z)) .inr
theorem SqK.upd{K:Lo}{k:Bool}{H:Hp}{a it:Addr}{xs:List V}{o:HO}(h:SqK K k H a xs)(ne:a≠it):SqK K k (L2.upd H it o) a xs:=by
 cases k with
 | true=>exact SqL.upd (show SqL K H a xs from h) ne
 | false=>exact(show SqT K H a xs from h).elim (fun z=>.inl (by unfold Rd at z ⊢;rw[g8 ne];exact z)) .inr
def xi(n:Nat)(t:U9):DTG:=fun d e M R=>∃ ds,N9 M d=some ds∧ds.length=n∧t ds e M R
theorem wD{xs:List Expr}{k:Nat}{t:U9}{n:Nat}(hc:X.calm=true)(h:JGs X xs t)
  (hn:(assignEach xs X.env).length=n:=by rfl) (hst:(assignEach xs X.env).findIdx? (·.1)=none:=by rfl):JG X (.Tuple xs k pos) (xi n t):=⟨have h:=h.out;PG.imp (zu hc h hn hst) (by
  rintro v σ H Q ⟨d,e,M,R,r,ok,am,⟨ds,hi,hl,g⟩,f⟩
  obtain⟨a,xs,e1,sq,lx⟩:=C2 am r hi
  exact⟨a,xs,e1,sq,by rw[lx.length];exact hl,ds,e,M,R,lx,ok,am,g,f⟩)⟩
end
end DL
namespace L2
open PySem PySem.Spec PyProof.Rows
section
variable {X:Cx} {pos:Pos}
end
end L2
namespace DL
open PySem PySem.Spec L2
open PyProof.Rows hiding St
section
variable {X:Cx}
end
section
variable {X:Cx}
end
section
variable {X:Cx} {a b c:Expr} {ta tb tc:DTE} {pos:Pos}
end
section
variable {K:Lo}
end
section
variable {X:Cx} {x:Expr} {t:DTE}
end
theorem gS{P:Program}{w:World}{H:Hp}{h:Heap}{a:Addr}{o:HO}(x:B4 P w H h a o):∃ u,h.get? a=some u:=by
 cases o with
 | lst _=>obtain⟨_,_,_,_,e⟩:=x;exact⟨_,e⟩
 | tup _=>obtain⟨_,_,_,o,e,_⟩:=x;exact⟨_,e⟩
 | dK _=>obtain⟨_,_,_,_,o,_,_,e,_⟩:=x;exact⟨_,e⟩
 | dT _=>obtain⟨_,_,_,_,o,_,_,e,_⟩:=x;exact⟨_,e⟩
 | set _ _=>obtain⟨o,_,_,_,e,_⟩:=x;exact⟨_,e⟩
 | ins _ _ _=>obtain⟨_,_,_,e,_⟩:=x;exact⟨_,e⟩
 | own _=>exact x
 | xd _=>obtain⟨_,⟨_,_,_,e,_⟩,_⟩:=x;exact⟨_,e⟩
 | rng _ _=>obtain⟨_,_,_,e⟩:=x;exact⟨_,e⟩
 | frz _ _=>exact⟨_,x.1⟩
 | tbl _=>exact⟨_,show h.get? a=some _ from x⟩
 | met _ _=>exact⟨_,show h.get? a=some _ from x⟩
 | ext _=>exact x.2.1
noncomputable def Gj(X:Cx):St:=Nc X.N.length none
def Cov(B s0:Heap)(H':Hp)(fs:List Addr)(h:Heap):Prop:=∀ b o,h.get? b=some o→((∃ u,H' b=some u) ∨ ∃ o0,s0.get? b=some o0)→b∉fs→B.get? b=some o
def Air(B:Heap)(l:List Env)(a:Addr)(cls a0:Value)(h:Heap):Prop:=Heap.FlyingW B l a cls a0 h ∨ ∃ env l' L,l=env :: l'∧env.frame=some L∧Heap.HeldW B l a cls a0 L h
section
variable {M:Model} {A:Around} {E:Value→Shared→Prop} {s:Shared} {B:Heap} {l outer:List Env} {env:Env} {L a:Addr} {cls a0:Value} {Q:Unit→Shared→Prop}
theorem Air.frames{h:Heap}(x:Air B l a cls a0 h):h.FunFrames B l:=by
 rcases x with x|⟨_,_,_,_,_,x⟩
 ·exact x.2.2.1
 ·exact x.2.2.1
theorem Air.base{h:Heap}(x:Air B l a cls a0 h):B.StaysIn h∧B.get? a=none:=by
 rcases x with x|⟨_,_,_,_,_,x⟩
 ·exact⟨x.1,x.2.1⟩
 ·exact⟨x.1,x.2.1⟩
theorem Air.data{h:Heap}(x:Air B l a cls a0 h):∃ oe vs,h.get? a=some oe∧oe.data = .fields vs:=by
 rcases x with⟨_,_,_,oe,vs,_,_,_,h1,_,h2,_⟩|⟨_,_,_,_,_,_,_,_,oe,vs,_,_,_,h1,_,h2,_⟩<;>exact⟨oe,vs,h1,h2⟩
end
noncomputable def XP(X:Cx)(mk:Bool)(EX:Value→Hp→Prop):Value→Shared→Prop:=fun e s' =>
 (mk=true∧∃ a cls h vs H',e = .ref a∧EX cls H'∧Heap.MadeExcOf h s'.heap a cls vs∧Inv X [] (Gj X) H' { s' with heap:=h }) ∨
 (∃ pins σ Hc sc a cls a0 H' B,Inv X pins σ Hc sc∧e = .ref a∧s'.os=sc.os∧AllBare s'.gens∧Un (frs X.stack) [] Hc H' sc.heap s'.heap∧HOk X.prog X.w H' s'.heap ∧
  X.base.StaysIn B∧Cov B sc.heap H' (frs X.stack) s'.heap∧Air B X.stack a cls a0 s'.heap∧EX cls H')
section
variable {P:Program} {w:World} {K:Lo} {mg:Str→Option Value} {base:Heap} {N:List Str} {qual:Str} {scope:Scope} {f:Addr} {cd:Value} {A:Around} {outer:List Env} {s:Shared} {H:Hp} {E:XK}
end
noncomputable def xN(x:Str):Value:=.str x 0
noncomputable def Iu(X:Cx)(H₀:Hp)(Y:DXK):Value→Hp→Prop:=fun c H'=>KT H₀ H'∧∃(x:Str) (C:Addr) (M':Mem),c = .ref C∧X.mg x=some (.ref C)∧m8 X.K H' M'∧Y (xN x) M'
noncomputable abbrev Cx.ex'(X:Cx)(mk:Bool)(H₀:Hp)(Y:DXK):Cx:=X.wish (XP X mk (Iu X H₀ Y))
section
variable {X:Cx} {mk:Bool} {H₀:Hp} {Y:DXK} {st:Stmt} {E4:List Stmt} {t u:DTS} {pos:Pos}
end
section
variable {P:Program} {w:World} {K:Lo} {mg:Str→Option Value} {base:Heap}
end
section
variable {X:Cx} {mk:Bool} {H₀:Hp} {Y:DXK} {pos cpos:Pos} {x:Str} {j:Nat} {ps:List Str} {sp:DSp} {p:Pos} {e:Expr} {es:List Expr} {t:DTA}
end
section
variable {X:Cx} {mk:Bool} {H₀:Hp} {Y:DXK} {pos:Pos} {e:Expr} {te:DTE}
end
section
variable {X:Cx} {mk:Bool} {EX:Value→Hp→Prop}
end
section
variable {X:Cx} {mk:Bool} {H₀:Hp} {Y:DXK} {pos:Pos} {c:Expr} {body:List Stmt} {tc:DTT} {tb:DTS}
end
section
variable {X:Cx} {H₀:Hp} {Y:DXK} {pos cpos np:Pos} {x:Str} {e₀:Expr} {te:DTE}
end
noncomputable abbrev Cx.pinned(X:Cx)(pn:List (Addr × Obj)):Cx:={ X with pn:=pn }
section
variable {X:Cx} {pins pn:List (Addr × Obj)} {σ:St} {H:Hp} {s:Shared}
end
section
variable {X:Cx} {body suite:List Stmt} {b0:Stmt} {c:Str} {np hpos pos:Pos} {tb:DXK→DTS} {ts:DTS}
end
section
variable {X:Cx} {body suite:List Stmt} {b0:Stmt} {c:Str} {np hpos pos:Pos} {tb:DXK→DTS} {ts:DTS}
end
end DL
namespace DL
open PySem PySem.Spec L2
def BlK(x:D)(M:Mem)(Q:Bool→Mem→Prop):Prop:=∃ k,x = .bl k∧Q k M
def IfK(c:Bool)(A B:Prop):Prop:=if c=true then A else B
def SzK(n:Nat)(A:Prop):Prop:=n≤sizeLine∧A
def Hq(i j:Nat)(ds:List D)(F:ba)(e:Ev)(M:Mem):Prop:=∃ x y,ds=[x,y]∧F.nx ((e.set i (some x)).set j (some y)) M
def AG(x:D)(M:Mem)(Q:List D→(Mem→Prop)→Mem→Prop):Prop:=∃ ds,u9 M x ds∧Q ds (fun M'=>u9 M' x ds) M
def xJ(xs:List D)(M:Mem)(Q:List D→(Mem→Prop)→Mem→Prop):Prop:=∃ x ds,xs=[x]∧u9 M x ds∧Q (O7 ds) (fun M'=>u9 M' x ds) M
def xC(xs:List D)(M:Mem)(Q:List D→(Mem→Prop)→Mem→Prop):Prop:=∃ x y ds es,xs=[x,y]∧u9 M x ds∧u9 M y es∧Q (bc ds es) (fun M'=>u9 M' x ds∧u9 M' y es) M
def Ho(xs:List D)(M:Mem)(Q:List D→(Mem→Prop)→Mem→Prop):Prop:=∃ j:Int,xs=[.int j]∧-(2 ^ 62)≤j∧j<2 ^ 62∧Q (I0 0 j.toNat) (fun _=>True) M
def Cn(xs:List D)(M:Mem)(Q:List D→(Mem→Prop)→Mem→Prop):Prop:=∃ i j:Int,xs=[.int i,.int j]∧(-(2 ^ 62)≤i∧i<2 ^ 62∧-(2 ^ 62)≤j∧j<2 ^ 62)∧Q (I0 i (j - i).toNat) (fun _=>True) M
def R6(g:DTG)(tb:DTS)(F:ba)(ds:List D)(stay:Mem→Prop)(e:Ev)(M1:Mem):Prop:=∃ W:Nat→Ev→Mem→Prop,W 0 e M1∧(∀ i e M,i≤ds.length→W i e M→stay M) ∧
 (∀(i:Nat) (d:D) e M,ds[i]? = some d→W i e M→g d e M fun e2 M2=>tb { F with nx:=W (i+1),ct:=W (i+1),bk:=F.nx } e2 M2)∧∀ e M,W ds.length e M→F.nx e M
def xG(x:D)(M1:Mem)(R:DK):Prop:=∃ p ds,x = .ref p∧M1 p=some (.lst ds)∧R (.vl ds) (cm M1 p)
def Co(x:D)(M:Mem)(Q:Option Int→Mem→Prop):Prop:=∃ i,x = .int i∧Q (some i) M
def EJ(x:D)(M1:Mem)(R:DK):Prop:=∃ M2:Mem,(∀ b o,M2 b=some o→M1 b=some o)∧R x M2
def LMK(x:D)(M:Mem)(A:Prop):Prop:=(∃ l ds,x = .ref l∧M l=some (.lst ds))∧A
end DL
namespace DL
open PySem PySem.Spec L2
open PyProof.Rows hiding St
section
variable {e:Ev} {M:Mem} {R:DK} {F:ba} {ta tb tc:DTE} {tA tB:DTT} {tr:DTA} {t u:DTS}
theorem z_C{d:D}:dC d e M R=R d M:=rfl
theorem Fu{g:DR2}:dOp g ta tb e M R=ta e M fun x M1=>tb e M1 fun y M2=>g x y M2 R:=rfl
theorem Fs{g:D→Mem→DK→Prop}:dUn g ta e M R=ta e M fun x M1=>g x M1 R:=rfl
theorem Fp{f:Int→Int→D}{i j:Int}:gF (fI f) (.int i) (.int j) M R=R (f i j) M:=propext ⟨fun zz=>by obtain⟨_,h,r⟩:=zz;cases h;exact r,fun r=>⟨_,rfl,r⟩⟩
theorem Fq{f:Bool→Bool→D}{i j:Bool}:gF (fB f) (.bl i) (.bl j) M R=R (f i j) M:=propext ⟨fun zz=>by obtain⟨_,h,r⟩:=zz;cases h;exact r,fun r=>⟨_,rfl,r⟩⟩
theorem Fo{f:Str→Str→D}{i j:Str}:gF (fS f) (.str i) (.str j) M R=R (f i j) M:=propext ⟨fun zz=>by obtain⟨_,h,r⟩:=zz;cases h;exact r,fun r=>⟨_,rfl,r⟩⟩
theorem Fm{C:Int→Int→Prop}{f:Int→Int→D}{i j:Int}:gI C f (.int i) (.int j) M R=(C i j∧R (f i j) M):=propext ⟨fun zz=>by obtain⟨_,_,h1,h2,c,r⟩:=zz;cases h1;cases h2;exact⟨c,r⟩,fun⟨c,r⟩=>⟨_,_,rfl,rfl,c,r⟩⟩
theorem Fl{f:Int→D}{i:Int}:gU f (.int i) M R=R (f i) M:=propext ⟨fun zz=>by obtain⟨_,h,r⟩:=zz;cases h;exact r,fun r=>⟨_,rfl,r⟩⟩
theorem uh{Q:Bool→Mem→Prop}:qV ta e M Q=ta e M fun x M'=>BlK x M' Q:=rfl
theorem By{b:Bool}{Q:Bool→Mem→Prop}:BlK (.bl b) M Q=Q b M:=propext ⟨fun zz=>by obtain⟨_,h,r⟩:=zz;cases h;exact r,fun r=>⟨_,rfl,r⟩⟩
theorem BA{Q:Bool→Mem→Prop}:Hb tA tB e M Q=tA e M fun c M1=>IfK c (tB e M1 Q) (Q false M1):=rfl
theorem Ft{Q:Bool→Mem→Prop}:dOr tA tB e M Q=tA e M fun c M1=>IfK c (Q true M1) (tB e M1 Q):=rfl
theorem Bk{Q:Bool→Mem→Prop}:GV tA e M Q=tA e M fun c M1=>Q (!c) M1:=rfl
theorem uD:Cb ta tb e M R=ta e M fun x M1=>BlK x M1 fun c M1=>IfK c (tb e M1 R) (R (.bl false) M1):=rfl
theorem Bj:GU ta tb e M R=ta e M fun x M1=>BlK x M1 fun c M1=>IfK c (R (.bl true) M1) (tb e M1 R):=rfl
theorem uq:BW ta e M R=ta e M fun x M1=>BlK x M1 fun c M1=>R (.bl (!c)) M1:=rfl
theorem Fw:dIf tA ta tb e M R=tA e M fun c M1=>IfK c (ta e M1 R) (tb e M1 R):=rfl
theorem Br:GX tA t u F e M=tA e M fun c M1=>IfK c (t F e M1) (u F e M1):=rfl
theorem Bl{Q:List D→Mem→Prop}:Es e M Q=Q [] M:=rfl
theorem uz{Q:List D→Mem→Prop}:qX ta tr e M Q=ta e M fun x M1=>tr e M1 fun xs M2=>Q (x :: xs) M2:=rfl
theorem Be:GP tr e M R=tr e M fun ds M1=>SzK ds.length (R (.tup ds) M1):=rfl
theorem Bo:GW tr e M R=tr e M fun ds M1=>SzK ds.length (∀ p,M1 p=none→R (.ref p) (B9 M1 p (.lst ds))):=rfl
theorem W7{x y z:D}(h:ixD M x y=some z):gIx x y M R=R z M:=propext ⟨fun zz=>by obtain⟨_,h',r⟩:=zz;rw[h]at h';cases h';exact r,fun r=>⟨_,h,r⟩⟩
theorem lB{neg:Bool}{x y:D}{b:Bool}(h:isD x y=some b):gIs neg x y M R=R (.bl (neg.xor b)) M:=propext ⟨fun zz=>by obtain⟨_,h',r⟩:=zz;rw[h]at h';cases h';exact r,fun r=>⟨_,h,r⟩⟩
theorem Bx{neg:Bool}{x y:D}:Ej neg x y M R=(cl 60 x=true∧cl 60 y=true∧R (.bl (neg.xor (@decide (x=y) (Mg _)))) M):=rfl
theorem uB{sp:DSp}{dds:List D}{Y:DXK}:mR sp dds Y tr e M R=tr e M fun ds M1=>sp (ds++dds) M1 R Y:=rfl
theorem Fx{g:DRC}:dCB g tr e M R=tr e M fun ds M1=>g ds M1 R:=rfl
theorem ur:BX F e M=F.nx e M:=rfl
theorem Bg:GR t u F e M=t { F with nx:=u F } e M:=rfl
theorem uy:BZ ta F e M=ta e M fun _ M1=>F.nx e M1:=rfl
theorem Bh:Er ta F e M=ta e M F.rt:=rfl
theorem qd:xl F e M=False:=rfl
variable {Q:Ev→Mem→Prop}
theorem pR{i:Nat}{d:D}:bF i d e M Q=Q (e.set i (some d)) M:=rfl
theorem ug:BS [] e M Q=Q e M:=propext ⟨fun h=>h.2,fun h=>⟨rfl,h⟩⟩
theorem pS{g:DTG}{gs:U9}{d:D}{ds:List D}:xj g gs (d :: ds) e M Q=g d e M fun e' M'=>gs ds e' M' Q:=propext ⟨fun zz=>by obtain⟨_,_,h,r⟩:=zz;cases h;exact r,fun r=>⟨_,_,rfl,r⟩⟩
theorem lb{n:Nat}{gs:U9}{ds:List D}(h:ds.length=n):xi n gs (.vl ds) e M Q=gs ds e M Q:=propext ⟨fun zz=>by obtain⟨_,h',_,r⟩:=zz;cases h';exact r,fun r=>⟨_,rfl,h,r⟩⟩
theorem dO{n:Nat}{gs:U9}{ds:List D}(h:ds.length=n):mQ n gs (.tup ds) e M Q=gs ds e M Q:=propext ⟨fun zz=>by obtain⟨_,h',_,r⟩:=zz;cases h';exact r,fun r=>⟨_,rfl,h,r⟩⟩
theorem uf{to ti:DTE}{ts:xK}{d:D}:BR to ti ts d e M Q=to e M fun o M1=>ti e M1 fun i M2=>ts o i d M2 fun M3=>Q e M3:=rfl
theorem Bz{g:DTG}:xo ta g F e M=ta e M fun x M1=>g x e M1 F.nx:=rfl
theorem Bi{i j:Nat}:GS i j tr F e M=tr e M fun ds M1=>Hq i j ds F e M1:=rfl
theorem uo{i j:Nat}{x y:D}:Hq i j [x,y] F e M=F.nx ((e.set i (some x)).set j (some y)) M:=propext ⟨fun zz=>by obtain⟨_,_,h,r⟩:=zz;cases h;exact r,fun r=>⟨_,_,rfl,r⟩⟩
theorem BB{i:Int}:GK [.int i] M R=R (.int (i.natAbs:Int)) M:=propext ⟨fun zz=>by obtain⟨_,h,r⟩:=zz;cases h;exact r,fun r=>⟨_,rfl,r⟩⟩
theorem Bn{i j:Int}:GD [.int i,.int j] M R=R (.int (max i j)) M:=propext ⟨fun zz=>by obtain⟨_,_,h,r⟩:=zz;cases h;exact r,fun r=>⟨_,_,rfl,r⟩⟩
theorem Bm{i j:Int}:GC [.int i,.int j] M R=R (.int (min i j)) M:=propext ⟨fun zz=>by obtain⟨_,_,h,r⟩:=zz;cases h;exact r,fun r=>⟨_,_,rfl,r⟩⟩
theorem qf{d:D}{n:Nat}(h:DY M d=some n):sJ [d] M R=R (.int (n:Int)) M:=propext ⟨fun zz=>by obtain⟨_,_,h',h2,r⟩:=zz;cases h';rw[h]at h2;cases h2;exact r,fun r=>⟨_,_,rfl,h,r⟩⟩
theorem p7{d:D}{ty T:String}{b:Bool}(h1:tyD M d=some ty)(h2:yP ty T=some b):A9 [d,.ty T] M R=R (.bl b) M:=propext ⟨fun zz=>by
 obtain⟨_,_,_,_,h,h1',h2',r⟩:=zz
 injection h with h h';subst h;injection h' with h';injection h' with h';subst h'
 rw[h1]at h1';cases h1';rw[h2]at h2';cases h2';exact r,fun r=>⟨_,_,_,_,rfl,h1,h2,r⟩⟩
theorem Bs{c:Bool}{A B:Prop}:IfK c A B=((c=true→A)∧(c=false→B)):=by cases c<;>simp[IfK]
theorem Bq{A B:Prop}:IfK true A B=A:=by simp[IfK]
theorem Bt{A B:Prop}:IfK false A B=B:=by simp[IfK]
theorem A7{n:Nat}{A:Prop}(h:n≤1000):SzK n A=A:=propext ⟨fun h=>h.2,fun a=>⟨sl n h,a⟩⟩
theorem EY{d:D}{r:Ev}:W9 0 (some d :: r) M R=R d M:=propext ⟨fun zz=>by obtain⟨_,h,q⟩:=zz;cases h;exact q,fun q=>⟨_,rfl,q⟩⟩
theorem Fj{y z:Option D}{r:Ev}:(y :: r:Ev).set 0 z=z :: r:=rfl
theorem EW{x0:Option D}{d:D}{r:Ev}:W9 1 (x0 :: some d :: r) M R=R d M:=propext ⟨fun zz=>by obtain⟨_,h,q⟩:=zz;cases h;exact q,fun q=>⟨_,rfl,q⟩⟩
theorem Fi{x0:Option D}{y z:Option D}{r:Ev}:(x0 :: y :: r:Ev).set 1 z=x0 :: z :: r:=rfl
theorem EV{x0 x1:Option D}{d:D}{r:Ev}:W9 2 (x0 :: x1 :: some d :: r) M R=R d M:=propext ⟨fun zz=>by obtain⟨_,h,q⟩:=zz;cases h;exact q,fun q=>⟨_,rfl,q⟩⟩
theorem Fh{x0 x1:Option D}{y z:Option D}{r:Ev}:(x0 :: x1 :: y :: r:Ev).set 2 z=x0 :: x1 :: z :: r:=rfl
theorem EU{x0 x1 x2:Option D}{d:D}{r:Ev}:W9 3 (x0 :: x1 :: x2 :: some d :: r) M R=R d M:=propext ⟨fun zz=>by obtain⟨_,h,q⟩:=zz;cases h;exact q,fun q=>⟨_,rfl,q⟩⟩
theorem Fg{x0 x1 x2:Option D}{y z:Option D}{r:Ev}:(x0 :: x1 :: x2 :: y :: r:Ev).set 3 z=x0 :: x1 :: x2 :: z :: r:=rfl
theorem ET{x0 x1 x2 x3:Option D}{d:D}{r:Ev}:W9 4 (x0 :: x1 :: x2 :: x3 :: some d :: r) M R=R d M:=propext ⟨fun zz=>by obtain⟨_,h,q⟩:=zz;cases h;exact q,fun q=>⟨_,rfl,q⟩⟩
theorem Ff{x0 x1 x2 x3:Option D}{y z:Option D}{r:Ev}:(x0 :: x1 :: x2 :: x3 :: y :: r:Ev).set 4 z=x0 :: x1 :: x2 :: x3 :: z :: r:=rfl
theorem ES{x0 x1 x2 x3 x4:Option D}{d:D}{r:Ev}:W9 5 (x0 :: x1 :: x2 :: x3 :: x4 :: some d :: r) M R=R d M:=propext ⟨fun zz=>by obtain⟨_,h,q⟩:=zz;cases h;exact q,fun q=>⟨_,rfl,q⟩⟩
theorem Fe{x0 x1 x2 x3 x4:Option D}{y z:Option D}{r:Ev}:(x0 :: x1 :: x2 :: x3 :: x4 :: y :: r:Ev).set 5 z=x0 :: x1 :: x2 :: x3 :: x4 :: z :: r:=rfl
theorem ER{x0 x1 x2 x3 x4 x5:Option D}{d:D}{r:Ev}:W9 6 (x0 :: x1 :: x2 :: x3 :: x4 :: x5 :: some d :: r) M R=R d M:=propext ⟨fun zz=>by obtain⟨_,h,q⟩:=zz;cases h;exact q,fun q=>⟨_,rfl,q⟩⟩
theorem Fd{x0 x1 x2 x3 x4 x5:Option D}{y z:Option D}{r:Ev}:(x0 :: x1 :: x2 :: x3 :: x4 :: x5 :: y :: r:Ev).set 6 z=x0 :: x1 :: x2 :: x3 :: x4 :: x5 :: z :: r:=rfl
theorem EO{x0 x1 x2 x3 x4 x5 x6:Option D}{d:D}{r:Ev}:W9 7 (x0 :: x1 :: x2 :: x3 :: x4 :: x5 :: x6 :: some d :: r) M R=R d M:=propext ⟨fun zz=>by obtain⟨_,h,q⟩:=zz;cases h;exact q,fun q=>⟨_,rfl,q⟩⟩
theorem Fc{x0 x1 x2 x3 x4 x5 x6:Option D}{y z:Option D}{r:Ev}:(x0 :: x1 :: x2 :: x3 :: x4 :: x5 :: x6 :: y :: r:Ev).set 7 z=x0 :: x1 :: x2 :: x3 :: x4 :: x5 :: x6 :: z :: r:=rfl
theorem EN{x0 x1 x2 x3 x4 x5 x6 x7:Option D}{d:D}{r:Ev}:W9 8 (x0 :: x1 :: x2 :: x3 :: x4 :: x5 :: x6 :: x7 :: some d :: r) M R=R d M:=propext ⟨fun zz=>by obtain⟨_,h,q⟩:=zz;cases h;exact q,fun q=>⟨_,rfl,q⟩⟩
theorem Fb{x0 x1 x2 x3 x4 x5 x6 x7:Option D}{y z:Option D}{r:Ev}:(x0 :: x1 :: x2 :: x3 :: x4 :: x5 :: x6 :: x7 :: y :: r:Ev).set 8 z=x0 :: x1 :: x2 :: x3 :: x4 :: x5 :: x6 :: x7 :: z :: r:=rfl
theorem EM{x0 x1 x2 x3 x4 x5 x6 x7 x8:Option D}{d:D}{r:Ev}:W9 9 (x0 :: x1 :: x2 :: x3 :: x4 :: x5 :: x6 :: x7 :: x8 :: some d :: r) M R=R d M:=propext ⟨fun zz=>by obtain⟨_,h,q⟩:=zz;cases h;exact q,fun q=>⟨_,rfl,q⟩⟩
theorem EZ{x0 x1 x2 x3 x4 x5 x6 x7 x8:Option D}{y z:Option D}{r:Ev}:(x0 :: x1 :: x2 :: x3 :: x4 :: x5 :: x6 :: x7 :: x8 :: y :: r:Ev).set 9 z=x0 :: x1 :: x2 :: x3 :: x4 :: x5 :: x6 :: x7 :: x8 :: z :: r:=rfl
theorem AN{x0 x1 x2 x3 x4 x5 x6 x7 x8 x9:Option D}{d:D}{r:Ev}:W9 10 (x0 :: x1 :: x2 :: x3 :: x4 :: x5 :: x6 :: x7 :: x8 :: x9 :: some d :: r) M R=R d M:=propext ⟨fun zz=>by obtain⟨_,h,q⟩:=zz;cases h;exact q,fun q=>⟨_,rfl,q⟩⟩
theorem Bc{x0 x1 x2 x3 x4 x5 x6 x7 x8 x9:Option D}{y z:Option D}{r:Ev}:(x0 :: x1 :: x2 :: x3 :: x4 :: x5 :: x6 :: x7 :: x8 :: x9 :: y :: r:Ev).set 10 z=x0 :: x1 :: x2 :: x3 :: x4 :: x5 :: x6 :: x7 :: x8 :: x9 :: z :: r:=rfl
theorem AM{x0 x1 x2 x3 x4 x5 x6 x7 x8 x9 x10:Option D}{d:D}{r:Ev}:W9 11 (x0 :: x1 :: x2 :: x3 :: x4 :: x5 :: x6 :: x7 :: x8 :: x9 :: x10 :: some d :: r) M R=R d M:=propext ⟨fun zz=>by obtain⟨_,h,q⟩:=zz;cases h;exact q,fun q=>⟨_,rfl,q⟩⟩
theorem Bb{x0 x1 x2 x3 x4 x5 x6 x7 x8 x9 x10:Option D}{y z:Option D}{r:Ev}:(x0 :: x1 :: x2 :: x3 :: x4 :: x5 :: x6 :: x7 :: x8 :: x9 :: x10 :: y :: r:Ev).set 11 z=x0 :: x1 :: x2 :: x3 :: x4 :: x5 :: x6 :: x7 :: x8 :: x9 :: x10 :: z :: r:=rfl
theorem AL{x0 x1 x2 x3 x4 x5 x6 x7 x8 x9 x10 x11:Option D}{d:D}{r:Ev}:W9 12 (x0 :: x1 :: x2 :: x3 :: x4 :: x5 :: x6 :: x7 :: x8 :: x9 :: x10 :: x11 :: some d :: r) M R=R d M:=propext ⟨fun zz=>by obtain⟨_,h,q⟩:=zz;cases h;exact q,fun q=>⟨_,rfl,q⟩⟩
theorem Ba{x0 x1 x2 x3 x4 x5 x6 x7 x8 x9 x10 x11:Option D}{y z:Option D}{r:Ev}:(x0 :: x1 :: x2 :: x3 :: x4 :: x5 :: x6 :: x7 :: x8 :: x9 :: x10 :: x11 :: y :: r:Ev).set 12 z=x0 :: x1 :: x2 :: x3 :: x4 :: x5 :: x6 :: x7 :: x8 :: x9 :: x10 :: x11 :: z :: r:=rfl
theorem u7{M:Mem}{ds es:List D}:u9 M (.tup ds) es=(es=ds):=by
 apply propext
 constructor
 ·intro h
  rcases h with h|⟨_,h,_⟩|h
  ·injection h with h;exact h.symm
  ·exact absurd h (by intro z;cases z)
  ·exact absurd h (by intro z;cases z)
 ·intro h;exact .inl (by rw[h])
theorem i9{M:Mem}{ds es:List D}:u9 M (.vl ds) es=(es=ds):=by
 apply propext
 constructor
 ·intro h
  rcases h with h|⟨_,h,_⟩|h
  ·exact absurd h (by intro z;cases z)
  ·exact absurd h (by intro z;cases z)
  ·injection h with h;exact h.symm
 ·intro h;exact .inr (.inr (by rw[h]))
theorem q9{ds:List D}{n:Nat}{d:D}(h:ds[n]? = some d):atI ds (n:Int)=some d:=by
 obtain⟨hl,_⟩:=LP.mp h
 unfold atI ixN
 rw[if_pos (Int.natCast_nonneg n),if_pos (by omega)]
 simpa using h
theorem uu:BY tr e M R=tr e M fun ds M1=>SzK ds.length (R (.vl ds) M1):=rfl
theorem uA:Ca ta tb e M R=ta e M fun x M1=>tb e M1 fun y M2=>wV x y M2 R:=rfl
theorem Bf{tl th:DTO}:GQ ta tl th e M R=ta e M fun x M1=>tl e M1 fun l M2=>th e M2 fun u M3=>An x l u M3 R:=rfl
theorem lA{Q:Option Int→Mem→Prop}:qW e M Q=Q none M:=rfl
theorem um{Q:Option Int→Mem→Prop}:BV ta e M Q=ta e M fun x M1=>Co x M1 Q:=rfl
theorem qc{i:Int}{Q:Option Int→Mem→Prop}:Co (.int i) M Q=Q (some i) M:=propext ⟨fun zz=>by obtain⟨_,h,r⟩:=zz;cases h;exact r,fun r=>⟨_,rfl,r⟩⟩
theorem qe:xm tr e M R=tr e M fun ds M1=>jX ds M1 R:=rfl
theorem lh{ds:List D}:jX [.tup ds] M R=R (.vl ds) M:=propext ⟨fun zz=>by obtain⟨_,_,h,h2,r⟩:=zz;cases h;rw[u7]at h2;subst h2;exact r,fun r=>⟨_,_,rfl,.inl rfl,r⟩⟩
theorem ux{neg:Bool}{x:D}{ds:List D}:GF neg x (.vl ds) M R=(cl 60 x=true∧clL 59 ds=true∧R (.bl (neg.xor (@decide (x∈ds) (Mg _)))) M):=propext ⟨fun zz=>by obtain⟨_,a,b,c,r⟩:=zz;rw[i9]at b;subst b;exact⟨a,c,r⟩,fun⟨a,c,r⟩=>⟨ds,a,by rw[i9],c,r⟩⟩
theorem gK{ds:List D}:jX [.vl ds] M R=R (.vl ds) M:=propext ⟨fun zz=>by obtain⟨_,_,h,h2,r⟩:=zz;cases h;rw[i9]at h2;subst h2;exact r,fun r=>⟨_,_,rfl,.inr (.inr rfl),r⟩⟩
theorem lj{xs ys:List D}:wV (.vl xs) (.vl ys) M R=SzK (xs.length+ys.length) (R (.vl (xs++ys)) M):=propext ⟨fun zz=>by obtain⟨_,_,h,h2,z,r⟩:=zz;cases h;cases h2;exact⟨z,r⟩,fun⟨z,r⟩=>⟨_,_,rfl,rfl,z,r⟩⟩
theorem pQ{xs:List D}{lo hi:Option Int}:An (.vl xs) lo hi M R=R (.vl (R5 xs lo hi)) M:=propext ⟨fun h=>by
 rcases h with⟨_,h,r⟩|⟨_,h,_⟩
 ·cases h;exact r
 ·exact(nomatch h),fun r=>.inl ⟨_,rfl,r⟩⟩
theorem pP{xs:List D}{lo hi:Option Int}:An (.tup xs) lo hi M R=(¬ (HT.sIx xs.length 0 lo=0∧HT.sIx xs.length xs.length hi=xs.length)∧R (.tup (R5 xs lo hi)) M):=propext ⟨fun h=>by
 rcases h with⟨_,h,r⟩|⟨_,h,hw,r⟩
 ·cases h
 ·cases h;exact⟨hw,r⟩,fun⟨hw,r⟩=>.inr ⟨_,rfl,hw,r⟩⟩
theorem Bu:GY ta e M R=ta e M fun x M1=>xG x M1 R:=rfl
theorem dP{p:Addr}{ds:List D}(h:M p=some (.lst ds)):xG (.ref p) M R=R (.vl ds) (cm M p):=propext ⟨fun zz=>by obtain⟨_,_,e,h',r⟩:=zz;cases e;rw[h]at h';cases h';exact r,fun r=>⟨_,_,rfl,h,r⟩⟩
theorem qi{n:Nat}{caps:List Nat}{ti:DTI}{g:DTG}{tc:aZ}{te:DTE}:oA n caps ti g tc te e M R=ti e M fun ds stay M1=>Cr (nc n caps e) g tc te ds stay M1 R:=rfl
theorem Bd{Q:Bool→Mem→Prop}:Ar e M Q=Q true M:=rfl
section
variable {Q:List D→(Mem→Prop)→Mem→Prop}
theorem pU:BP ta e M Q=ta e M fun x M1=>AG x M1 Q:=rfl
theorem uj{ds:List D}:AG (.tup ds) M Q=Q ds (fun M'=>u9 M' (.tup ds) ds) M:=propext ⟨fun zz=>by obtain⟨_,h,r⟩:=zz;rw[u7]at h;subst h;exact r,fun r=>⟨_,.inl rfl,r⟩⟩
theorem ui{ds:List D}:AG (.vl ds) M Q=Q ds (fun M'=>u9 M' (.vl ds) ds) M:=propext ⟨fun zz=>by obtain⟨_,h,r⟩:=zz;rw[i9]at h;subst h;exact r,fun r=>⟨_,.inr (.inr rfl),r⟩⟩
theorem lu:xh tr e M Q=tr e M fun xs M1=>xJ xs M1 Q:=rfl
theorem qh{ds:List D}:xJ [.tup ds] M Q=Q (O7 ds) (fun M'=>u9 M' (.tup ds) ds) M:=propext ⟨fun zz=>by obtain⟨_,_,h,h2,r⟩:=zz;cases h;rw[u7]at h2;subst h2;exact r,fun r=>⟨_,_,rfl,.inl rfl,r⟩⟩
theorem qg{ds:List D}:xJ [.vl ds] M Q=Q (O7 ds) (fun M'=>u9 M' (.vl ds) ds) M:=propext ⟨fun zz=>by obtain⟨_,_,h,h2,r⟩:=zz;cases h;rw[i9]at h2;subst h2;exact r,fun r=>⟨_,_,rfl,.inr (.inr rfl),r⟩⟩
theorem pT:BO tr e M Q=tr e M fun xs M1=>xC xs M1 Q:=rfl
theorem pZ{ds es:List D}:xC [.tup ds,.tup es] M Q=Q (bc ds es) (fun M'=>u9 M' (.tup ds) ds∧u9 M' (.tup es) es) M:=propext ⟨fun zz=>by obtain⟨_,_,_,_,h,h2,h3,r⟩:=zz;cases h;rw[u7]at h2 h3;subst h2;subst h3;exact r,fun r=>⟨_,_,_,_,rfl,.inl rfl,.inl rfl,r⟩⟩
theorem pW{ds es:List D}:xC [.vl ds,.vl es] M Q=Q (bc ds es) (fun M'=>u9 M' (.vl ds) ds∧u9 M' (.vl es) es) M:=propext ⟨fun zz=>by obtain⟨_,_,_,_,h,h2,h3,r⟩:=zz;cases h;rw[i9]at h2 h3;subst h2;subst h3;exact r,fun r=>⟨_,_,_,_,rfl,.inr (.inr rfl),.inr (.inr rfl),r⟩⟩
theorem pY{ds es:List D}:xC [.tup ds,.vl es] M Q=Q (bc ds es) (fun M'=>u9 M' (.tup ds) ds∧u9 M' (.vl es) es) M:=propext ⟨fun zz=>by obtain⟨_,_,_,_,h,h2,h3,r⟩:=zz;cases h;rw[u7]at h2;rw[i9]at h3;subst h2;subst h3;exact r,fun r=>⟨_,_,_,_,rfl,.inl rfl,.inr (.inr rfl),r⟩⟩
theorem pX{ds es:List D}:xC [.vl ds,.tup es] M Q=Q (bc ds es) (fun M'=>u9 M' (.vl ds) ds∧u9 M' (.tup es) es) M:=propext ⟨fun zz=>by obtain⟨_,_,_,_,h,h2,h3,r⟩:=zz;cases h;rw[i9]at h2;rw[u7]at h3;subst h2;subst h3;exact r,fun r=>⟨_,_,_,_,rfl,.inr (.inr rfl),.inl rfl,r⟩⟩
theorem pV:BQ tr e M Q=tr e M fun xs M1=>Ho xs M1 Q:=rfl
theorem uk{j:Int}:Ho [.int j] M Q=((-(2 ^ 62)≤j∧j<2 ^ 62)∧Q (I0 0 j.toNat) (fun _=>True) M):=propext ⟨fun zz=>by obtain⟨_,h,a,b,r⟩:=zz;cases h;exact⟨⟨a,b⟩,r⟩,fun⟨⟨a,b⟩,r⟩=>⟨_,rfl,a,b,r⟩⟩
theorem lr:xg tr e M Q=tr e M fun xs M1=>Cn xs M1 Q:=rfl
theorem qb{i j:Int}:Cn [.int i,.int j] M Q=((-(2 ^ 62)≤i∧i<2 ^ 62∧-(2 ^ 62)≤j∧j<2 ^ 62)∧Q (I0 i (j - i).toNat) (fun _=>True) M):=propext ⟨fun zz=>by obtain⟨_,_,h,a,r⟩:=zz;cases h;exact⟨a,r⟩,fun⟨a,r⟩=>⟨_,_,rfl,a,r⟩⟩
end
theorem Bv{ti:DTI}{g:DTG}:GZ ti g t F e M=ti e M fun ds stay M1=>R6 g t F ds stay e M1:=rfl
theorem R6.by{g:DTG}{ds:List D}{stay:Mem→Prop}{M1:Mem}(W:Nat→Ev→Mem→Prop)(w0:W 0 e M1)(st:∀ i e M,i≤ds.length→W i e M→stay M)
  (turn:∀(i:Nat) (d:D) e M,ds[i]? = some d→W i e M→g d e M fun e2 M2=>t { F with nx:=W (i+1),ct:=W (i+1),bk:=F.nx } e2 M2) (done:∀ e M,W ds.length e M→F.nx e M):R6 g t F ds stay e M1:=⟨W,w0,st,turn,done⟩
theorem rE{F:ba}(W:Nat→Ev→Mem→Prop)(m:Nat)(w0:W m e M)(turn:∀ m e M,W m e M→tA e M fun b M1=>IfK b (t { F with nx:=fun e' M'=>∃ m',m'<m∧W m' e' M',ct:=fun e' M'=>∃ m',m'<m∧W m' e' M',bk:=F.nx } e M1) (F.nx e M1)):xk tA t F e M:=⟨W,⟨m,w0⟩,turn⟩
theorem kG{F:ba}(P:Ev→Mem→Prop)(h1:t { F with nx:=P } e M)(h2:∀ e' M',P e' M'→u F e' M'):BU t u F e M:=⟨P,h1,h2⟩
theorem Fv{g:DRM}:dLM g ta tr e M R=ta e M fun x M1=>LMK x M1 (tr e M1 fun xs M2=>g x xs M2 R):=rfl
theorem X4{x0:D}{r:List D}:gIx (.tup (x0 :: r)) (.int 0) M R=R x0 M:=W7 (q9 (n:=0) rfl)
theorem tY{x0:D}{r:List D}:gIx (.vl (x0 :: r)) (.int 0) M R=R x0 M:=W7 (q9 (n:=0) rfl)
theorem X3{x0 x1:D}{r:List D}:gIx (.tup (x0 :: x1 :: r)) (.int 1) M R=R x1 M:=W7 (q9 (n:=1) rfl)
theorem tX{x0 x1:D}{r:List D}:gIx (.vl (x0 :: x1 :: r)) (.int 1) M R=R x1 M:=W7 (q9 (n:=1) rfl)
theorem iB{x0 x1 x2:D}{r:List D}:gIx (.tup (x0 :: x1 :: x2 :: r)) (.int 2) M R=R x2 M:=W7 (q9 (n:=2) rfl)
theorem tW{x0 x1 x2:D}{r:List D}:gIx (.vl (x0 :: x1 :: x2 :: r)) (.int 2) M R=R x2 M:=W7 (q9 (n:=2) rfl)
theorem ue{x0 x1 x2 x3:D}{r:List D}:gIx (.tup (x0 :: x1 :: x2 :: x3 :: r)) (.int 3) M R=R x3 M:=W7 (q9 (n:=3) rfl)
theorem tV{x0 x1 x2 x3:D}{r:List D}:gIx (.vl (x0 :: x1 :: x2 :: x3 :: r)) (.int 3) M R=R x3 M:=W7 (q9 (n:=3) rfl)
theorem ud{x0 x1 x2 x3 x4:D}{r:List D}:gIx (.tup (x0 :: x1 :: x2 :: x3 :: x4 :: r)) (.int 4) M R=R x4 M:=W7 (q9 (n:=4) rfl)
theorem tU{x0 x1 x2 x3 x4:D}{r:List D}:gIx (.vl (x0 :: x1 :: x2 :: x3 :: x4 :: r)) (.int 4) M R=R x4 M:=W7 (q9 (n:=4) rfl)
theorem uc{x0 x1 x2 x3 x4 x5:D}{r:List D}:gIx (.tup (x0 :: x1 :: x2 :: x3 :: x4 :: x5 :: r)) (.int 5) M R=R x5 M:=W7 (q9 (n:=5) rfl)
theorem tT{x0 x1 x2 x3 x4 x5:D}{r:List D}:gIx (.vl (x0 :: x1 :: x2 :: x3 :: x4 :: x5 :: r)) (.int 5) M R=R x5 M:=W7 (q9 (n:=5) rfl)
theorem ua{x0 x1 x2 x3 x4 x5 x6:D}{r:List D}:gIx (.tup (x0 :: x1 :: x2 :: x3 :: x4 :: x5 :: x6 :: r)) (.int 6) M R=R x6 M:=W7 (q9 (n:=6) rfl)
theorem tS{x0 x1 x2 x3 x4 x5 x6:D}{r:List D}:gIx (.vl (x0 :: x1 :: x2 :: x3 :: x4 :: x5 :: x6 :: r)) (.int 6) M R=R x6 M:=W7 (q9 (n:=6) rfl)
theorem tZ{x0 x1 x2 x3 x4 x5 x6 x7:D}{r:List D}:gIx (.tup (x0 :: x1 :: x2 :: x3 :: x4 :: x5 :: x6 :: x7 :: r)) (.int 7) M R=R x7 M:=W7 (q9 (n:=7) rfl)
theorem tR{x0 x1 x2 x3 x4 x5 x6 x7:D}{r:List D}:gIx (.vl (x0 :: x1 :: x2 :: x3 :: x4 :: x5 :: x6 :: x7 :: r)) (.int 7) M R=R x7 M:=W7 (q9 (n:=7) rfl)
theorem AZ{A:Prop}:SzK (0) A=A:=A7 (by decide)
theorem AY{A:Prop}:SzK (0+1) A=A:=A7 (by decide)
theorem AX{A:Prop}:SzK (0+1+1) A=A:=A7 (by decide)
theorem AW{A:Prop}:SzK (0+1+1+1) A=A:=A7 (by decide)
theorem AV{A:Prop}:SzK (0+1+1+1+1) A=A:=A7 (by decide)
theorem AU{A:Prop}:SzK (0+1+1+1+1+1) A=A:=A7 (by decide)
theorem AS{A:Prop}:SzK (0+1+1+1+1+1+1) A=A:=A7 (by decide)
theorem AR{A:Prop}:SzK (0+1+1+1+1+1+1+1) A=A:=A7 (by decide)
theorem AQ{A:Prop}:SzK (0+1+1+1+1+1+1+1+1) A=A:=A7 (by decide)
theorem AO{A:Prop}:SzK (0+1+1+1+1+1+1+1+1+1) A=A:=A7 (by decide)
theorem yE{i:Int}:cl 60 (.int i)=true:=rfl
theorem yy:cl 60 .non=true:=rfl
theorem yn{ds:List D}:cl 60 (.tup ds)=clL 59 ds:=rfl
theorem yg{ds:List D}:cl 60 (.vl ds)=clL 59 ds:=rfl
theorem xU:clL 59 []=true:=rfl
theorem ya{d:D}{r:List D}:clL 59 (d :: r)=(cl 59 d && clL 59 r):=rfl
theorem yF{i:Int}:cl 59 (.int i)=true:=rfl
theorem yz:cl 59 .non=true:=rfl
theorem yo{ds:List D}:cl 59 (.tup ds)=clL 58 ds:=rfl
theorem yh{ds:List D}:cl 59 (.vl ds)=clL 58 ds:=rfl
theorem xV:clL 58 []=true:=rfl
theorem yb{d:D}{r:List D}:clL 58 (d :: r)=(cl 58 d && clL 58 r):=rfl
theorem yG{i:Int}:cl 58 (.int i)=true:=rfl
theorem yA:cl 58 .non=true:=rfl
theorem yp{ds:List D}:cl 58 (.tup ds)=clL 57 ds:=rfl
theorem yi{ds:List D}:cl 58 (.vl ds)=clL 57 ds:=rfl
theorem xW:clL 57 []=true:=rfl
theorem yc{d:D}{r:List D}:clL 57 (d :: r)=(cl 57 d && clL 57 r):=rfl
theorem yH{i:Int}:cl 57 (.int i)=true:=rfl
theorem yB:cl 57 .non=true:=rfl
theorem yq{ds:List D}:cl 57 (.tup ds)=clL 56 ds:=rfl
theorem yj{ds:List D}:cl 57 (.vl ds)=clL 56 ds:=rfl
theorem xX:clL 56 []=true:=rfl
theorem yd{d:D}{r:List D}:clL 56 (d :: r)=(cl 56 d && clL 56 r):=rfl
theorem yI{i:Int}:cl 56 (.int i)=true:=rfl
theorem yC:cl 56 .non=true:=rfl
theorem yr{ds:List D}:cl 56 (.tup ds)=clL 55 ds:=rfl
theorem yk{ds:List D}:cl 56 (.vl ds)=clL 55 ds:=rfl
theorem xY:clL 55 []=true:=rfl
theorem ye{d:D}{r:List D}:clL 55 (d :: r)=(cl 55 d && clL 55 r):=rfl
theorem yJ{i:Int}:cl 55 (.int i)=true:=rfl
theorem yD:cl 55 .non=true:=rfl
theorem yt{ds:List D}:cl 55 (.tup ds)=clL 54 ds:=rfl
theorem ym{ds:List D}:cl 55 (.vl ds)=clL 54 ds:=rfl
theorem xZ:clL 54 []=true:=rfl
theorem yf{d:D}{r:List D}:clL 54 (d :: r)=(cl 54 d && clL 54 r):=rfl
theorem uv{xs:List D}:sJ [.vl xs] M R=R (.int (xs.length:Int)) M:=qf rfl
theorem uw{xs:List D}:sJ [.tup xs] M R=R (.int (xs.length:Int)) M:=qf rfl
theorem CH{A:Prop}:SzK 1 A=A:=A7 (by decide)
theorem CG{A:Prop}:SzK 2 A=A:=A7 (by decide)
theorem CF{A:Prop}:SzK 3 A=A:=A7 (by decide)
theorem CC{A:Prop}:SzK 4 A=A:=A7 (by decide)
theorem CA{A:Prop}:SzK 5 A=A:=A7 (by decide)
theorem Cz{A:Prop}:SzK 6 A=A:=A7 (by decide)
theorem Cy{A:Prop}:SzK 7 A=A:=A7 (by decide)
theorem Cw{A:Prop}:SzK 8 A=A:=A7 (by decide)
theorem Cv{A:Prop}:SzK 9 A=A:=A7 (by decide)
theorem xT{A:Prop}:SzK 10 A=A:=A7 (by decide)
theorem xS{A:Prop}:SzK 11 A=A:=A7 (by decide)
theorem xR{A:Prop}:SzK 12 A=A:=A7 (by decide)
theorem uE{bs:List Bool}:GJ [.vl (bs.map D.bl)] M R=R (.bl (bs.all id)) M:=propext ⟨fun zz=>by
 obtain⟨_,bs',e,h,r⟩:=zz
 cases e
 have e2:bs.map D.bl=bs'.map D.bl:=Option.some.inj h
 have e3:bs=bs':=(Mp (fun a b z=>by injection z)).mp e2
 subst e3;exact r,fun r=>⟨_,bs,rfl,rfl,r⟩⟩
theorem uC{bs:List Bool}:GI [.vl (bs.map D.bl)] M R=R (.bl (bs.any id)) M:=propext ⟨fun zz=>by
 obtain⟨_,bs',e,h,r⟩:=zz
 cases e
 have e2:bs.map D.bl=bs'.map D.bl:=Option.some.inj h
 have e3:bs=bs':=(Mp (fun a b z=>by injection z)).mp e2
 subst e3;exact r,fun r=>⟨_,bs,rfl,rfl,r⟩⟩
theorem bP:A9 [.dic,.ty "tuple"] M R=R (.bl false) M:=p7 rfl rfl
theorem dI:A9 [.dic,.ty "list"] M R=R (.bl false) M:=p7 rfl rfl
theorem gG:A9 [.dic,.ty "int"] M R=R (.bl false) M:=p7 rfl rfl
theorem dJ:A9 [.dic,.ty "bool"] M R=R (.bl false) M:=p7 rfl rfl
theorem gE:A9 [.dic,.ty "str"] M R=R (.bl false) M:=p7 rfl rfl
theorem bL{ds:List D}:A9 [.tup ds,.ty "tuple"] M R=R (.bl true) M:=p7 rfl rfl
theorem dz{ds:List D}:A9 [.tup ds,.ty "list"] M R=R (.bl false) M:=p7 rfl rfl
theorem gx{ds:List D}:A9 [.tup ds,.ty "int"] M R=R (.bl false) M:=p7 rfl rfl
theorem dA{ds:List D}:A9 [.tup ds,.ty "bool"] M R=R (.bl false) M:=p7 rfl rfl
theorem gw{ds:List D}:A9 [.tup ds,.ty "str"] M R=R (.bl false) M:=p7 rfl rfl
theorem bK{ds:List D}:A9 [.vl ds,.ty "tuple"] M R=R (.bl false) M:=p7 rfl rfl
theorem dq{ds:List D}:A9 [.vl ds,.ty "list"] M R=R (.bl true) M:=p7 rfl rfl
theorem gv{ds:List D}:A9 [.vl ds,.ty "int"] M R=R (.bl false) M:=p7 rfl rfl
theorem du{ds:List D}:A9 [.vl ds,.ty "bool"] M R=R (.bl false) M:=p7 rfl rfl
theorem gu{ds:List D}:A9 [.vl ds,.ty "str"] M R=R (.bl false) M:=p7 rfl rfl
theorem bO{i:Int}:A9 [.int i,.ty "tuple"] M R=R (.bl false) M:=p7 rfl rfl
theorem dG{i:Int}:A9 [.int i,.ty "list"] M R=R (.bl false) M:=p7 rfl rfl
theorem gD{i:Int}:A9 [.int i,.ty "int"] M R=R (.bl true) M:=p7 rfl rfl
theorem dH{i:Int}:A9 [.int i,.ty "bool"] M R=R (.bl false) M:=p7 rfl rfl
theorem gC{i:Int}:A9 [.int i,.ty "str"] M R=R (.bl false) M:=p7 rfl rfl
theorem bN:A9 [.non,.ty "tuple"] M R=R (.bl false) M:=p7 rfl rfl
theorem dE:A9 [.non,.ty "list"] M R=R (.bl false) M:=p7 rfl rfl
theorem gB:A9 [.non,.ty "int"] M R=R (.bl false) M:=p7 rfl rfl
theorem dF:A9 [.non,.ty "bool"] M R=R (.bl false) M:=p7 rfl rfl
theorem gA:A9 [.non,.ty "str"] M R=R (.bl false) M:=p7 rfl rfl
theorem bM{x:Str}:A9 [.str x,.ty "tuple"] M R=R (.bl false) M:=p7 rfl rfl
theorem dB{x:Str}:A9 [.str x,.ty "list"] M R=R (.bl false) M:=p7 rfl rfl
theorem gz{x:Str}:A9 [.str x,.ty "int"] M R=R (.bl false) M:=p7 rfl rfl
theorem dD{x:Str}:A9 [.str x,.ty "bool"] M R=R (.bl false) M:=p7 rfl rfl
theorem gy{x:Str}:A9 [.str x,.ty "str"] M R=R (.bl true) M:=p7 rfl rfl
theorem bQ{b:Bool}:A9 [.bl b,.ty "tuple"] M R=R (.bl false) M:=p7 rfl rfl
theorem dM{b:Bool}:A9 [.bl b,.ty "list"] M R=R (.bl false) M:=p7 rfl rfl
theorem gJ{b:Bool}:A9 [.bl b,.ty "int"] M R=R (.bl true) M:=p7 rfl rfl
theorem dN{b:Bool}:A9 [.bl b,.ty "bool"] M R=R (.bl true) M:=p7 rfl rfl
theorem gH{b:Bool}:A9 [.bl b,.ty "str"] M R=R (.bl false) M:=p7 rfl rfl
theorem Bw:Ha ta e M R=ta e M fun x M1=>EJ x M1 R:=rfl
theorem rF{x:D}{ds:List D}{Q:List D→(Mem→Prop)→Mem→Prop}(h:u9 M x ds)(r:Q ds (fun M'=>u9 M' x ds) M):AG x M Q:=⟨ds,h,r⟩
theorem fu{l:Addr}{ds:List D}{A:Prop}(h:M l=some (.lst ds))(a:A):LMK (.ref l) M A:=⟨⟨l,ds,rfl,h⟩,a⟩
theorem fE{l:Addr}{ds:List D}{v:D}(h:M l=some (.lst ds))(hz:ds.length<1000)(r:R .non (B9 M l (.lst (ds++[v])))):qL (.ref l) [v] M R:=⟨l,ds,v,rfl,rfl,h,Lw hz (by decide),r⟩
theorem AF{p:Addr}{ds:List D}{j:Nat}{v:D}{Q:Mem→Prop}(h:M p=some (.lst ds))(hj:j<ds.length)(r:Q (B9 M p (.lst (ds.set j v)))):BM (.ref p) (.int (j:Int)) v M Q:=⟨p,ds,j,j,rfl,rfl,h,by unfold ixN;rw[if_pos (by omega),if_pos (by omega)];rfl,r⟩
theorem jQ{α:Type}{xs ys:List α}(h:xs.map some=ys.map some):xs=ys:=(Mp (fun a b z=>Option.some.inj z)).mp h
theorem Bp{neg:Bool}{a b c:Str}:gIn neg (.str a) (.vl [.str b,.str c]) M R=R (.bl (if neg then !(b == a || c == a)else(b == a || c == a))) M:=propext ⟨fun zz=>by
 obtain⟨v,ds,ws,e1,sq,e2,r⟩:=zz
 cases e1
 rw[i9]at sq
 subst sq
 have e3:ws=[.str b,.str c]:=(jQ (xs:=[V.str b,V.str c]) e2).symm
 subst e3
 simpa[inV,eqV]using r,fun r=>⟨.str a,_,[.str b,.str c],rfl,.inr (.inr rfl),rfl,by simpa[inV,eqV]using r⟩⟩
theorem xF{p:Addr}{ds:List D}(h:M p=none)(r:R (.vl ds) M):xG (.ref p) (B9 M p (.lst ds)) R:=⟨p,ds,rfl,h8,by rw[U6 h];exact r⟩
theorem xI{x:D}{M1 M2:Mem}(h:∀ b o,M2 b=some o→M1 b=some o)(r:R x M2):EJ x M1 R:=⟨M2,h,r⟩
end
theorem fq{p:Str→Prop}:∀ x∈([]:List Str),p x:=fun _ h=>nomatch h
section
variable {e0:Ev} {g:DTG} {te:DTE} {tc:aZ} {ds:List D} {stay:Mem→Prop} {M1:Mem} {E:List D→Mem→Prop}
theorem B7{α:Type}{xs:List α}{enc:α→D}(f:α→D)(hn:xs.length≤1000)(hst:stay M1)(step:∀ x∈xs,∀ Q:DK,Q (f x) M1→g (enc x) e0 M1 fun e2 M2=>te e2 M2 Q)(h:E (xs.map f) M1):∃ W,nr e0 g Ar te (xs.map enc) stay M1 E W:=by
 refine⟨fun i ys M=>M=M1∧ys=(xs.take i).map f,⟨⟨rfl,rfl⟩,fun i ys M _ w=>by rw[w.1];exact hst,fun i d ys M hd w=>?_,fun ys M w=>?_⟩⟩
 ·obtain⟨rfl,rfl⟩:=w
  rw[LS]at hd
  cases hx:xs[i]? with
  | none=>rw[hx]at hd;cases hd
  | some x =>
   rw[hx]at hd
   obtain rfl:enc x=d:=by simpa using hd
   refine step x (LK hx) _ ⟨?_,rfl,?_⟩
   ·rw[Lr,Ma]
    exact LO (LB (NQ _ _) hn) (by decide)
   ·obtain⟨hl,he⟩:=LP.mp hx
    rw[Mw hl,LH,he];rfl
 ·obtain⟨rfl,rfl⟩:=w
  rw[Lr,Nb];exact h
theorem aT{α:Type}{xs:List α}{enc:α→D}(p:α→Bool)(f:α→D)(hn:xs.length≤1000)(hst:stay M1)
  (step:∀ x∈xs,∀(Q:DK) (N:Prop),(p x=true→Q (f x) M1)→(p x=false→N)→g (enc x) e0 M1 fun e2 M2=>tc e2 M2 fun b M3=>IfK b (te e2 M3 Q) (M3=M1∧N)) (h:E ((xs.filter p).map f) M1):∃ W,nr e0 g tc te (xs.map enc) stay M1 E W:=by
 refine⟨fun i ys M=>M=M1∧ys=((xs.take i).filter p).map f,⟨⟨rfl,rfl⟩,fun i ys M _ w=>by rw[w.1];exact hst,fun i d ys M hd w=>?_,fun ys M w=>?_⟩⟩
 ·obtain⟨rfl,rfl⟩:=w
  rw[LS]at hd
  cases hx:xs[i]? with
  | none=>rw[hx]at hd;cases hd
  | some x =>
   rw[hx]at hd
   obtain rfl:enc x=d:=by simpa using hd
   obtain⟨hl,he⟩:=LP.mp hx
   have hle:(((xs.take i).filter p).map f).length<sizeLine:=by
    rw[Lr]
    have h1:=Ni p (xs.take i)
    rw[Ma]at h1
    exact LO (LB h1 (LB (NQ _ _) hn)) (by decide)
   have hs:=step x (LK hx) (fun v M4=>(((xs.take i).filter p).map f).length<sizeLine∧M4=M∧((xs.take i).filter p).map f++[v]=((xs.take (i+1)).filter p).map f) (((xs.take i).filter p).map f=((xs.take (i+1)).filter p).map f)
    (fun hp=>⟨hle,rfl,by rw[Mw hl,Pt,LH,he];simp[hp]⟩)
    (fun hp=>by rw[Mw hl,Pt,LH,he];simp[hp])
   exact hs
 ·obtain⟨rfl,rfl⟩:=w
  rw[Lr,Nb];exact h
theorem oJ{α:Type}(enc:α→D)(ok:α→Prop)(St:Mem→Mem→Prop)(n:Nat)(hl:ds.length=n)(hn:n≤1000)(hst:∀ M,St M1 M→stay M)(s0:St M1 M1)
  (step:∀ d∈ds,∀ M,St M1 M→∀ Q:DK,(∀ x M',ok x→St M1 M'→Q (enc x) M')→g d e0 M fun e2 M2=>te e2 M2 Q) (h:∀(xs:List α) M,xs.length=n→(∀ x∈xs,ok x)→St M1 M→E (xs.map enc) M):∃ W,nr e0 g Ar te ds stay M1 E W:=by
 refine⟨fun i ys M=>St M1 M∧∃ xs:List α,xs.length=i∧(∀ x∈xs,ok x)∧ys=xs.map enc,⟨⟨s0,[],rfl,(fun _ z=>nomatch z),rfl⟩,fun i ys M _ w=>hst M w.1,fun i d ys M hd w=>?_,fun ys M w=>?_⟩⟩
 ·obtain⟨sM,xs,hl,hok,rfl⟩:=w
  have hi:i<ds.length:=(LP.mp hd).1
  refine step d (LK hd) M sM _ fun x M' hx sM'=>⟨?_,sM',xs++[x],by simp[hl],fun z hz=>?_,by simp⟩
  ·rw[Lr,hl];exact Lw (Lw hi (by omega)) (show 1000≤sizeLine by decide)
  ·rcases LR.mp hz with z1|z1
   ·exact hok z z1
   ·rw[Mh.mp z1];exact hx
 ·obtain⟨sM,xs,hl,hok,rfl⟩:=w
  exact h xs M (by omega) hok sM
end
section
variable {X:Cx} {pos:Pos}
theorem jc{x:Str}{j k:Nat}{ps:List Str}{sp:DSp}{p:Pos}{e:Expr}{es:List Expr}{t:DTA}(G:Fn X.prog X.w X.K X.mg X.base x j ps sp)(hr:J1 k X.A)(ha:JA X (e :: es) t)(hk:j≤k:=by decide)(hg:Gl X x:=by rfl)
  (hdb:(x == ("__debug__" : Str))=false:=by decide) (he:starEach (e :: es) X.env=(false,eval e X.env) :: starEach es X.env:=by rfl) (hpl:(backTo pos (starEach es X.env)).any (·.1)=false:=by rfl):JE X (.Call (.Name x p) (e :: es) [] pos) (mR sp [] Y0 t):=wI G (hr.mono hk) hg ha hdb he hpl
theorem jx{a b:Expr}{ta tb:DTE}(ha:JE X a ta)(hb:JE X b tb)(hs:kC b:=by exact fun _ _=>rfl):JE X (.Subscript a b pos) (dOp gIx ta tb):=Gr Gx ha hb hs
theorem jst(i:Nat){x:Str}{e:Expr}{tx:DTE}{q:Pos}(hN:X.N.Nodup)(he:JE X e tx)(hi:X.N[i]? = some x:=by rfl)(hx:Loc X.env.scope x:=by first|exact .inl rfl|exact .inr rfl)(hs:swapsWith e (some (.Name x q)) pos.line X.env=pure false:=by rfl)
  (hf:X.fn x=true∨X.env.scope.names.lookup x=some .local:=by first|exact .inl rfl|exact .inr rfl|assumption):JS X (.Assign [.Name x q] e pos) (xo tx (bF i)):=Af hN hi hx he hs hf
theorem jn(i:Nat){x:Str}(hN:X.N.Nodup)(hi:X.N[i]? = some x:=by rfl)(hx:Loc X.env.scope x:=by first|exact .inl rfl|exact .inr rfl)(hf:X.fn x=true∨X.env.scope.names.lookup x=some .local:=by first|exact .inl rfl|exact .inr rfl|assumption):JG X (.Name x pos) (bF i):=wF hN hi hx hf
theorem jm{op:CmpOp}{g:DR2}{a b:Expr}{ta tb:DTE}(ho:DOp X (compareOp op) g)(ha:JE X a ta)(hb:JE X b tb)(hm:behindInMarks op b=false:=by first|exact wm _|with_unfolding_all rfl):JE X (.Compare a [op] [b] pos) (dOp g ta tb):=Ef ho ha hb hm
theorem jtm{op:CmpOp}{g:DR2}{a b:Expr}{ta tb:DTE}(ho:DOp X (compareOp op) g)(ha:JE X a ta)(hb:JE X b tb)(hm:behindInMarks op b=false:=by first|exact wm _|with_unfolding_all rfl):JT X (.Compare a [op] [b] pos) (qV (dOp g ta tb)):=Ag ho ha hb hm
end
end DL
namespace GM
open PySem PySem.Spec L2 DL
open PyProof.Rows hiding St
noncomputable def f6(q:Rat):D:=.tup [.int q.num,.int (q.den:Int)]
theorem T6{q r:Rat}(h:f6 q=f6 r):q=r:=by
 unfold f6 at h
 injection h with h
 injection h with h1 h2
 injection h1 with h1
 injection h2 with h2 _
 injection h2 with h2
 exact Rat.ext h1 (by omega)
theorem i4{q r:Rat}:f6 q=f6 r↔q=r:=⟨T6,fun h=>by rw[h]⟩
structure A1(M:Mem)(p:Addr):Prop where
 ex:∃ x y z:Int,M p=some (.lst [.int x,.int y,.int z])
def MK(M M':Mem):Prop:=∀ b o,M b=some o→M' b=some o
theorem MK.refl(M:Mem):MK M M:=fun _ _ h=>h
theorem MK.trans{M M1 M2:Mem}(a:MK M M1)(b:MK M1 M2):MK M M2:=fun c o h=>b c o (a c o h)
theorem MK.new{M:Mem}{p:Addr}{o:MO}(h:M p=none):MK M (B9 M p o):=fun b u e=>by
 have:b≠p:=by intro z;subst z;rw[h]at e;cases e
 rw[G1 this];exact e
theorem MK.pool{M M':Mem}(k:MK M M'){p:Addr}(h:A1 M p):A1 M' p:=let ⟨x,y,z,e⟩:=h.ex;⟨x,y,z,k _ _ e⟩
structure j9(p:Addr)(M M':Mem):Prop where
 keep:∀ b o,b≠p→M b=some o→M' b=some o
 pool:A1 M' p
theorem j9.refl{p:Addr}{M:Mem}(h:A1 M p):j9 p M M:=⟨fun _ _ _ h=>h,h⟩
theorem j9.trans{p:Addr}{M M1 M2:Mem}(a:j9 p M M1)(b:j9 p M1 M2):j9 p M M2:=⟨fun c o n h=>b.keep c o n (a.keep c o n h),b.pool⟩
theorem j9.mk'{p:Addr}{M M1:Mem}(h:A1 M p)(k:MK M M1):j9 p M M1:=⟨fun c o _ h=>k c o h,k.pool h⟩
theorem j9.upd{p:Addr}{M:Mem}(x y z:Int):j9 p M (B9 M p (.lst [.int x,.int y,.int z])):=⟨fun b o n h=>by rw[G1 n];exact h,⟨x,y,z,h8⟩⟩
theorem A1.ne{M:Mem}{p l:Addr}(h:A1 M p)(hl:M l=none):l≠p:=by
 intro e;subst e;obtain⟨x,y,z,q⟩:=h.ex;rw[hl]at q;cases q
def nF:DSp:=fun ds M R _=>∃ c:Int,ds=[.int c]∧∀ p M',M p=none→MK M M'→A1 M' p→R (.ref p) M'
def G9:DSp:=fun ds M R _=>∃(p:Addr) (b:Int),ds=[.ref p,.int b]∧A1 M p∧0<b∧b.natAbs.log2<9000∧∀(r:Int) M',0≤r→r<b→j9 p M M'→R (.int r) M'
def D9:DSp:=fun ds M R _=>∃ a b:Int,ds=[.int a,.int b]∧b≠0∧b.natAbs.log2<9000∧R (f6 (Mf a b)) M
def O1:DSp:=fun ds M R _=>∃ p:Addr,ds=[.ref p]∧A1 M p∧∀(q:Rat) M',RM.sz q≤41→j9 p M M'→R (f6 q) M'
theorem He:xO 10 18:=⟨by decide,by decide,by decide⟩
theorem Ik:xO 10 12:=⟨by decide,by decide,by decide⟩
theorem cp6:xO 10 6:=⟨by decide,by decide,by decide⟩
theorem zZ{a b:Int}(h1:-(2 ^ 64)<a)(h2:a<2 ^ 64):IntMulOk a b:=.of_left (intBits_le_64 h1 h2)
theorem HY{a b:Int}(h1:-(2 ^ 64)<b)(h2:b<2 ^ 64):IntMulOk a b:=.of_right (intBits_le_64 h1 h2)
theorem HX{x m k b:Int}(hm:0<m)(hm2:m<2 ^ 60)(hk:0≤k)(hk2:k<2 ^ 60):IntMulOk (x % m+k) b:=by
 have h1:=NA x (show m≠0 by omega)
 have h2:=Nf x hm
 exact zZ (by omega) (by omega)
theorem Gm{x m b:Int}(hm:0<m)(hm2:m<2 ^ 60):IntMulOk (x % m) b:=by
 have h1:=NA x (show m≠0 by omega)
 have h2:=Nf x hm
 exact zZ (by omega) (by omega)
theorem Il{i:Int}:CFd i 8:=⟨by decide,by decide⟩
theorem Hg{i:Int}:CFd i 20:=⟨by decide,by decide⟩
theorem Ay{b:Int}{k:Nat}(h:b.natAbs.log2<k):Builtin.Int.intBits b≤k:=by
 unfold Builtin.Int.intBits
 split<;>omega
theorem aS{a b:Int}(ha:0≤a)(hb:0≤b):a.fdiv b=a / b:=Int.fdiv_eq_ediv_of_nonneg a hb
theorem qK{a b:Int}(hb:b≠0)(h:b.natAbs.log2<9000):((Mz a.natAbs b.natAbs:Nat):Int).natAbs.log2<9000:=by
 have hp:0<b.natAbs:=Qq.mpr hb
 have hle:Mz a.natAbs b.natAbs≤b.natAbs:=Nat.gcd_le_right _ hp
 have h1:b.natAbs<2 ^ 9000:=(Pd (by omega)).mp h
 rw[Lu]
 exact K8 (LO hle h1) (by decide)
theorem wQ{a b:Int}(hb:b≠0):((Mz a.natAbs b.natAbs:Nat):Int)≠0:=by
 have hp:0<b.natAbs:=Qq.mpr hb
 have:=Nv a.natAbs hp
 omega
theorem cW{a b s:Int}(hb:b≠0)(hs:s=if b<0 then -((Mz a.natAbs b.natAbs:Nat):Int)else((Mz a.natAbs b.natAbs:Nat):Int)){M:Mem}{R:DK}(k:R (f6 (Mf a b)) M) :
  R (.tup [.int (a.fdiv s),.int (b.fdiv s)]) M:=by
 obtain⟨h1,h2⟩:=RM.DW a b hb s hs
 rw[h1,h2];exact k
theorem N8{a b:Int}{n:Nat}(hn:0<n)(h1:a.natAbs<2 ^ n)(h2:b.natAbs<2 ^ n)(hb:b≠0):RM.sz (Mf a b)≤n :=
 LB (RM.O0 a b hb) (Ov.mpr ⟨RM.aW h1 hn,RM.aW h2 hn⟩)
def qm:DSp:=fun ds M R _=>∃ n:Int,ds=[.int n]∧R (.bl true) M
end GM
namespace GM
open PySem PySem.Spec L2 DL
def qo:DSp:=fun ds _ R _=>∃ ns:List Int,ds=[.vl (ns.map D.int)]∧ns.length≤63∧∀ M',R (.bl true) M'
end GM
namespace GM
open PySem PySem.Spec L2 DL
open RM (sz)
def O2:DSp:=fun ds M R _=>∃ a b:Nat,ds=[.int (a:Int),.int (b:Int)]∧R (.int ((Mz a b:Nat):Int)) M
def dS:DSp:=fun ds M R _=>∃ q:Rat,ds=[f6 q]∧R (f6 (-q)) M
def L9:DSp:=fun ds M R _=>∃ q r:Rat,ds=[f6 q,f6 r]∧sz q+sz r≤8900∧R (f6 (q+r)) M
def L4:DSp:=fun ds M R _=>∃ q r:Rat,ds=[f6 q,f6 r]∧sz q+sz r≤8900∧R (f6 (q - r)) M
def D2:DSp:=fun ds M R _=>∃ q r:Rat,ds=[f6 q,f6 r]∧sz q+sz r≤8900∧R (f6 (q*r)) M
def iF:DSp:=fun ds M R _=>∃ q r:Rat,ds=[f6 q,f6 r]∧r≠0∧sz q+sz r≤8900∧R (f6 (q / r)) M
def iG:DSp:=fun ds M R _=>∃ q r:Rat,ds=[f6 q,f6 r]∧sz q+sz r≤8900∧R (.bl (decide (q<r))) M
theorem v7(q:Rat):q.num.natAbs<2 ^ sz q:=Lw (RM.aO _) (LX (by decide) (RM.O9 q))
theorem o8(q:Rat):((q.den:Int)).natAbs<2 ^ sz q:=by rw[Lu];exact Lw (RM.aO _) (LX (by decide) (RM.F7 q))
theorem mNN{q r:Rat}(h:sz q+sz r≤8900):IntMulOk q.num r.num:=j6 _ _ (v7 q) (v7 r) (by omega)
theorem mND{q r:Rat}(h:sz q+sz r≤8900):IntMulOk q.num (r.den:Int):=j6 _ _ (v7 q) (o8 r) (by omega)
theorem mDD{q r:Rat}(h:sz q+sz r≤8900):IntMulOk (q.den:Int) (r.den:Int):=j6 _ _ (o8 q) (o8 r) (by omega)
theorem mDN{q r:Rat}(h:sz q+sz r≤8900):IntMulOk (q.den:Int) r.num:=j6 _ _ (o8 q) (v7 r) (by omega)
theorem lDD{q r:Rat}(h:sz q+sz r≤8900):((q.den:Int)*(r.den:Int)).natAbs.log2<9000:=by
 have h1:=RM.R0 q.den r.den
 have h2:=RM.F7 q
 have h3:=RM.F7 r
 rw[Mc,Lu,Lu]
 unfold RM.bl at *
 omega
theorem lDN{q r:Rat}(h:sz q+sz r≤8900):((q.den:Int)*r.num).natAbs.log2<9000:=by
 have h1:=RM.R0 q.den r.num.natAbs
 have h2:=RM.F7 q
 have h3:=RM.O9 r
 rw[Mc,Lu]
 unfold RM.bl at *
 omega
theorem DR{r:Rat}(h:r≠0):r.num≠0:=fun z=>h (MR.mp z)
noncomputable def j8(q:Rat):Rat:=if 0≤q then q else -q
theorem AE(q:Rat):0≤j8 q:=by
 unfold j8;split
 ·assumption
 ·grind
theorem EE(q:Rat):f6 (j8 q) = .tup [.int (q.num.natAbs:Int),.int (q.den:Int)]:=by
 unfold j8 f6
 have hz:0≤q↔0≤q.num:=Oq.symm
 split
 ·rename_i h
  have:=hz.mp h
  rw[show q.num=(q.num.natAbs:Int)by omega];simp
 ·rename_i h
  have h':¬ 0≤q.num:=fun z=>h (hz.mpr z)
  rw[OA,Pf,show -q.num=(q.num.natAbs:Int)by omega]
theorem T7(t:Rat):t.num<0↔t<0:=by
 have:=Oq (q:=t)
 constructor
 ·intro h;have:¬ 0≤t:=fun z=>by have:=Oq.mpr z;omega
  grind
 ·intro h;have h':¬ 0≤t.num:=fun z=>by have:=Oq.mp z;grind
  omega
end GM
namespace GM
open RM (sz)
theorem ip{a:Rat}{A:Int}{D S:Nat}(hS:0<S)(hD:D≠0)(hd:D<2 ^ S)(h:a*(D:Rat)=(A:Rat))(hA:A.natAbs<2 ^ S):sz a≤S:=by
 have hD':(D:Rat)≠0:=by
  intro z;exact hD (by exact_mod_cast z)
 have e:a=Mf A (D:Int):=by
  rw[Ow]
  have:a=(A:Rat) / (D:Rat):=by grind
  rw[this];rfl
 rw[e]
 exact LB (RM.O0 A D (by omega)) (Ov.mpr ⟨RM.aW hA hS,RM.aW (by rw[Lu];exact hd) hS⟩)
structure CD(S:Nat)(a b c d:Rat):Prop where
 ex:∃(A B C E:Int) (D:Nat),D≠0∧D<2 ^ S∧(A.natAbs<2 ^ S∧B.natAbs<2 ^ S∧C.natAbs<2 ^ S∧E.natAbs<2 ^ S)∧a*(D:Rat)=(A:Rat)∧b*(D:Rat)=(B:Rat)∧c*(D:Rat)=(C:Rat)∧d*(D:Rat)=(E:Rat)
theorem D4(q:Rat){k:Nat}(h:sz q≤k):q.num.natAbs<2 ^ k:=Lw (RM.aO _) (LX (by decide) (LB (RM.O9 q) h))
theorem o9(q:Rat){k:Nat}(h:sz q≤k):q.den<2 ^ k:=Lw (RM.aO _) (LX (by decide) (LB (RM.F7 q) h))
theorem C3(q:Rat):q*(q.den:Rat)=(q.num:Rat):=by
 have h:(q.den:Rat)≠0:=by
  intro z;exact q.den_nz (by exact_mod_cast z)
 have e:=Mq q
 rw[Ow,LZ]at e
 grind
theorem D6{a b m n:Nat}(h1:a<2 ^ m)(h2:b<2 ^ n):a*b<2 ^ (m+n):=by
 rw[My];exact MZ h1 h2
theorem g7{a b:Int}{m n:Nat}(h1:a.natAbs<2 ^ m)(h2:b.natAbs<2 ^ n):(a*b).natAbs<2 ^ (m+n):=by
 rw[Mc];exact D6 h1 h2
theorem Z9{a b:Int}{m:Nat}(h1:a.natAbs<2 ^ m)(h2:b.natAbs<2 ^ m):(a+b).natAbs<2 ^ (m+1):=by
 have:=NI a b
 rw[MX];omega
theorem C7{a m n:Nat}(h:a<2 ^ m)(hn:m≤n):a<2 ^ n:=Lw h (LX (by decide) hn)
theorem CD.one:CD 1 1 0 0 1:=⟨1,0,0,1,1,by decide,by decide,⟨by decide,by decide,by decide,by decide⟩,by grind,by grind,by grind,by grind⟩
theorem CD.neg{S:Nat}{a b c d:Rat}(h:CD S a b c d):CD S (-a) (-b) (-c) (-d):=by
 obtain⟨A,B,C,E,D,h0,hd,⟨h1,h2,h3,h4⟩,e1,e2,e3,e4⟩:=h.ex
 refine⟨-A,-B,-C,-E,D,h0,hd,⟨by rw[Ml];exact h1,by rw[Ml];exact h2,by rw[Ml];exact h3,by rw[Ml];exact h4⟩,?_,?_,?_,?_⟩<;>(rw[NB];grind)
theorem CD.swap{S:Nat}{a b c d:Rat}(h:CD S a b c d):CD S c d a b:=by
 obtain⟨A,B,C,E,D,h0,hd,⟨h1,h2,h3,h4⟩,e1,e2,e3,e4⟩:=h.ex
 exact⟨C,E,A,B,D,h0,hd,⟨h3,h4,h1,h2⟩,e3,e4,e1,e2⟩
theorem CD.step{S k:Nat}{a b c d q:Rat}(h:CD S a b c d)(hq:sz q≤k):CD (S+k+1) (a+q*c) (b+q*d) c d:=by
 obtain⟨A,B,C,E,D,h0,hd,⟨h1,h2,h3,h4⟩,e1,e2,e3,e4⟩:=h.ex
 have hn:=D4 q hq
 have hm:=o9 q hq
 have hm':(q.den:Int).natAbs<2 ^ k:=by rw[Lu];exact hm
 have e:=C3 q
 have z:∀{X:Int},X.natAbs<2 ^ S→(X*(q.den:Int)).natAbs<2 ^ (S+k):=fun h=>g7 h hm'
 have z2:∀{X:Int},X.natAbs<2 ^ S→(X*q.num).natAbs<2 ^ (S+k):=fun h=>g7 h hn
 refine⟨A*(q.den:Int)+C*q.num,B*(q.den:Int)+E*q.num,C*(q.den:Int),E*(q.den:Int),D*q.den,NC h0 q.den_nz,C7 (D6 hd hm) (by omega),
  ⟨Z9 (z h1) (z2 h3),Z9 (z h2) (z2 h4),C7 (z h3) (by omega),C7 (z h4) (by omega)⟩,?_,?_,?_,?_⟩
 all_goals (simp only[Mt,ND,LI,LZ];grind)
theorem CD.scale{S k:Nat}{a b c d q r:Rat}(h:CD S a b c d)(hq:sz q≤k)(hp:0<q.num)(hr:r*q=1):CD (S+2*k) (q*a) (q*b) (r*c) (r*d):=by
 obtain⟨A,B,C,E,D,h0,hd,⟨h1,h2,h3,h4⟩,e1,e2,e3,e4⟩:=h.ex
 have hn:=D4 q hq
 have hm:=o9 q hq
 have hm':(q.den:Int).natAbs<2 ^ k:=by rw[Lu];exact hm
 have e:=C3 q
 obtain⟨n,en⟩:∃ n:Nat,q.num=(n:Int):=⟨q.num.toNat,by omega⟩
 rw[en]at hn e hp
 rw[Lu]at hn
 rw[LZ]at e
 have hn':(n:Int).natAbs<2 ^ k:=by rw[Lu];exact hn
 refine⟨A*((n:Int)*n),B*((n:Int)*n),C*((q.den:Int)*q.den),E*((q.den:Int)*q.den),D*(n*q.den),NC h0 (NC (by omega) q.den_nz),?_,⟨?_,?_,?_,?_⟩,?_,?_,?_,?_⟩
 ·rw[show S+2*k=S+(k+k)by omega];exact D6 hd (D6 hn hm)
 ·rw[show S+2*k=S+(k+k)by omega];exact g7 h1 (g7 hn' hn')
 ·rw[show S+2*k=S+(k+k)by omega];exact g7 h2 (g7 hn' hn')
 ·rw[show S+2*k=S+(k+k)by omega];exact g7 h3 (g7 hm' hm')
 ·rw[show S+2*k=S+(k+k)by omega];exact g7 h4 (g7 hm' hm')
 all_goals (simp only[Mt,LI,LZ];grind)
end GM
namespace GM
open PySem PySem.Spec L2 DL
open RM (sz)
noncomputable abbrev v6(y u:Rat):D:=.tup [f6 y,f6 u]
structure T4(S:Nat)(a b c d:Rat):Prop where
 a:sz a≤S
 b:sz b≤S
 c:sz c≤S
 d:sz d≤S
structure T2(S:Nat)(y u:Rat):Prop where
 y:sz y≤S
 u:sz u≤S
theorem CD.t4{S:Nat}{a b c d:Rat}(h:CD S a b c d)(hS:0<S:=by omega):T4 S a b c d:=by
 obtain⟨A,B,C,E,D,h0,hd,⟨h1,h2,h3,h4⟩,e1,e2,e3,e4⟩:=h.ex
 exact⟨ip hS h0 hd e1 h1,ip hS h0 hd e2 h2,ip hS h0 hd e3 h3,ip hS h0 hd e4 h4⟩
def uW:DSp:=fun ds M R _=>∃ p:Addr,ds=[.ref p]∧A1 M p∧∀(y u:Rat) M',T2 41 y u→j9 p M M'→R (v6 y u) M'
theorem CD.mono{S S':Nat}{a b c d:Rat}(h:CD S a b c d)(hs:S≤S'):CD S' a b c d:=by
 obtain⟨A,B,C,E,D,h0,hd,⟨h1,h2,h3,h4⟩,e1,e2,e3,e4⟩:=h.ex
 exact⟨A,B,C,E,D,h0,C7 hd hs,⟨C7 h1 hs,C7 h2 hs,C7 h3 hs,C7 h4 hs⟩,e1,e2,e3,e4⟩
theorem vH(n:Int):f6 (n:Rat) = .tup [.int n,.int 1]:=by
 unfold f6
 rw[Qg,Qh];rfl
theorem CO{n:Int}{k:Nat}(hk:0<k)(h:n.natAbs<2 ^ k):sz (n:Rat)≤k:=by
 refine RM.uR _ hk ?_ ?_
 ·rw[Qg];exact h
 ·rw[Qh];exact Pu (by omega)
theorem dR(q:Rat):sz (j8 q)=sz q:=by
 unfold j8;split
 ·rfl
 ·exact RM.K2 q
theorem AD{q:Rat}(h:q≠0):0<j8 q:=by
 unfold j8;split
 ·grind
 ·grind
noncomputable def A3(x:Str × Rat):D:=.tup [.str x.1,f6 x.2]
structure F3(x:Str × Rat):Prop where
 kind:(x.1 = "gap" ∧ 0≤x.2)∨x.1 = "glass" ∨ (x.1 = "stop" ∧ 0<x.2)
 sz:RM.sz x.2≤41
noncomputable def O5(x:Str × Rat)(y u:Rat):Rat × Rat:=if x.1 = "gap" then(y+x.2*u,u)else if x.1 = "glass" then(y,u - x.2*y)else(y,u)
noncomputable def v9(bs:List (Str × Rat))(r:Rat × Rat):Rat × Rat:=bs.foldl (fun r x=>O5 x r.1 r.2) r
theorem CD.led{S:Nat}{x:Str × Rat}{y u:Rat}(h:CD S y 0 u 0)(hx:sz x.2≤41):CD (S+42) (O5 x y u).1 0 (O5 x y u).2 0:=by
 unfold O5
 split
 ·have:=h.step hx
  rw[show(0:Rat)+x.2*0=0 by grind]at this
  exact this
 ·split
  ·have:=(h.swap.step (q:=-x.2) (k:=41) (by rw[RM.K2];exact hx)).swap
   rw[show(0:Rat) + -x.2*0=0 by grind,show u + -x.2*y=u - x.2*y by grind]at this
   exact this
  ·exact h.mono (by omega)
theorem CD.t2{S:Nat}{y u:Rat}(h:CD S y 0 u 0)(hS:0<S:=by omega):T2 S y u:=⟨h.t4.a,h.t4.c⟩
theorem CD.ray{y u:Rat}{k:Nat}(h1:sz y≤k)(h2:sz u≤k):CD (2*k) y 0 u 0:=by
 have n1:=D4 y h1
 have d1:=o9 y h1
 have n2:=D4 u h2
 have d2:=o9 u h2
 have d1':(y.den:Int).natAbs<2 ^ k:=by rw[Lu];exact d1
 have d2':(u.den:Int).natAbs<2 ^ k:=by rw[Lu];exact d2
 have e1:=C3 y
 have e2:=C3 u
 refine⟨y.num*(u.den:Int),0,u.num*(y.den:Int),0,y.den*u.den,NC y.den_nz u.den_nz,?_,⟨?_,?_,?_,?_⟩,?_,?_,?_,?_⟩
 ·rw[show 2*k=k+k by omega];exact D6 d1 d2
 ·rw[show 2*k=k+k by omega];exact g7 n1 d2'
 ·exact Qi _
 ·rw[show 2*k=k+k by omega];exact g7 n2 d1'
 ·exact Qi _
 all_goals (simp only[Mt,LI,LZ,Rat.intCast_zero];grind)
theorem mi{bs:List (Str × Rat)}{i:Nat}{x:Str × Rat}(h:bs[i]? = some x)(r:Rat × Rat):v9 (bs.take (i+1)) r=O5 x (v9 (bs.take i) r).1 (v9 (bs.take i) r).2:=by
 obtain⟨hl,he⟩:=LP.mp h
 unfold v9
 rw[Mw hl,MS,he]
 rfl
theorem DJ{bs:List (Str × Rat)}{y u:Rat}{S:Nat}(h:CD S y 0 u 0)(hb:∀ x∈bs,F3 x):CD (S+42*bs.length) (v9 bs (y,u)).1 0 (v9 bs (y,u)).2 0:=by
 induction bs generalizing y u S with
 | nil=>exact h
 | cons x r ih =>
  have h1:=h.led (hb x Ly).sz
  have h2:=ih (y:=(O5 x y u).1) (u:=(O5 x y u).2) h1 fun z hz=>hb z (Ls _ hz)
  exact h2.mono (by simp only[LA];omega)
theorem rY{bs:List (Str × Rat)}{i:Nat}{d:D}(h:(bs.map A3)[i]? = some d):∃ x,bs[i]? = some x∧d=A3 x:=by
 rw[LS]at h
 cases e:bs[i]? with
 | none=>rw[e]at h;cases h
 | some x=>rw[e]at h;exact⟨x,rfl,(Option.some.inj h).symm⟩
def lI:DSp:=fun ds M R _=>∃ q:Rat,ds=[f6 q]∧R (f6 (j8 q)) M
theorem gR{x y:Str × Rat}(h:A3 x=A3 y):x=y:=by
 unfold A3 at h
 injection h with h
 injection h with h1 h2
 injection h1 with h1
 injection h2 with h2 _
 exact Prod.ext h1 (T6 h2)
theorem j4{x y:Str × Rat}:A3 x=A3 y↔x=y:=⟨gR,fun h=>by rw[h]⟩
theorem i5{xs ys:List (Str × Rat)}:xs.map A3=ys.map A3↔xs=ys:=Mp (fun _ _ h=>gR h)
noncomputable def f8(l:Rat × Rat × Rat):D:=.tup [f6 l.1,f6 l.2.1,f6 l.2.2]
theorem gX{x y:Rat × Rat × Rat}(h:f8 x=f8 y):x=y:=by
 unfold f8 at h
 injection h with h
 injection h with h1 h2
 injection h2 with h2 h3
 injection h3 with h3 _
 exact Prod.ext (T6 h1) (Prod.ext (T6 h2) (T6 h3))
theorem j5{x y:Rat × Rat × Rat}:f8 x=f8 y↔x=y:=⟨gX,fun h=>by rw[h]⟩
theorem i6{xs ys:List (Rat × Rat × Rat)}:xs.map f8=ys.map f8↔xs=ys:=Mp (fun _ _ h=>gX h)
theorem Di{p q r:Rat}:D.tup [f6 p,f6 q,f6 r]=f8 (p,q,r):=rfl
theorem pJ{gs:U9}{l:Rat × Rat × Rat}{e:Ev}{M:Mem}{Q:Ev→Mem→Prop}:mQ 3 gs (f8 l) e M Q=gs [f6 l.1,f6 l.2.1,f6 l.2.2] e M Q:=dO rfl
theorem pO{l:Rat × Rat × Rat}{M:Mem}{R:DK}:gIx (f8 l) (.int 0) M R=R (f6 l.1) M:=X4
theorem pN{l:Rat × Rat × Rat}{M:Mem}{R:DK}:gIx (f8 l) (.int 1) M R=R (f6 l.2.1) M:=X3
theorem pK{l:Rat × Rat × Rat}{M:Mem}{R:DK}:gIx (f8 l) (.int 2) M R=R (f6 l.2.2) M:=iB
theorem tQ{q:Rat}{M:Mem}{R:DK}:gIx (f6 q) (.int 0) M R=R (.int q.num) M:=X4
theorem tP{q:Rat}{M:Mem}{R:DK}:gIx (f6 q) (.int 1) M R=R (.int (q.den:Int)) M:=X3
theorem tO{gs:U9}{q:Rat}{e:Ev}{M:Mem}{Q:Ev→Mem→Prop}:mQ 2 gs (f6 q) e M Q=gs [.int q.num,.int (q.den:Int)] e M Q:=dO rfl
theorem tN{q:Rat}{M:Mem}{R:DK}:sJ [f6 q] M R=R (.int 2) M:=qf rfl
theorem pI{x:Str × Rat}{M:Mem}{R:DK}:gIx (A3 x) (.int 0) M R=R (.str x.1) M:=X4
theorem pH{x:Str × Rat}{M:Mem}{R:DK}:gIx (A3 x) (.int 1) M R=R (f6 x.2) M:=X3
theorem pG{gs:U9}{x:Str × Rat}{e:Ev}{M:Mem}{Q:Ev→Mem→Prop}:mQ 2 gs (A3 x) e M Q=gs [.str x.1,f6 x.2] e M Q:=dO rfl
theorem kZ{q:Rat}{M:Mem}{R:DK}:A9 [f6 q,.ty "tuple"] M R=R (.bl true) M:=p7 rfl rfl
theorem gr{x:Str × Rat}{M:Mem}{R:DK}:A9 [A3 x,.ty "tuple"] M R=R (.bl true) M:=p7 rfl rfl
theorem pF{x:Str × Rat}{M:Mem}{R:DK}:sJ [A3 x] M R=R (.int 2) M:=qf rfl
theorem yu{q:Rat}:cl 60 (f6 q)=true:=rfl
theorem yv{q:Rat}:cl 59 (f6 q)=true:=rfl
theorem yw{q:Rat}:cl 58 (f6 q)=true:=rfl
theorem yx{q:Rat}:cl 57 (f6 q)=true:=rfl
theorem r0:D.tup [.int 0,.int 1]=f6 0:=rfl
theorem r1:D.tup [.int 1,.int 1]=f6 1:=rfl
theorem r2:D.tup [.int 2,.int 1]=f6 2:=rfl
theorem r4:D.tup [.int 4,.int 1]=f6 4:=rfl
theorem FN{q:Rat}:D.tup [.int (q.num.natAbs:Int),.int (q.den:Int)]=f6 (j8 q):=(EE q).symm
theorem BH{q:Rat}:D.tup [.int (-q.num),.int (q.den:Int)]=f6 (-q):=by unfold f6;rw[OA,Pf]
theorem Dh{q:Rat}:D.tup [.int q.num,.int (q.den:Int)]=f6 q:=rfl
theorem rm2:D.tup [.int (-2),.int 1]=f6 (-2):=rfl
theorem rm1:D.tup [.int (-1),.int 1]=f6 (-1):=rfl
end GM
local macro_rules|`(tactic| walk_at "inj")=>`(tactic| (rename_i e h;simp only[List.cons.injEq,and_true,true_and,GM.i4,GM.j4,GM.i5,GM.j5,GM.i6,DL.D.tup.injEq,DL.D.ref.injEq,DL.D.int.injEq,DL.D.str.injEq,DL.D.bl.injEq,DL.D.vl.injEq,Me,and_assoc]at e;(repeat(obtain⟨e1,e⟩:=e;subst e1));subst e;exact h))
local macro_rules|`(tactic| walk_at "injs")=>`(tactic| (rename_i e o h;rcases o with o|o<;>(subst o;first|(exfalso;simp only[DL.D.tup.injEq,List.cons.injEq,reduceCtorEq,false_and,and_false]at e;done)|(simp only[List.cons.injEq,and_true,true_and,GM.i4,GM.j4,GM.i5,GM.j5,GM.i6,DL.D.tup.injEq,DL.D.ref.injEq,DL.D.int.injEq,DL.D.str.injEq,DL.D.bl.injEq,DL.D.vl.injEq,Me,and_assoc]at e;(repeat(obtain⟨e1,e⟩:=e;subst e1));subst e;exact h))))
namespace GM
open PySem PySem.Spec L2 DL
open RM (sz)
theorem bJ{a b:Nat}{M:Mem}{R:DK}{Y:DXK}:O2 [.int (a:Int),.int (b:Int)] M R Y=(R (.int ((Mz a b:Nat):Int)) M):=propext ⟨fun z=>by obtain⟨_,_,_,_⟩:=z;walk_at "inj",fun h=>⟨a,b,rfl,h⟩⟩
theorem oV{q:Rat}{M:Mem}{R:DK}{Y:DXK}:dS [f6 q] M R Y=(R (f6 (-q)) M):=propext ⟨fun z=>by obtain⟨_,_,_⟩:=z;walk_at "inj",fun h=>⟨q,rfl,h⟩⟩
theorem kJ{q r:Rat}{M:Mem}{R:DK}{Y:DXK}:L9 [f6 q,f6 r] M R Y=(sz q+sz r≤8900∧R (f6 (q+r)) M):=propext ⟨fun z=>by obtain⟨_,_,_,_⟩:=z;walk_at "inj",fun h=>⟨q,r,rfl,h⟩⟩
theorem gg{q r:Rat}{M:Mem}{R:DK}{Y:DXK}:L4 [f6 q,f6 r] M R Y=(sz q+sz r≤8900∧R (f6 (q - r)) M):=propext ⟨fun z=>by obtain⟨_,_,_,_⟩:=z;walk_at "inj",fun h=>⟨q,r,rfl,h⟩⟩
theorem gf{q r:Rat}{M:Mem}{R:DK}{Y:DXK}:D2 [f6 q,f6 r] M R Y=(sz q+sz r≤8900∧R (f6 (q*r)) M):=propext ⟨fun z=>by obtain⟨_,_,_,_⟩:=z;walk_at "inj",fun h=>⟨q,r,rfl,h⟩⟩
theorem kK{q r:Rat}{M:Mem}{R:DK}{Y:DXK}:iF [f6 q,f6 r] M R Y=(r≠0∧sz q+sz r≤8900∧R (f6 (q / r)) M):=propext ⟨fun z=>by obtain⟨_,_,_,_⟩:=z;walk_at "inj",fun h=>⟨q,r,rfl,h⟩⟩
theorem kM{q r:Rat}{M:Mem}{R:DK}{Y:DXK}:iG [f6 q,f6 r] M R Y=(sz q+sz r≤8900∧R (.bl (decide (q<r))) M):=propext ⟨fun z=>by obtain⟨_,_,_,_⟩:=z;walk_at "inj",fun h=>⟨q,r,rfl,h⟩⟩
theorem oW{a b:Int}{M:Mem}{R:DK}{Y:DXK}:D9 [.int a,.int b] M R Y=(b≠0∧b.natAbs.log2<9000∧R (f6 (Mf a b)) M):=propext ⟨fun z=>by obtain⟨_,_,_,_⟩:=z;walk_at "inj",fun h=>⟨a,b,rfl,h⟩⟩
theorem kI{c:Int}{M:Mem}{R:DK}{Y:DXK}:nF [.int c] M R Y=(∀ p M',M p=none→MK M M'→A1 M' p→R (.ref p) M'):=propext ⟨fun z=>by obtain⟨_,_,_⟩:=z;walk_at "inj",fun h=>⟨c,rfl,h⟩⟩
theorem kL{p:Addr}{b:Int}{M:Mem}{R:DK}{Y:DXK}:G9 [.ref p,.int b] M R Y=(A1 M p∧0<b∧b.natAbs.log2<9000∧∀(r:Int) M',0≤r→r<b→j9 p M M'→R (.int r) M'):=propext ⟨fun z=>by obtain⟨_,_,_,_⟩:=z;walk_at "inj",fun h=>⟨p,b,rfl,h⟩⟩
theorem dh{p:Addr}{M:Mem}{R:DK}{Y:DXK}:O1 [.ref p] M R Y=(A1 M p∧∀(q:Rat) M',RM.sz q≤41→j9 p M M'→R (f6 q) M'):=propext ⟨fun z=>by obtain⟨_,_,_⟩:=z;walk_at "inj",fun h=>⟨p,rfl,h⟩⟩
theorem oU{p:Addr}{M:Mem}{R:DK}{Y:DXK}:uW [.ref p] M R Y=(A1 M p∧∀(y u:Rat) M',T2 41 y u→j9 p M M'→R (v6 y u) M'):=propext ⟨fun z=>by obtain⟨_,_,_⟩:=z;walk_at "inj",fun h=>⟨p,rfl,h⟩⟩
theorem oX{q:Rat}{M:Mem}{R:DK}{Y:DXK}:lI [f6 q] M R Y=(R (f6 (j8 q)) M):=propext ⟨fun z=>by obtain⟨_,_,_⟩:=z;walk_at "inj",fun h=>⟨q,rfl,h⟩⟩
abbrev cN(x:Str × Rat)(y u:Rat)(M:Mem)(R:DK)(Y:DXK):Prop:=sz x.2+sz y+sz u≤8900∧R (v6 (O5 x y u).1 (O5 x y u).2) M
def vw:DSp:=fun ds M R Y=>∃(x:Str × Rat) (y u:Rat),ds=[A3 x,v6 y u]∧cN x y u M R Y
theorem pv{x:Str × Rat}{y u:Rat}{M:Mem}{R:DK}{Y:DXK}:vw [A3 x,v6 y u] M R Y=(cN x y u M R Y):=propext ⟨fun z=>by obtain⟨_,_,_,_,_⟩:=z;walk_at "inj",fun h=>⟨x,y,u,rfl,h⟩⟩
theorem km{k:Nat}:∀{ds:List D},(∀ x∈ds,cl k x=true)→clL k ds=true
 | [],_=>rfl
 | d :: r,h=>by
  show(cl k d && clL k r)=true
  rw[h d Ly,km (fun x hx=>h x (Ls _ hx))];rfl
theorem lG{bs:List (Str × Rat)}{y u:Rat}{S:Nat}(h:CD S y 0 u 0)(hb:∀ x∈bs,F3 x)(i:Nat):CD (S+42*bs.length) (v9 (bs.take i) (y,u)).1 0 (v9 (bs.take i) (y,u)).2 0 :=
 (DJ h fun x hx=>hb x (Mv hx)).mono (by
  rw[Ma];omega)
theorem F3.app{xs:List (Str × Rat)}{x:Str × Rat}(h:∀ z∈xs,F3 z)(hx:F3 x):∀ z∈xs++[x],F3 z:=fun z hz=>by
 rcases LR.mp hz with z1|z1
 ·exact h z z1
 ·rw[Mh.mp z1];exact hx
theorem j9.put{p l:Addr}{M M':Mem}{o:MO}(h:j9 p M M')(hl:M l=none)(hp:l≠p):j9 p M (B9 M' l o):=⟨fun b u hb e=>by
  rw[G1 (by intro z;subst z;rw[hl]at e;cases e)];exact h.keep b u hb e,by
  obtain⟨x,y,z,e⟩:=h.pool.ex
  exact⟨x,y,z,by rw[G1 (Ne.symm hp)];exact e⟩⟩
theorem j9.del{p l:Addr}{M M':Mem}(h:j9 p M M')(hl:M l=none)(hp:l≠p):j9 p M (cm M' l):=⟨fun b u hb e=>by
  rw[kc (by intro z;subst z;rw[hl]at e;cases e)];exact h.keep b u hb e,by
  obtain⟨x,y,z,e⟩:=h.pool.ex
  exact⟨x,y,z,by rw[kc (Ne.symm hp)];exact e⟩⟩
theorem bG{ds:List D}{n:Nat}:R5 ds none (some (n:Int))=ds.take n:=by
 unfold R5 HT.sIx
 simp only[Qp,Nat.sub_zero]
 rw[if_neg (by omega)]
 by_cases h:n≤ds.length
 ·congr 1;omega
 ·rw[Nd (by omega),Nd (by omega)]
noncomputable def rq(a:Int)(b:Nat)(h:b≠0:=by decide)(c:a.natAbs.Coprime b:=by decide):Rat:=⟨a,b,h,c⟩
theorem Q6{xs:List D}{r:Int}{M:Mem}{R:DK}(h0:0≤r)(h1:r<xs.length)(h:∀ d∈xs,R d M):gIx (.vl xs) (.int r) M R:=by
 obtain⟨z,e,hz⟩:=rz h0 h1
 exact⟨z,e,h z hz⟩
end GM
set_option maxHeartbeats 1000000
namespace GM
open PySem PySem.Spec L2 DL
open RM (sz)
noncomputable def T9(l:Rat × Rat × Rat)(y u:Rat):Bool:=decide (j8 (l.1*y+l.2.1*u)≤l.2.2)
noncomputable def r9(ls:List (Rat × Rat × Rat))(y u:Rat):Bool:=ls.all fun l=>T9 l y u
structure LSz(n:Nat)(l:Rat × Rat × Rat):Prop where
 p:sz l.1≤n
 q:sz l.2.1≤n
 r:sz l.2.2≤n
structure LOk(n:Nat)(l:Rat × Rat × Rat):Prop extends LSz n l where
 ne:¬ (l.1=0∧l.2.1=0)
noncomputable def fF(p q y u:Rat):Int:=p.num*y.num*q.den*u.den+q.num*u.num*p.den*y.den
noncomputable def aV(p q y u:Rat):Int:=p.den*y.den*q.den*u.den
abbrev av(p q y u:Rat)(M:Mem)(R:DK)(Y:DXK):Prop:=(sz p+sz q+sz y+sz u≤8000)∧R (f6 (p*y+q*u)) M
def nV:DSp:=fun ds M R Y=>∃(p q y u:Rat),ds=[f6 p,f6 q,v6 y u]∧av p q y u M R Y
theorem kN{p q y u:Rat}{M:Mem}{R:DK}{Y:DXK}:nV [f6 p,f6 q,v6 y u] M R Y=(av p q y u M R Y):=propext ⟨fun z=>by obtain⟨_,_,_,_,_,_⟩:=z;walk_at "inj",fun h=>⟨p,q,y,u,rfl,h⟩⟩
def CB(B m:Nat)(x:Rat):Prop:=∃ n:Int,x=Mf n (B:Int)∧n.natAbs≤B*2 ^ m
def Col(k:Nat)(xs:List Rat):Prop:=∃ B:Nat,0<B∧B≤2 ^ (42*k)∧∀ x∈xs,CB B (41+2*k) x
theorem Col.nil:Col 0 []:=⟨1,by decide,by decide,fun x hx=>by cases hx⟩
theorem CB.mono{B m m':Nat}{x:Rat}(h:CB B m x)(hm:m≤m'):CB B m' x:=by
 obtain⟨n,e,h⟩:=h
 exact⟨n,e,LB h (Ph _ (LX (by decide) hm))⟩
theorem CB.scale{B m:Nat}{x:Rat}(h:CB B m x)(hB:0<B){c:Nat}(hc:0<c):CB (B*c) m x:=by
 obtain⟨n,e,h⟩:=h
 refine⟨n*c,?_,?_⟩
 ·rw[e,NF,NW (by omega)]
 ·rw[Mc,Lu]
  have:=Mo c h
  rw[Nat.mul_right_comm]at this
  exact this
theorem CB.sz{B m k:Nat}{x:Rat}(h:CB B m x)(hB:0<B)(hk:B≤2 ^ k):RM.sz x≤k+m+1:=by
 obtain⟨n,rfl,h⟩:=h
 refine N8 (by omega) ?_ ?_ (by omega)
 ·have h2:B*2 ^ m≤2 ^ (k+m):=by rw[My];exact Mo _ hk
  exact LO (LB h h2) (OZ (by decide) (by omega))
 ·rw[Lu]
  exact LO hk (OZ (by decide) (by omega))
theorem Col.sz{k:Nat}{xs:List Rat}(h:Col k xs)(hk:k≤12){x:Rat}(hx:x∈xs):RM.sz x≤600:=by
 obtain⟨B,b0,b1,h⟩:=h
 have:=(h x hx).sz b0 b1
 omega
theorem Col.new{k:Nat}{xs:List Rat}(h:Col k xs){x:Rat}(hx:RM.sz x≤41):Col (k+1) (xs++[x]):=by
 obtain⟨B,b0,b1,h⟩:=h
 have hd:x.den<2 ^ 41:=o9 x hx
 have hn:x.num.natAbs<2 ^ 41:=D4 x hx
 have d0:=x.den_pos
 refine⟨B*x.den,Pj b0 d0,?_,fun z hz=>?_⟩
 ·have:=Pb b1 (ME hd)
  rw[← My]at this
  exact LB this (LX (by decide) (by omega))
 ·rcases LR.mp hz with hz|hz
  ·exact((h z hz).scale b0 d0).mono (by omega)
  ·obtain rfl:z=x:=by simpa using hz
   refine⟨z.num*B,?_,?_⟩
   ·rw[Nj,NF,NW (by omega),Mq]
   ·rw[Mc,Lu,Nj,Pw]
    refine Ph _ (LB (ME hn) ?_)
    have h1:2 ^ 41≤2 ^ (41+2*(k+1)):=LX (by decide) (by omega)
    exact LB h1 (Nat.le_mul_of_pos_left _ d0)
theorem Col.add{k:Nat}{xs:List Rat}(h:Col k xs){x y:Rat}(hx:x∈xs)(hy:y∈xs):Col (k+1) (xs++[x+y]):=by
 obtain⟨B,b0,b1,h⟩:=h
 refine⟨B,b0,LB b1 (LX (by decide) (by omega)),fun z hz=>?_⟩
 rcases LR.mp hz with hz|hz
 ·exact(h z hz).mono (by omega)
 ·obtain rfl:z=x+y:=by simpa using hz
  obtain⟨n,rfl,hn⟩:=h x hx
  obtain⟨m,rfl,hm⟩:=h y hy
  refine⟨n+m,?_,?_⟩
  ·rw[OP _ _ (by omega) (by omega),← Int.add_mul,NW (by omega)]
  ·have:=NI n m
   have e:41+2*(k+1)=(41+2*k)+1+1:=by omega
   rw[e,MX,MX]
   generalize 2 ^ (41+2*k)=t at *
   have:B*(t*2*2)=4*(B*t):=by grind
   omega
theorem Col.again{k:Nat}{xs:List Rat}(h:Col k xs){x:Rat}(hx:x∈xs):Col (k+1) (xs++[x]):=by
 obtain⟨B,b0,b1,h⟩:=h
 refine⟨B,b0,LB b1 (LX (by decide) (by omega)),fun z hz=>?_⟩
 rcases LR.mp hz with hz|hz
 ·exact(h z hz).mono (by omega)
 ·obtain rfl:z=x:=by simpa using hz
  exact(h z hx).mono (by omega)
theorem Col.by{k:Nat}{xs:List Rat}(h:Col k xs){x w:Rat}(hx:x∈xs)(h1:w.num.natAbs≤4)(h2:w.den≤4):Col (k+1) (xs++[w*x]):=by
 obtain⟨B,b0,b1,h⟩:=h
 have d0:=w.den_pos
 refine⟨B*w.den,Pj b0 d0,?_,fun z hz=>?_⟩
 ·have:=Pb b1 (show w.den≤2 ^ 2 from h2)
  rw[← My]at this
  exact LB this (LX (by decide) (by omega))
 ·rcases LR.mp hz with hz|hz
  ·exact((h z hz).scale b0 d0).mono (by omega)
  ·obtain rfl:z=w*x:=by simpa using hz
   obtain⟨n,rfl,hn⟩:=h x hx
   refine⟨w.num*n,?_,?_⟩
   ·rw[NF,Int.mul_comm (B:Int),← NL,Mq]
   ·rw[Mc]
    have e:41+2*(k+1)=(41+2*k)+2:=by omega
    rw[e,My]
    have:=Pb h1 hn
    generalize 2 ^ (41+2*k)=t at *
    have h3:B*w.den*(t*2 ^ 2)=4*(B*t)*w.den:=by grind
    rw[h3]
    exact LB this (OB _ d0)
theorem gc{a b c d:Int}(hb:0<b)(hd:0<d):Mf a b≤Mf c d↔a*d≤c*b:=by
 rw[Rat.le_iff_sub_nonneg,Rat.divInt_sub_divInt _ _ (by omega) (by omega),Nw (Nu hd hb)]
 omega
theorem F6{a b:Int}{m n:Nat}(h1:a.natAbs<2 ^ m)(h2:b.natAbs<2 ^ n):(a*b).natAbs<2 ^ (m+n):=by
 rw[Mc,My]
 exact MI h1 (ME h2) (OC (by decide))
theorem CJ(p q y u:Rat):(fF p q y u).natAbs<2 ^ (sz p+sz q+sz y+sz u+1):=by
 unfold fF
 have h1:=F6 (F6 (F6 (v7 p) (v7 y)) (o8 q)) (o8 u)
 have h2:=F6 (F6 (F6 (v7 q) (v7 u)) (o8 p)) (o8 y)
 rw[show sz p+sz y+sz q+sz u=sz p+sz q+sz y+sz u by omega]at h1
 rw[show sz q+sz u+sz p+sz y=sz p+sz q+sz y+sz u by omega]at h2
 have:=NI (p.num*y.num*q.den*u.den) (q.num*u.num*p.den*y.den)
 rw[MX]
 omega
theorem xy(p q y u:Rat):(aV p q y u).natAbs<2 ^ (sz p+sz q+sz y+sz u):=by
 unfold aV
 have h1:=F6 (F6 (F6 (o8 p) (o8 y)) (o8 q)) (o8 u)
 rw[show sz p+sz y+sz q+sz u=sz p+sz q+sz y+sz u by omega]at h1
 exact h1
theorem sE{l:Rat × Rat × Rat}{y u:Rat}:((fF l.1 l.2.1 y u).natAbs:Int)*(l.2.2.den:Int)≤l.2.2.num*aV l.1 l.2.1 y u↔T9 l y u=true:=by
 have b0:0<aV l.1 l.2.1 y u:=by
  unfold aV
  exact Nu (Nu (Nu (by have:=l.1.den_pos;omega) (by have:=y.den_pos;omega)) (by have:=l.2.1.den_pos;omega)) (by have:=u.den_pos;omega)
 have e:l.1*y+l.2.1*u=Mf (fF l.1 l.2.1 y u) (aV l.1 l.2.1 y u):=by
  conv=>lhs;rw[← Mq l.1,← Mq y,← Mq l.2.1,← Mq u]
  rw[NL,NL,OP _ _ (Mj (RM.t7 _) (RM.t7 _)) (Mj (RM.t7 _) (RM.t7 _))]
  unfold fF aV
  congr 1<;>grind
 unfold T9
 rw[e,decide_eq_true_iff]
 generalize aV l.1 l.2.1 y u=b at *
 generalize fF l.1 l.2.1 y u=t at *
 have ea:j8 (Mf t b)=Mf (t.natAbs:Int) b:=by
  unfold j8
  have hh:=Nw (a:=t) b0
  split
  ·rename_i h;have:=hh.mp h;rw[show(t.natAbs:Int)=t by omega]
  ·rename_i h;have:¬ 0≤t:=fun z=>h (hh.mpr z);rw[show(t.natAbs:Int) = -t by omega,← Rat.neg_divInt]
 rw[ea]
 conv=>rhs;rw[← Mq l.2.2]
 exact(gc b0 (by have:=l.2.2.den_pos;omega)).symm
theorem sC{ls:List (Rat × Rat × Rat)}{i:Nat}{d:D}(h:(ls.map f8)[i]? = some d):∃ l,ls[i]? = some l∧d=f8 l:=by
 rw[LS]at h
 cases e:ls[i]? with
 | none=>rw[e]at h;cases h
 | some l=>rw[e]at h;exact⟨l,rfl,(Option.some.inj h).symm⟩
theorem fi{l:Addr}{xs:List D}{r:Int}{M:Mem}{R:DK}(hM:M l=some (.lst xs))(h0:0≤r)(h1:r<xs.length)(h:∀ d∈xs,R d M):gIx (.ref l) (.int r) M R:=by
 obtain⟨z,e,hz⟩:=rz h0 h1
 exact⟨z,E9 hM e,h z hz⟩
structure R3(k:Nat)(ls:List (Rat × Rat × Rat)):Prop where
 p:Col k (ls.map fun l=>l.1)
 q:Col k (ls.map fun l=>l.2.1)
 r:Col k (ls.map fun l=>l.2.2)
 ne:∀ l∈ls,¬ (l.1=0∧l.2.1=0)
theorem R3.nil:R3 0 []:=⟨Col.nil,Col.nil,Col.nil,fun _ h=>nomatch h⟩
theorem jO{ls:List (Rat × Rat × Rat)}{x:Rat × Rat × Rat}(h:∀ l∈ls,¬ (l.1=0∧l.2.1=0))(hx:¬ (x.1=0∧x.2.1=0)):∀ l∈ls++[x],¬ (l.1=0∧l.2.1=0):=fun l hl=>by
 rcases LR.mp hl with z|z
 ·exact h l z
 ·rw[Mh.mp z];exact hx
theorem Z5{ls:List (Rat × Rat × Rat)}{x:Rat × Rat × Rat}(h:x∈ls)(f:Rat × Rat × Rat→Rat):f x∈ls.map f:=Lv.mpr ⟨x,h,rfl⟩
theorem R3.new{k:Nat}{ls:List (Rat × Rat × Rat)}(h:R3 k ls){x:Rat × Rat × Rat}(hx:LOk 41 x):R3 (k+1) (ls++[x]) :=
 ⟨by rw[LH];exact h.p.new hx.p,by rw[LH];exact h.q.new hx.q,by rw[LH];exact h.r.new hx.r,jO h.ne hx.ne⟩
theorem R3.again{k:Nat}{ls:List (Rat × Rat × Rat)}(h:R3 k ls){x:Rat × Rat × Rat}(hx:x∈ls):R3 (k+1) (ls++[x]) :=
 ⟨by rw[LH];exact h.p.again (Z5 hx _),by rw[LH];exact h.q.again (Z5 hx _),by rw[LH];exact h.r.again (Z5 hx _),jO h.ne (h.ne x hx)⟩
theorem R3.sum{k:Nat}{ls:List (Rat × Rat × Rat)}(h:R3 k ls){x y:Rat × Rat × Rat}(hx:x∈ls)(hy:y∈ls)(hn:¬ (x.1+y.1=0∧x.2.1+y.2.1=0)):R3 (k+1) (ls++[(x.1+y.1,x.2.1+y.2.1,x.2.2+y.2.2)]) :=
 ⟨by rw[LH];exact h.p.add (Z5 hx _) (Z5 hy _),by rw[LH];exact h.q.add (Z5 hx (fun l=>l.2.1)) (Z5 hy (fun l=>l.2.1)),by rw[LH];exact h.r.add (Z5 hx (fun l=>l.2.2)) (Z5 hy (fun l=>l.2.2)),jO h.ne hn⟩
structure ft(w:Rat):Prop where
 n:w.num.natAbs≤4
 d:w.den≤4
 ne:w≠0
theorem R3.taken{k:Nat}{ls:List (Rat × Rat × Rat)}(h:R3 k ls){x:Rat × Rat × Rat}(hx:x∈ls){w r:Rat}(hw:ft w)(hr:r=x.2.2∨sz r≤41):R3 (k+1) (ls++[(w*x.1,w*x.2.1,r)]) :=
 ⟨by rw[LH];exact h.p.by (Z5 hx _) hw.n hw.d,by rw[LH];exact h.q.by (Z5 hx (fun l=>l.2.1)) hw.n hw.d,by
  rw[LH]
  rcases hr with rfl|hr
  ·exact h.r.again (Z5 hx (fun l=>l.2.2))
  ·exact h.r.new hr,jO h.ne fun z=>h.ne x hx (by
   have a:=hw.ne
   have b1:w*x.1=0:=z.1
   have b2:w*x.2.1=0:=z.2
   exact⟨by grind,by grind⟩)⟩
theorem R3.ok{k:Nat}{ls:List (Rat × Rat × Rat)}(h:R3 k ls)(hk:k≤12):∀ l∈ls,LOk 600 l:=fun l hl =>
 ⟨⟨h.p.sz hk (Z5 hl _),h.q.sz hk (Z5 hl (fun l=>l.2.1)),h.r.sz hk (Z5 hl (fun l=>l.2.2))⟩,h.ne l hl⟩
theorem iH{a b:Int}(h0:a.natAbs≤4)(h1:0<b)(h2:b≤4)(h3:Mf a b≠0):ft (Mf a b):=by
 have ha:a = -4∨a = -3∨a = -2∨a = -1∨a=0∨a=1∨a=2∨a=3∨a=4:=by omega
 have hb:b=1∨b=2∨b=3∨b=4:=by omega
 refine⟨?_,?_,h3⟩<;>(rcases ha with rfl|rfl|rfl|rfl|rfl|rfl|rfl|rfl|rfl<;>rcases hb with rfl|rfl|rfl|rfl<;>decide)
theorem small_one:ft 1:=⟨by decide,by decide,by decide⟩
theorem ft.sz{w:Rat}(h:ft w):RM.sz w≤3:=by
 rw[← Mq w]
 exact N8 (by decide) (by have:=h.n;omega) (by have:=h.d;omega) (RM.t7 w)
noncomputable def rD(r:Rat × Rat):D:=v6 r.1 r.2
theorem Im:CD 90 1 0 0 0:=⟨1,0,0,0,1,by decide,by decide,⟨by decide,by decide,by decide,by decide⟩,by grind,by grind,by grind,by grind⟩
theorem Io:CD 90 0 0 1 0:=⟨0,0,1,0,1,by decide,by decide,⟨by decide,by decide,by decide,by decide⟩,by grind,by grind,by grind,by grind⟩
noncomputable def J4(bs:List (Str × Rat)):Nat→List (Rat × Rat × Rat)
 | 0=>[]
 | i+1=>J4 bs i++(match bs[i]? with|some x=>(if x.1 = "stop" then[((v9 (bs.take i) (1,0)).1,(v9 (bs.take i) (0,1)).1,x.2)]else[])|none=>[])
theorem sA{bs:List (Str × Rat)}{i:Nat}{x:Str × Rat}(h:bs[i]? = some x)(hx:x.1 = "stop"):J4 bs (i+1)=J4 bs i++[((v9 (bs.take i) (1,0)).1,(v9 (bs.take i) (0,1)).1,x.2)]:=by
 show J4 bs i++_=_
 rw[h];simp only[if_pos hx]
theorem wx{bs:List (Str × Rat)}{i:Nat}{x:Str × Rat}(h:bs[i]? = some x)(hx:¬ x.1 = "stop"):J4 bs (i+1)=J4 bs i:=by
 show J4 bs i++_=_
 rw[h];simp only[if_neg hx,Ng]
theorem eX(bs:List (Str × Rat)):∀ i,(J4 bs i).length≤i
 | 0=>LM 0
 | i+1=>by
  have:=eX bs i
  show(J4 bs i++_).length≤i+1
  rw[LQ]
  split
  ·split
   ·show _+1≤_;omega
   ·show _+0≤_;omega
  ·show _+0≤_;omega
abbrev K4(bs:List (Str × Rat))(M:Mem)(R:DK)(Y:DXK):Prop:=(bs.length≤12∧∀ x∈bs,F3 x)∧R (.vl ((J4 bs bs.length).map f8)) M
def aB:DSp:=fun ds M R Y=>∃(x0:D) (bs:List (Str × Rat)),ds=[x0]∧(x0 = .vl (bs.map A3)∨x0 = .tup (bs.map A3))∧K4 bs M R Y
theorem dk{bs:List (Str × Rat)}{M:Mem}{R:DK}{Y:DXK}:aB [.vl (bs.map A3)] M R Y=(K4 bs M R Y):=propext ⟨fun z=>by obtain⟨_,_,_,_,_⟩:=z;walk_at "injs",fun h=>⟨_,bs,rfl,.inl rfl,h⟩⟩
theorem ah{bs:List (Str × Rat)}{M:Mem}{R:DK}{Y:DXK}:aB [.tup (bs.map A3)] M R Y=(K4 bs M R Y):=propext ⟨fun z=>by obtain⟨_,_,_,_,_⟩:=z;walk_at "injs",fun h=>⟨_,bs,rfl,.inr rfl,h⟩⟩
noncomputable def vc(bs:List (Str × Rat))(x:Rat):List (Rat × Rat × Rat):=(J4 bs bs.length).map fun l=>(l.1,l.1*x+l.2.1,l.2.2)
noncomputable def mK(l:Nat × Rat × Rat × Rat):D:=.tup [.int (l.1:Int),f6 l.2.1,f6 l.2.2.1,f6 l.2.2.2]
end GM
namespace DL
open PySem PySem.Spec L2
open PyProof.Rows hiding St
section
variable {X:Cx} {name:Str} {id:String} {o:Expr} {to:DTE} {apos cpos:Pos}
end
section
variable {e:Ev} {M:Mem} {R:DK} {to:DTE}
end
end DL
namespace GM
noncomputable abbrev T3:=Rat × Rat × Rat
noncomputable def ve(a b:T3):Rat:=a.1*b.2.1 - a.2.1*b.1
noncomputable def tn(a b c:T3):Rat:=a.2.2*ve b c - b.2.2*ve a c+c.2.2*ve a b
noncomputable def dt(a:T3)(z:Rat × Rat):Rat:=a.1*z.1+a.2.1*z.2
noncomputable def ry(a b:T3):Rat × Rat:=((a.2.2*b.2.1 - b.2.2*a.2.1) / ve a b,(a.1*b.2.2 - b.1*a.2.2) / ve a b)
noncomputable def ng(a:T3):T3:=(-a.1,-a.2.1,a.2.2)
noncomputable def ngZ(z:Rat × Rat):Rat × Rat:=(-z.1,-z.2)
def Sup(ss:List T3)(z:Rat × Rat):Prop:=∀ s∈ss,dt s z≤s.2.2
structure EL(ss:List T3)(a b:T3):Prop where
 ve:0<ve a b
 mem:b∈ss
 hull:∀ s∈ss,0<GM.ve a s→0≤tn a b s
theorem gO{a b:T3}(h:ve a b≠0):ve a b*(ry a b).1=a.2.2*b.2.1 - b.2.2*a.2.1∧ve a b*(ry a b).2=a.1*b.2.2 - b.1*a.2.2:=by
 unfold ry
 constructor
 ·show ve a b*((a.2.2*b.2.1 - b.2.2*a.2.1) / ve a b)=_
  rw[NM,Mm h]
 ·show ve a b*((a.1*b.2.2 - b.1*a.2.2) / ve a b)=_
  rw[NM,Mm h]
theorem t6{x:Rat}(h:0<x):x≠0:=by grind
theorem G0{x:Rat}(h:0<x):0≤x:=by grind
theorem tot(x y:Rat):x≤y∨y≤x:=by grind
theorem bT{v x y:Rat}(hv:v≠0)(h:v*x=v*y):x=y:=by grind
theorem lX{a b:T3}(h:ve a b≠0)(s:T3):ve a b*(s.2.2 - dt s (ry a b))=tn a b s:=by
 obtain⟨e1,e2⟩:=gO h
 unfold dt tn
 have:ve a b*(s.2.2 - (s.1*(ry a b).1+s.2.1*(ry a b).2))=ve a b*s.2.2 - s.1*(ve a b*(ry a b).1) - s.2.1*(ve a b*(ry a b).2):=by grind
 rw[this,e1,e2]
 unfold ve
 grind
theorem fQ{a b:T3}(h:ve a b≠0):dt a (ry a b)=a.2.2:=by
 have:=lX h a
 have e:tn a b a=0:=by unfold tn ve;grind
 rw[e]at this
 grind
theorem eG{a b:T3}(h:ve a b≠0):dt b (ry a b)=b.2.2:=by
 have:=lX h b
 have e:tn a b b=0:=by unfold tn ve;grind
 rw[e]at this
 grind
theorem aI{a b:T3}{z:Rat × Rat}(h:ve a b≠0)(h1:dt a z=a.2.2)(h2:dt b z=b.2.2):z=ry a b:=by
 obtain⟨e1,e2⟩:=gO h
 have z1:ve a b*z.1=ve a b*(ry a b).1:=by
  rw[e1,← h1,← h2];unfold ve dt;grind
 have z2:ve a b*z.2=ve a b*(ry a b).2:=by
  rw[e2,← h1,← h2];unfold ve dt;grind
 exact Prod.ext (bT h z1) (bT h z2)
theorem gN(a b:T3):ry (ng a) (ng b)=ngZ (ry a b):=by
 have e:ve (ng a) (ng b)=ve a b:=by unfold ve ng;grind
 unfold ry ngZ
 rw[e]
 show((a.2.2*(-b.2.1) - b.2.2*(-a.2.1)) / ve a b,((-a.1)*b.2.2 - (-b.1)*a.2.2) / ve a b)=_
 exact Prod.ext (by show _ / _ = -(_ / _);grind) (by show _ / _ = -(_ / _);grind)
theorem BC(a b s:T3)(z:Rat × Rat):tn a b s=(a.2.2 - dt a z)*ve b s - (b.2.2 - dt b z)*ve a s+(s.2.2 - dt s z)*ve a b:=by
 unfold tn ve dt;grind
theorem C8{v x:Rat}(hv:0<v)(h:0≤v*x):0≤x:=by
 rcases tot 0 x with z|z
 ·exact z
 ·by_cases e:x=0
  ·grind
  ·have:0<v * -x:=MC hv (by grind)
   grind
theorem CQ{a b:T3}{ss:List T3}(h:0<ve a b)(ht:∀ s∈ss,0≤tn a b s):Sup ss (ry a b):=fun s hs=>by
 have:=lX (t6 h) s
 have h2:=ht s hs
 rw[← this]at h2
 have:=C8 h h2
 grind
theorem lH{ss:List T3}{a b:T3}{z:Rat × Rat}(hz:Sup ss z)(ha:dt a z=a.2.2)(e:EL ss a b):Sup ss (ry a b):=by
 refine CQ e.ve fun s hs=>?_
 by_cases h:0<ve a s
 ·exact e.hull s hs h
 ·rw[BC a b s z,ha]
  have h1:0≤(b.2.2 - dt b z)*(-ve a s):=LC (by have:=hz b e.mem;grind) (by grind)
  have h2:0≤(s.2.2 - dt s z)*ve a b:=LC (by have:=hz s hs;grind) (by have:=e.ve;grind)
  grind
theorem bg{ss:List T3}(sy:∀ s∈ss,ng s∈ss){z:Rat × Rat}(h:Sup ss z):Sup ss (ngZ z):=fun s hs=>by
 have:=h _ (sy s hs)
 have e:dt (ng s) z=dt s (ngZ z):=by unfold dt ng ngZ;grind
 rw[← e];exact this
theorem G4{a b w:T3}(h:0<ve a b)(z:Rat × Rat):ve a b*dt w z=ve w b*dt a z+ve a w*dt b z:=by
 unfold ve dt;grind
theorem nv{w:T3}:∀(x:T3) (l:List T3) (y:T3),0≤ve x w→0<ve w y→∃ ab∈(x :: l).zip (l++[y]),0≤ve ab.1 w∧0<ve w ab.2
 | x,[],y,h1,h2=>⟨(x,y),Ly,h1,h2⟩
 | x,x' :: l,y,h1,h2=>by
  by_cases h:0<ve w x'
  ·exact⟨(x,x'),Ly,h1,h⟩
  ·have e:ve x' w = -ve w x':=by unfold ve;grind
   obtain⟨ab,hm,q⟩:=nv x' l y (by rw[e];grind) h2
   exact⟨ab,Ls _ hm,q⟩
structure Rim(ss:List T3)(h0:T3)(l:List T3):Prop where
 ne:l≠[]
 sy:∀ s∈ss,ng s∈ss
 pos:∀ s∈ss,0<s.2.2
 all:∀ ab∈(h0 :: l).zip (l++[ng h0]),ab.1∈ss∧ab.2∈ss∧0<ve ab.1 ab.2∧Sup ss (ry ab.1 ab.2)
noncomputable def cj(h0:T3)(l:List T3):List (T3 × T3):=(h0 :: l).zip (l++[ng h0])
noncomputable def cu(h0:T3)(l:List T3):List (Rat × Rat):=(cj h0 l).map (fun ab=>ry ab.1 ab.2)++(cj h0 l).map (fun ab=>ngZ (ry ab.1 ab.2))
theorem D8{α β:Type}(f:α→β):∀(l m:List α),(l.map f).zip (m.map f)=(l.zip m).map fun p=>(f p.1,f p.2)
 | [],_=>rfl
 | _ :: _,[]=>rfl
 | a :: l,b :: m=>by rw[LY,LY,Px,D8 f l m];rfl
theorem wo(a:T3):ng (ng a)=a:=by
 obtain⟨p,q,r⟩:=a
 unfold ng
 show(- -p,- -q,r)=(p,q,r)
 rw[OD,OD]
theorem Rim.around{ss:List T3}{h0:T3}{l:List T3}(R:Rim ss h0 l)(w:T3)(hw:¬ (w.1=0∧w.2.1=0)) :
  ∃ a b,a∈ss∧b∈ss∧0<ve a b∧Sup ss (ry a b)∧ry a b∈cu h0 l∧0≤ve a w∧0<ve w b:=by
 have fromE:∀ ab∈cj h0 l,0≤ve ab.1 w→0<ve w ab.2→∃ a b,a∈ss∧b∈ss∧0<ve a b∧Sup ss (ry a b)∧ry a b∈cu h0 l∧0≤ve a w∧0<ve w b:=fun ab hm h1 h2=>by
  obtain⟨q1,q2,q3,q4⟩:=R.all ab hm
  exact⟨ab.1,ab.2,q1,q2,q3,q4,Mu _ (Lv.mpr ⟨ab,hm,rfl⟩),h1,h2⟩
 have fromN:∀ ab∈cj h0 l,0≤ve (ng ab.1) w→0<ve w (ng ab.2)→∃ a b,a∈ss∧b∈ss∧0<ve a b∧Sup ss (ry a b)∧ry a b∈cu h0 l∧0≤ve a w∧0<ve w b:=fun ab hm h1 h2=>by
  obtain⟨q1,q2,q3,q4⟩:=R.all ab hm
  refine⟨ng ab.1,ng ab.2,R.sy _ q1,R.sy _ q2,?_,?_,?_,h1,h2⟩
  ·have:ve (ng ab.1) (ng ab.2)=ve ab.1 ab.2:=by unfold ve ng;grind
   rw[this];exact q3
  ·rw[gN];exact bg R.sy q4
  ·rw[gN];exact LW _ (Lv.mpr ⟨ab,hm,rfl⟩)
 have e0:ve w (ng h0)=ve h0 w:=by unfold ve ng;grind
 have e1:ve (ng h0) w = -ve h0 w:=by unfold ve ng;grind
 by_cases c1:0<ve h0 w
 ·obtain⟨ab,hm,k1,k2⟩:=nv h0 l (ng h0) (G0 c1) (by rw[e0];exact c1)
  exact fromE ab hm k1 k2
 by_cases c2:ve h0 w<0
 ·have e2:ve w h0 = -ve h0 w:=by unfold ve;grind
  obtain⟨ab,hm,k1,k2⟩:=nv (w:=w) (ng h0) (l.map ng) h0 (by rw[e1];clear fromE fromN;grind) (by rw[e2];clear fromE fromN;grind)
  have em:ab∈((h0 :: l).map ng).zip ((l++[ng h0]).map ng):=by
   rw[LH,LY,LY,MP,wo];exact hm
  rw[D8]at em
  obtain⟨cd,hcd,rfl⟩:=Lv.mp em
  exact fromN cd hcd k1 k2
 ·have c0:ve h0 w=0:=by clear fromE fromN;grind
  cases l with
  | nil=>exact absurd rfl R.ne
  | cons x l =>
   have hm:(h0,x)∈cj h0 (x :: l):=Ly
   obtain⟨q1,q2,q3,q4⟩:=R.all _ hm
   have q3:0<ve h0 x:=q3
   by_cases k:0<ve w x
   ·exact fromE _ hm (by show 0≤ve h0 w;rw[c0];exact Od) k
   ·refine fromN _ hm (by show 0≤ve (ng h0) w;rw[e1,c0];exact Od) ?_
    show 0<ve w (ng x)
    have ex:ve w (ng x) = -ve w x:=by unfold ve ng;grind
    rw[ex]
    clear fromE fromN
    have hne:ve w x≠0:=fun z=>hw (by
     unfold ve at c0 z q3
     have i1:w.1*(h0.1*x.2.1 - h0.2.1*x.1)=0:=by
      have:w.1*(h0.1*x.2.1 - h0.2.1*x.1)=h0.1*(w.1*x.2.1 - w.2.1*x.1)+x.1*(h0.1*w.2.1 - h0.2.1*w.1):=by grind
      rw[this,z,c0];grind
     have i2:w.2.1*(h0.1*x.2.1 - h0.2.1*x.1)=0:=by
      have:w.2.1*(h0.1*x.2.1 - h0.2.1*x.1)=h0.2.1*(w.1*x.2.1 - w.2.1*x.1)+x.2.1*(h0.1*w.2.1 - h0.2.1*w.1):=by grind
      rw[this,z,c0];grind
     have hv:h0.1*x.2.1 - h0.2.1*x.1≠0:=by grind
     exact⟨by grind,by grind⟩)
    grind
theorem Rim.most{ss:List T3}{h0:T3}{l:List T3}(R:Rim ss h0 l)(w:T3)(hw:¬ (w.1=0∧w.2.1=0)):∃ c∈cu h0 l,Sup ss c∧∀ z,Sup ss z→dt w z≤dt w c:=by
 obtain⟨a,b,ha,hb,hv,hs,hc,k1,k2⟩:=R.around w hw
 refine⟨_,hc,hs,fun z hz=>?_⟩
 have e1:=G4 (w:=w) hv z
 have e2:=G4 (w:=w) hv (ry a b)
 rw[fQ (t6 hv),eG (t6 hv)]at e2
 have h1:0≤ve w b*(a.2.2 - dt a z):=LC (G0 k2) (by have:=hz a ha;grind)
 have h2:0≤ve a w*(b.2.2 - dt b z):=LC k1 (by have:=hz b hb;grind)
 have h3:0≤ve a b*(dt w (ry a b) - dt w z):=by grind
 have:=C8 hv h3
 grind
theorem Rim.corner{ss:List T3}{h0:T3}{l:List T3}(R:Rim ss h0 l){s t:T3}{z:Rat × Rat}(hz:Sup ss z)(hs:s∈ss)(ht:t∈ss)(hv:0<ve s t)(es:dt s z=s.2.2)(et:dt t z=t.2.2):z∈cu h0 l:=by
 have hw:¬ (s.1=0∧s.2.1=0):=fun⟨q1,q2⟩=>by
  unfold ve at hv
  rw[q1,q2]at hv
  grind
 obtain⟨a,b,ha,hb,hab,hsup,hc,k1,k2⟩:=R.around s hw
 have e1:=G4 (w:=s) hab z
 have e2:=G4 (w:=s) hab (ry a b)
 rw[fQ (t6 hab),eG (t6 hab)]at e2
 have za:=hz a ha
 have zb:=hz b hb
 have zs:=hsup s hs
 have h1:0≤ve s b*(a.2.2 - dt a z):=LC (G0 k2) (by grind)
 have h2:0≤ve a s*(b.2.2 - dt b z):=LC k1 (by grind)
 have h3:0≤ve a b*(s.2.2 - dt s (ry a b)):=LC (by grind) (by grind)
 rw[es]at e1
 have s1:ve s b*(a.2.2 - dt a z)=0:=by grind
 have s2:ve a s*(b.2.2 - dt b z)=0:=by grind
 have ta:dt a z=a.2.2:=by grind
 have fin:dt b z=b.2.2→z∈cu h0 l:=fun tb=>by rw[aI (t6 hab) ta tb];exact hc
 by_cases c:ve a s=0
 ·
  have hat:0<ve a t:=by
   have i:ve a b*ve s t=ve s b*ve a t - ve t b*ve a s:=by unfold ve;grind
   rw[c]at i
   have p1:0<ve a b*ve s t:=MC hab hv
   have p2:0<ve s b*ve a t:=by grind
   rcases tot 0 (ve a t)with z|z
   ·by_cases e:ve a t=0
    ·rw[e]at p2;grind
    ·grind
   ·have:0≤ve s b*(-ve a t):=LC (by grind) (by grind)
    grind
  have h5:0≤tn a b t:=by
   rw[← lX (t6 hab) t]
   exact LC (by grind) (by have:=hsup t ht;grind)
  rw[BC a b t z,ta,et]at h5
  have h6:0≤ve a t * -(b.2.2 - dt b z):=by grind
  have:=C8 hat h6
  exact fin (by grind)
 ·exact fin (by grind)
theorem Ce{ss:List T3}{h0 hm f:T3}{z0 z:Rat × Rat}(sy:∀ s∈ss,ng s∈ss)(m0:h0∈ss)(mm:hm∈ss)(s0:Sup ss z0)(t0:dt h0 z0=h0.2.2)(sz:Sup ss z)(tz:dt hm z=hm.2.2)(e:EL ss hm f)(h1:0<ve h0 hm)(h2:ve h0 f≤0) :
  Sup ss (ry hm (ng h0)):=by
 have sf:=lH sz tz e
 have v1:0<ve hm (ng h0):=by
  have:ve hm (ng h0)=ve h0 hm:=by unfold ve ng;grind
  rw[this];exact h1
 have v2:0≤ve (ng h0) f:=by
  have:ve (ng h0) f = -ve h0 f:=by unfold ve ng;grind
  rw[this];grind
 have tf:=fQ (a:=hm) (b:=f) (t6 e.ve)
 have tg:=eG (a:=hm) (b:=f) (t6 e.ve)
 have e1:=G4 (w:=ng h0) e.ve (ngZ z0)
 have e2:=G4 (w:=ng h0) e.ve (ry hm f)
 rw[tf,tg]at e2
 have sn:=bg sy s0
 have q1:=sn hm mm
 have q2:=sn f e.mem
 have g0:dt (ng h0) (ngZ z0)=(ng h0).2.2:=by
  have:dt (ng h0) (ngZ z0)=dt h0 z0:=by unfold dt ng ngZ;grind
  rw[this,t0];rfl
 rw[g0]at e1
 have q3:=sf (ng h0) (sy h0 m0)
 have p1:0≤ve (ng h0) f*(hm.2.2 - dt hm (ngZ z0)):=LC v2 (by grind)
 have p2:0≤ve hm (ng h0)*(f.2.2 - dt f (ngZ z0)):=LC (by grind) (by grind)
 have p3:0≤ve hm f*(dt (ng h0) (ry hm f) - (ng h0).2.2):=by grind
 have p4:=C8 e.ve p3
 have t3:dt (ng h0) (ry hm f)=(ng h0).2.2:=by grind
 rw[← aI (a:=hm) (b:=ng h0) (t6 v1) tf t3]
 exact sf
end GM
namespace GM
open PySem PySem.Spec L2 DL
open RM (sz)
noncomputable abbrev Sd:=Int × Int × Int × Int × Int
noncomputable def sdD(s:Sd):D:=.tup [.int s.1,.int s.2.1,.int s.2.2.1,.int s.2.2.2.1,.int s.2.2.2.2]
noncomputable def tri(s:Sd):T3:=((s.1:Rat),(s.2.1:Rat),(s.2.2.1:Rat))
noncomputable def veZ(a b:Sd):Int:=a.1*b.2.1 - a.2.1*b.1
noncomputable def tnZ(a b c:Sd):Int:=a.2.2.1*veZ b c - b.2.2.1*veZ a c+c.2.2.1*veZ a b
noncomputable def g9(s:Sd):Sd:=(-s.1,-s.2.1,s.2.2.1,s.2.2.2.1,-s.2.2.2.2)
noncomputable def E6(a b:Sd):Bool:=if a.1*b.2.2.1 - b.1*a.2.2.1=0 then decide (0<a.2.1*b.2.2.1 - b.2.1*a.2.2.1)else decide (0<a.1*b.2.2.1 - b.1*a.2.2.1)
noncomputable def A4(ss:List Sd)(f:Sd):Sd:=ss.foldl (fun f s=>if E6 s f=true then s else f) f
noncomputable def Az(h:Sd)(f:Option Sd)(s:Sd):Bool:=match f with
 | none=>true
 | some g=>decide (tnZ h g s<0) || (decide (tnZ h g s=0) && decide (0<veZ g s))
noncomputable def Q2(h:Sd)(f:Option Sd)(s:Sd):Option Sd:=if 0<veZ h s then(if Az h f s=true then some s else f)else f
noncomputable def C1(h:Sd)(ss:List Sd):Option Sd:=ss.foldl (Q2 h) none
noncomputable def F4(h0:Sd)(ss:List Sd):Nat→Option Sd→List Sd
 | 0,_=>[]
 | _+1,none=>[]
 | k+1,some h=>if 0<veZ h0 h then h :: F4 h0 ss k (C1 h ss)else[]
noncomputable def t9:List Sd→List Sd
 | []=>[]
 | s :: r=>A4 (s :: r) s :: F4 (A4 (s :: r) s) (s :: r) (s :: r).length (C1 (A4 (s :: r) s) (s :: r))
theorem u5(a b:Sd):ve (tri a) (tri b)=(veZ a b:Rat):=by
 unfold ve tri veZ
 rw[MT,LI,LI]
theorem iD(a b c:Sd):tn (tri a) (tri b) (tri c)=(tnZ a b c:Rat):=by
 unfold tn tnZ
 rw[u5,u5,u5,ND,MT,LI,LI,LI]
 rfl
theorem t5{n:Int}:(0:Rat)<(n:Rat)↔0<n:=by
 have:=Rat.intCast_lt_intCast (a:=0) (b:=n)
 rw[← this];rfl
theorem mZ{n:Int}:(0:Rat)≤(n:Rat)↔0≤n:=by
 have:=OK (a:=0) (b:=n)
 rw[← this];rfl
theorem u6(s:Sd):tri (g9 s)=ng (tri s):=by
 unfold tri g9 ng
 rw[NB,NB]
theorem Z4{a b:Int}(ha:0<a)(h:0≤a*b):0≤b:=by
 rcases OQ b 0 with z|z
 ·have:=Int.mul_lt_mul_of_pos_left z ha
  omega
 ·exact z
theorem mI{a b:Int}(ha:0<a)(h:0<a*b):0<b:=by
 rcases OQ 0 b with z|z
 ·exact z
 ·have:=Int.mul_le_mul_of_nonneg_left z (PN ha)
  omega
theorem plu(h g s t:Sd):veZ h g*tnZ h s t=veZ h s*tnZ h g t - veZ h t*tnZ h g s:=by unfold tnZ veZ;grind
theorem HQ(h g s t:Sd):veZ h g*tnZ g s t=tnZ h g s*veZ t g - tnZ h g t*veZ s g:=by unfold tnZ veZ;grind
theorem HP(o h g s:Sd):veZ o g*veZ h s=veZ o h*veZ g s+veZ o s*veZ h g:=by unfold veZ;grind
structure xE(h:Sd)(pre:List Sd)(f:Option Sd):Prop where
 no:f=none→∀ s∈pre,¬ 0<veZ h s
 yes:∀ g,f=some g→g∈pre∧0<veZ h g∧∀ s∈pre,0<veZ h s→0≤tnZ h g s∧(tnZ h g s=0→veZ g s≤0)
theorem we{h:Sd}{pre:List Sd}{f:Option Sd}{s:Sd}(hp:∀ s∈pre,0<s.2.2.1)(hs:0<s.2.2.1)(I:xE h pre f):xE h (pre++[s]) (Q2 h f s):=by
 unfold Q2
 by_cases c:0<veZ h s
 ·rw[if_pos c]
  by_cases b:Az h f s=true
  ·rw[if_pos b]
   refine⟨fun z=>(by cases z),fun g e=>?_⟩
   cases e
   refine⟨by simp,c,fun t ht hv=>?_⟩
   have self:tnZ h s s=0∧veZ s s=0:=by unfold tnZ veZ;grind
   rcases LR.mp ht with ht|ht
   ·cases f with
    | none=>exact absurd hv (I.no rfl t ht)
    | some g =>
     obtain⟨g1,g2,g3⟩:=I.yes g rfl
     obtain⟨k1,k2⟩:=g3 t ht hv
     have b':tnZ h g s<0∨(tnZ h g s=0∧0<veZ g s):=by
      have b:(decide (tnZ h g s<0) || (decide (tnZ h g s=0) && decide (0<veZ g s)))=true:=b
      simpa using b
     have pl:=plu h g s t
     have n1:0≤veZ h s*tnZ h g t:=Nm (by omega) k1
     have n2:0≤veZ h t * -tnZ h g s:=Nm (by omega) (by omega)
     rw[Pk]at n2
     refine⟨Z4 g2 (by omega),fun z=>?_⟩
     rw[z,Int.mul_zero]at pl
     have m1:veZ h s*tnZ h g t=0:=by omega
     have m2:veZ h t*tnZ h g s=0:=by omega
     have e1:tnZ h g t=0:=(NG.mp m1).resolve_left (by omega)
     have e2:tnZ h g s=0:=(NG.mp m2).resolve_left (by omega)
     have gs:0<veZ g s:=by omega
     have gt:=k2 e1
     have p2:=HQ h g s t
     rw[e1,e2,OR,OR]at p2
     have e3:tnZ g s t=0:=(NG.mp (by omega:veZ h g*tnZ g s t=0)).resolve_left (by omega)
     have e4:g.2.2.1*veZ s t - s.2.2.1*veZ g t+t.2.2.1*veZ g s=0:=e3
     have rg:=hp g g1
     have rt:=hp t ht
     have q1:0≤s.2.2.1 * -veZ g t:=Nm (by omega) (by omega)
     have q2:0≤t.2.2.1*veZ g s:=Nm (by omega) (by omega)
     rw[Pk]at q1
     have q3:0≤g.2.2.1 * -veZ s t:=by rw[Pk];omega
     have:=Z4 rg q3
     omega
   ·rw[Mh.mp ht,self.1,self.2]
    exact⟨Int.le_refl _,fun _=>Int.le_refl _⟩
  ·rw[if_neg b]
   cases f with
   | none=>exact absurd rfl b
   | some g =>
    obtain⟨g1,g2,g3⟩:=I.yes g rfl
    refine⟨fun z=>(by cases z),fun g' e=>?_⟩
    cases e
    refine⟨Mu _ g1,g2,fun t ht hv=>?_⟩
    rcases LR.mp ht with ht|ht
    ·exact g3 t ht hv
    ·rw[Mh.mp ht]
     have b':¬ (tnZ h g s<0∨(tnZ h g s=0∧0<veZ g s)):=by
      intro z
      apply b
      show(decide (tnZ h g s<0) || (decide (tnZ h g s=0) && decide (0<veZ g s)))=true
      simpa using z
     exact⟨by omega,fun z=>by omega⟩
 ·rw[if_neg c]
  refine⟨fun z t ht=>?_,fun g e=>?_⟩
  ·rcases LR.mp ht with ht|ht
   ·exact I.no z t ht
   ·rw[Mh.mp ht];exact c
  ·obtain⟨g1,g2,g3⟩:=I.yes g e
   refine⟨Mu _ g1,g2,fun t ht hv=>?_⟩
   rcases LR.mp ht with ht|ht
   ·exact g3 t ht hv
   ·rw[Mh.mp ht]at hv;exact absurd hv c
theorem mG{h:Sd}:∀(l pre:List Sd) (f:Option Sd),(∀ s∈pre,0<s.2.2.1)→(∀ s∈l,0<s.2.2.1)→xE h pre f→xE h (pre++l) (l.foldl (Q2 h) f)
 | [],pre,f,_,_,I=>by rw[Ng];exact I
 | s :: l,pre,f,h1,h2,I=>by
  have h3:=h2 s Ly
  have:=mG l (pre++[s]) (Q2 h f s) (fun t ht=>by
   rcases LR.mp ht with ht|ht
   ·exact h1 t ht
   ·rw[Mh.mp ht];exact h3) (fun t ht=>h2 t (Ls _ ht)) (we h1 h3 I)
  rwa [Ox]at this
theorem aN{h:Sd}{ss:List Sd}(hp:∀ s∈ss,0<s.2.2.1):xE h ss (C1 h ss):=by
 have:=mG (h:=h) ss [] none (fun _ z=>nomatch z) hp ⟨fun _ _ z=>(nomatch z),fun _ z=>(nomatch z)⟩
 rwa [Qj]at this
theorem K1{h f:Sd}{ss:List Sd}(hp:∀ s∈ss,0<s.2.2.1)(e:C1 h ss=some f):f∈ss∧0<veZ h f∧EL (ss.map tri) (tri h) (tri f):=by
 obtain⟨h1,h2,h3⟩:=(aN hp).yes f e
 refine⟨h1,h2,by rw[u5];exact t5.mpr h2,Lv.mpr ⟨f,h1,rfl⟩,fun s hs hv=>?_⟩
 obtain⟨t,ht,rfl⟩:=Lv.mp hs
 rw[u5]at hv
 rw[iD]
 exact mZ.mpr (h3 t ht (t5.mp hv)).1
theorem aL:∀(ss:List Sd) (f:Sd),A4 ss f=f∨A4 ss f∈ss
 | [],f=>.inl rfl
 | s :: r,f=>by
  show A4 r (if E6 s f=true then s else f)=f∨_
  rcases aL r (if E6 s f=true then s else f)with h|h
  ·rw[h]
   split
   ·rename_i c;right;show A4 r (if E6 s f=true then s else f)∈_;rw[h,if_pos c];exact Ly
   ·exact .inl rfl
  ·exact .inr (Ls _ h)
theorem Ad{s f:Sd}(h:E6 s f=true):f.1*s.2.2.1≤s.1*f.2.2.1:=by
 unfold E6 at h
 split at h
 ·omega
 ·have:=of_decide_eq_true h;omega
theorem Ae{s f:Sd}(h:¬ E6 s f=true):s.1*f.2.2.1≤f.1*s.2.2.1:=by
 unfold E6 at h
 split at h
 ·omega
 ·have:¬ 0<s.1*f.2.2.1 - f.1*s.2.2.1:=fun z=>h (decide_eq_true z)
  omega
theorem Gq{a b c x y z:Int}(hy:0<y)(hx:0<x)(hz:0<z)(h1:a*y≤b*x)(h2:b*z≤c*y):a*z≤c*x:=by
 have e1:=NN h1 (PN hz)
 have e2:=NN h2 (PN hx)
 have e3:0≤y*(c*x - a*z):=by
  have:y*(c*x - a*z)=c*y*x - a*y*z:=by grind
  have e4:b*x*z=b*z*x:=by grind
  omega
 have:=Z4 hy e3
 omega
theorem qz:∀(ss:List Sd) (f:Sd) (t:Sd),(∀ s∈ss,0<s.2.2.1)→0<f.2.2.1→0<t.2.2.1→(t∈ss∨t.1*f.2.2.1≤f.1*t.2.2.1)→t.1*(A4 ss f).2.2.1≤(A4 ss f).1*t.2.2.1
 | [],f,t,_,_,_,h=>by
  rcases h with h|h
  ·cases h
  ·exact h
 | s :: r,f,t,hp,hf,ht,h=>by
  have hs:=hp s Ly
  show t.1*(A4 r (if E6 s f=true then s else f)).2.2.1≤(A4 r (if E6 s f=true then s else f)).1*t.2.2.1
  refine qz r _ t (fun s hs=>hp s (Ls _ hs)) (by split<;>assumption) ht ?_
  rcases h with h|h
  ·rcases Lz.mp h with rfl|h
   ·right
    split
    ·omega
    ·rename_i c;exact Ae c
   ·exact .inl h
  ·right
   split
   ·rename_i c
    exact Gq hf ht hs h (Ad c)
   ·exact h
theorem mU{α:Type}{p q:α→Bool}{x:α}:∀{l:List α},(∀ y∈l,q y=true→p y=true)→x∈l→p x=true→q x=false→(l.filter q).length<(l.filter p).length
 | [],_,h,_,_=>nomatch h
 | y :: l,h1,h2,h3,h4=>by
  have le:∀(l:List α),(∀ y∈l,q y=true→p y=true)→(l.filter q).length≤(l.filter p).length:=fun l=>by
   induction l with
   | nil=>intro _;exact LM _
   | cons a l ih =>
    intro h
    have:=ih fun y hy=>h y (Ls _ hy)
    by_cases qa:q a=true
    ·rw[Mb qa,Mb (h a Ly qa),LA,LA];omega
    ·rw[Mk qa]
     by_cases pa:p a=true
     ·rw[Mb pa,LA];omega
     ·rw[Mk pa];exact this
  have hl:=le l fun y hy=>h1 y (Ls _ hy)
  rcases Lz.mp h2 with rfl|h2
  ·rw[Mb h3,Mk (by rw[h4];decide),LA];omega
  ·have ih:=mU (fun y hy=>h1 y (Ls _ hy)) h2 h3 h4
   by_cases qa:q y=true
   ·rw[Mb qa,Mb (h1 y Ly qa),LA,LA];omega
   ·rw[Mk qa]
    by_cases pa:p y=true
    ·rw[Mb pa,LA];omega
    ·rw[Mk pa];exact ih
noncomputable def sP(h0:Sd)(ss:List Sd)(h:Sd):Nat:=(ss.filter fun s=>decide (0<veZ h s) && decide (0<veZ h0 s)).length
theorem xp(h0:Sd)(ss:List Sd)(h:Sd):sP h0 ss h≤ss.length:=Ni _ _
theorem aU{h0 h f:Sd}{ss:List Sd}(hp:∀ s∈ss,0<s.2.2.1)(e:C1 h ss=some f)(h1:h=h0∨0<veZ h0 h)(h2:0<veZ h0 f):sP h0 ss f<sP h0 ss h:=by
 obtain⟨m,v,_⟩:=K1 hp e
 unfold sP
 refine mU (x:=f) (fun s _ hq=>?_) m (by rw[decide_eq_true v,decide_eq_true h2];rfl) ?_
 ·rw[MY,decide_eq_true_eq,decide_eq_true_eq]at hq ⊢
  refine⟨?_,hq.2⟩
  rcases h1 with rfl|h1
  ·exact hq.2
  ·have i:=HP h0 h f s
   have a1:=Nu h1 hq.1
   have a2:=Nu hq.2 v
   exact mI h2 (by omega)
 ·have:veZ f f=0:=by unfold veZ;grind
  rw[this];rfl
theorem zh{h0:Sd}{ss:List Sd}(hp:∀ s∈ss,0<s.2.2.1)(sy:∀ s∈ss,g9 s∈ss)(m0:h0∈ss){z0:Rat × Rat}(s0:Sup (ss.map tri) z0)(t0:dt (tri h0) z0=(tri h0).2.2):∀(k:Nat) (a:Sd) (z:Rat × Rat),a∈ss→Sup (ss.map tri) z→dt (tri a) z=(tri a).2.2 →
  (a=h0∨0<veZ h0 a)→(a=h0→∃ f,C1 h0 ss=some f)→(∀ f,C1 a ss=some f→0<veZ h0 f→sP h0 ss f<k) →
  ∀ ab∈(a :: F4 h0 ss k (C1 a ss)).zip (F4 h0 ss k (C1 a ss)++[g9 h0]),ab.1∈ss∧ab.2∈ss∧0<veZ ab.1 ab.2∧Sup (ss.map tri) (ry (tri ab.1) (tri ab.2)):=by
 have syT:∀ s∈ss.map tri,ng s∈ss.map tri:=fun s hs=>by
  obtain⟨t,ht,rfl⟩:=Lv.mp hs
  rw[← u6];exact Lv.mpr ⟨_,sy t ht,rfl⟩
 intro k
 induction k with
 | zero =>
  intro a z ha hz ta h1 h2 h3 ab hab
  cases e:C1 a ss with
  | none =>
   exfalso
   rcases h1 with rfl|h1
   ·obtain⟨f,hf⟩:=h2 rfl;rw[e]at hf;cases hf
   ·have:=(aN (h:=a) hp).no e (g9 h0) (sy h0 m0)
    exact this (by rw[show veZ a (g9 h0)=veZ h0 a by unfold veZ g9;grind];exact h1)
  | some f =>
   obtain⟨mf,vf,ef⟩:=K1 hp e
   by_cases c:0<veZ h0 f
   ·exact absurd (h3 f e c) (OS _)
   ·rw[e]at hab
    have hab:ab∈[(a,g9 h0)]:=hab
    rw[Mh.mp hab]
    have hv:0<veZ h0 a:=by
     rcases h1 with rfl|h1
     ·exact absurd vf c
     ·exact h1
    have ev:veZ a (g9 h0)=veZ h0 a:=by unfold veZ g9;grind
    refine⟨ha,sy h0 m0,by show 0<veZ a (g9 h0);rw[ev];exact hv,?_⟩
    show Sup _ (ry (tri a) (tri (g9 h0)))
    rw[u6]
    exact Ce syT (Lv.mpr ⟨h0,m0,rfl⟩) (Lv.mpr ⟨a,ha,rfl⟩) s0 t0 hz ta ef (by rw[u5];exact t5.mpr hv) (by rw[u5];have:=t5 (n:=veZ h0 f);grind)
 | succ k ih =>
  intro a z ha hz ta h1 h2 h3 ab hab
  cases e:C1 a ss with
  | none =>
   exfalso
   rcases h1 with rfl|h1
   ·obtain⟨f,hf⟩:=h2 rfl;rw[e]at hf;cases hf
   ·have:=(aN (h:=a) hp).no e (g9 h0) (sy h0 m0)
    exact this (by rw[show veZ a (g9 h0)=veZ h0 a by unfold veZ g9;grind];exact h1)
  | some f =>
   obtain⟨mf,vf,ef⟩:=K1 hp e
   rw[e]at hab
   by_cases c:0<veZ h0 f
   ·have er:F4 h0 ss (k+1) (some f)=f :: F4 h0 ss k (C1 f ss):=if_pos c
    rw[er]at hab
    have sf:=lH hz ta ef
    rcases Lz.mp hab with rfl|hab
    ·exact⟨ha,mf,vf,sf⟩
    ·refine ih f (ry (tri a) (tri f)) mf sf (eG (t6 ef.ve)) (.inr c) (fun z=>?_) (fun g hg hc=>?_) ab hab
     ·subst z
      have:veZ f f=0:=by unfold veZ;grind
      omega
     ·have:=aU hp hg (.inr c) hc
      have:=h3 f e c
      omega
   ·have er:F4 h0 ss (k+1) (some f)=[]:=if_neg c
    rw[er]at hab
    have hab:ab∈[(a,g9 h0)]:=hab
    rw[Mh.mp hab]
    have hv:0<veZ h0 a:=by
     rcases h1 with rfl|h1
     ·exact absurd vf c
     ·exact h1
    have ev:veZ a (g9 h0)=veZ h0 a:=by unfold veZ g9;grind
    refine⟨ha,sy h0 m0,by show 0<veZ a (g9 h0);rw[ev];exact hv,?_⟩
    show Sup _ (ry (tri a) (tri (g9 h0)))
    rw[u6]
    exact Ce syT (Lv.mpr ⟨h0,m0,rfl⟩) (Lv.mpr ⟨a,ha,rfl⟩) s0 t0 hz ta ef (by rw[u5];exact t5.mpr hv) (by rw[u5];have:=t5 (n:=veZ h0 f);grind)
noncomputable def B3(c d:Nat):Nat:=c / Mz c d*d
theorem Q3(c d:Nat):B3 c d=Qs c d:=by
 unfold B3 Qs
 rw[Nj,← Nat.mul_div_assoc _ (Nat.gcd_dvd_left c d),Nj]
noncomputable def cbL(l:T3):Nat:=B3 (B3 (B3 1 l.1.den) l.2.1.den) l.2.2.den
theorem fk(l:T3):cbL l=Qs (Qs l.1.den l.2.1.den) l.2.2.den:=by
 unfold cbL
 rw[Q3,Q3,Q3,Nat.lcm_one_left]
theorem As(l:T3):0<cbL l:=by
 rw[fk]
 exact OE (OE l.1.den_pos l.2.1.den_pos) l.2.2.den_pos
theorem Ci(l:T3):l.1.den ∣ cbL l:=by rw[fk];exact Nat.dvd_trans (NS _ _) (NS _ _)
theorem Cg(l:T3):l.2.1.den ∣ cbL l:=by rw[fk];exact Nat.dvd_trans (Oy _ _) (NS _ _)
theorem Cf(l:T3):l.2.2.den ∣ cbL l:=by rw[fk];exact Oy _ _
noncomputable def L8(q:Rat)(c:Nat):Int:=q.num*((c / q.den:Nat):Int)
theorem V0{q:Rat}{c:Nat}(h:q.den ∣ c):(L8 q c:Rat)=q*(c:Rat):=by
 obtain⟨k,rfl⟩:=h
 unfold L8
 rw[Nat.mul_div_cancel_left _ q.den_pos,LI,← C3 q,Mt,LZ]
 grind
noncomputable def g5(l:T3)(i:Nat):Sd:=(L8 l.1 (cbL l),L8 l.2.1 (cbL l),L8 l.2.2 (cbL l),(i:Int),(cbL l:Int))
noncomputable def M0:Nat→List T3→List Sd
 | _,[]=>[]
 | i,l :: r=>g5 l i :: g9 (g5 l i) :: M0 (i+1) r
noncomputable abbrev e7(ls:List T3):List Sd:=M0 0 ls
theorem C9(l:T3)(i:Nat):tri (g5 l i)=(l.1*(cbL l:Rat),l.2.1*(cbL l:Rat),l.2.2*(cbL l:Rat)):=by
 unfold tri g5
 rw[V0 (Ci l),V0 (Cg l),V0 (Cf l)]
theorem qN(s:Sd):g9 (g9 s)=s:=by
 obtain⟨a,b,c,d,e⟩:=s
 unfold g9
 show(- -a,- -b,c,d,- -e)=_
 rw[Qk,Qk,Qk]
theorem B8{s:Sd}:∀{ls:List T3} {i:Nat},s∈M0 i ls→∃ l∈ls,∃ j,s=g5 l j∨s=g9 (g5 l j)
 | [],_,h=>nomatch h
 | l :: r,i,h=>by
  rcases Lz.mp h with h|h
  ·exact⟨l,Ly,i,.inl h⟩
  ·rcases Lz.mp h with h|h
   ·exact⟨l,Ly,i,.inr h⟩
   ·obtain⟨l',h1,j,h2⟩:=B8 h
    exact⟨l',Ls _ h1,j,h2⟩
theorem cC{l:T3}:∀{ls:List T3} {i:Nat},l∈ls→∃ j,g5 l j∈M0 i ls∧g9 (g5 l j)∈M0 i ls
 | [],_,h=>nomatch h
 | m :: r,i,h=>by
  rcases Lz.mp h with rfl|h
  ·exact⟨i,Ly,Ls _ Ly⟩
  ·obtain⟨j,h1,h2⟩:=cC (i:=i+1) h
   exact⟨j,Ls _ (Ls _ h1),Ls _ (Ls _ h2)⟩
theorem dX:∀{ls:List T3} {i:Nat},∀ s∈M0 i ls,g9 s∈M0 i ls
 | [],_,_,h=>nomatch h
 | l :: r,i,s,h=>by
  rcases Lz.mp h with rfl|h
  ·exact Ls _ Ly
  ·rcases Lz.mp h with rfl|h
   ·rw[qN];exact Ly
   ·exact Ls _ (Ls _ (dX s h))
structure LineOk(l:T3):Prop where
 ne:¬ (l.1=0∧l.2.1=0)
 pos:0<l.2.2
theorem G3(l:T3):(0:Rat)<(cbL l:Rat):=by
 exact Rat.natCast_pos.mpr (As l)
theorem ar{ls:List T3}(h:∀ l∈ls,LineOk l){i:Nat}:∀ s∈M0 i ls,0<s.2.2.1:=fun s hs=>by
 obtain⟨l,hl,j,e⟩:=B8 hs
 have hr:s.2.2.1=(g5 l j).2.2.1:=by rcases e with rfl|rfl<;>rfl
 rw[hr]
 have e2:((g5 l j).2.2.1:Rat)=l.2.2*(cbL l:Rat):=congrArg (fun t:T3=>t.2.2) (C9 l j)
 refine t5.mp ?_
 rw[e2]
 exact MC (h l hl).pos (G3 l)
theorem B2(l:T3)(y u:Rat):T9 l y u=true↔l.1*y+l.2.1*u≤l.2.2∧-(l.1*y+l.2.1*u)≤l.2.2:=by
 unfold T9 j8
 rw[decide_eq_true_iff]
 split<;>grind
theorem aP{c x r:Rat}(hc:0<c):x*c≤r*c↔x≤r:=by
 constructor
 ·intro h
  have:0≤c*(r - x):=by grind
  have:=C8 hc this
  grind
 ·intro h
  have:0≤(r - x)*c:=LC (by grind) (G0 hc)
  grind
theorem dc(l:T3)(j:Nat)(z:Rat × Rat):dt (tri (g5 l j)) z=(l.1*z.1+l.2.1*z.2)*(cbL l:Rat):=by
 rw[C9];unfold dt;grind
theorem oy(s:Sd)(z:Rat × Rat):dt (tri (g9 s)) z = -dt (tri s) z:=by rw[u6];unfold dt ng;grind
theorem L3(ls:List T3)(z:Rat × Rat):Sup ((e7 ls).map tri) z↔r9 ls z.1 z.2=true:=by
 unfold r9
 rw[ML]
 constructor
 ·intro h l hl
  obtain⟨j,h1,h2⟩:=cC (i:=0) hl
  have a1:=h _ (Lv.mpr ⟨_,h1,rfl⟩)
  have a2:=h _ (Lv.mpr ⟨_,h2,rfl⟩)
  rw[oy]at a2
  have e:(tri (g9 (g5 l j))).2.2=(tri (g5 l j)).2.2:=rfl
  rw[e]at a2
  rw[dc,C9]at a1 a2
  rw[B2]
  refine⟨(aP (G3 l)).mp a1,(aP (G3 l)).mp ?_⟩
  rw[Oe];exact a2
 ·intro h s hs
  obtain⟨t,ht,rfl⟩:=Lv.mp hs
  obtain⟨l,hl,j,e⟩:=B8 ht
  obtain⟨b1,b2⟩:=(B2 l z.1 z.2).mp (h l hl)
  rcases e with rfl|rfl
  ·rw[dc,C9];exact(aP (G3 l)).mpr b1
  ·rw[oy]
   show -dt (tri (g5 l j)) z≤(tri (g5 l j)).2.2
   rw[dc,C9,← Oe]
   exact(aP (G3 l)).mpr b2
theorem C6{ls:List T3}(hok:∀ l∈ls,LineOk l)(hne:ls≠[]):∃ h0 l,t9 (e7 ls)=h0 :: l∧h0∈e7 ls ∧
  ((l=[]∧∀ s∈e7 ls,veZ h0 s=0)∨(l≠[]∧Rim ((e7 ls).map tri) (tri h0) (l.map tri)∧∀ ab∈(h0 :: l).zip (l++[g9 h0]),ab.1∈e7 ls∧ab.2∈e7 ls∧0<veZ ab.1 ab.2)):=by
 have hp:∀ s∈e7 ls,0<s.2.2.1:=ar hok (i:=0)
 have sy:∀ s∈e7 ls,g9 s∈e7 ls:=dX (ls:=ls) (i:=0)
 have nn:e7 ls≠[]:=by
  cases ls with
  | nil=>exact absurd rfl hne
  | cons a b=>exact fun z=>nomatch z
 generalize e7 ls=ss at *
 obtain⟨s1,r,rfl⟩:∃ s1 r,ss=s1 :: r:=by
  cases ss with
  | nil=>exact absurd rfl nn
  | cons a b=>exact⟨_,_,rfl⟩
 refine⟨A4 (s1 :: r) s1,_,rfl,?_⟩
 have m0:A4 (s1 :: r) s1∈s1 :: r:=by
  rcases aL (s1 :: r) s1 with h|h
  ·rw[h];exact Ly
  ·exact h
 have le:=fun t ht=>qz (s1 :: r) s1 t hp (hp s1 Ly) (hp t ht) (.inl ht)
 generalize A4 (s1 :: r) s1=h0 at *
 generalize s1 :: r=ss at *
 refine⟨m0,?_⟩
 cases e:C1 h0 ss with
 | none =>
  left
  have no:=(aN (h:=h0) hp).no e
  refine⟨by cases ss.length<;>rfl,fun s hs=>?_⟩
  have a1:=no s hs
  have a2:=no _ (sy s hs)
  have:veZ h0 (g9 s) = -veZ h0 s:=by unfold veZ g9;grind
  omega
 | some f =>
  right
  obtain⟨mf,vf,ef⟩:=K1 hp e
  have hl:ss.length≠0:=fun z=>by rw[NT z]at m0;cases m0
  have r0:=hp h0 m0
  have p0:0<h0.1:=by
   rcases OQ 0 h0.1 with z|z
   ·exact z
   ·exfalso
    have fq:∀ s∈ss,s.1=0:=fun s hs=>by
     have q1:=le s hs
     have q2:=le _ (sy s hs)
     have rs:=hp s hs
     have q2:-s.1*h0.2.2.1≤h0.1*s.2.2.1:=q2
     have q3:0 ≤ -h0.1*s.2.2.1:=Nm (by omega) (by omega)
     rw[Int.neg_mul]at q2 q3
     have q4:s.1*h0.2.2.1=0:=by omega
     exact(NG.mp q4).resolve_right (by omega)
    have:veZ h0 f=0:=by
     unfold veZ;rw[fq h0 m0,fq f mf,OR,Int.mul_zero];rfl
    omega
  have p0R:(0:Rat)<(h0.1:Rat):=t5.mpr p0
  have s0:Sup (ss.map tri) ((h0.2.2.1:Rat) / (h0.1:Rat),0):=fun s hs=>by
   obtain⟨t,ht,rfl⟩:=Lv.mp hs
   have q:=le t ht
   have q':((t.1*h0.2.2.1:Int):Rat)≤((h0.1*t.2.2.1:Int):Rat):=OK.mpr q
   rw[LI,LI]at q'
   unfold dt tri
   show(t.1:Rat)*((h0.2.2.1:Rat) / (h0.1:Rat))+(t.2.1:Rat)*0≤(t.2.2.1:Rat)
   have e1:(h0.1:Rat)*((h0.2.2.1:Rat) / (h0.1:Rat))=(h0.2.2.1:Rat):=by rw[NM,Mm (t6 p0R)]
   have:0≤(h0.1:Rat)*((t.2.2.1:Rat) - (t.1:Rat)*((h0.2.2.1:Rat) / (h0.1:Rat))):=by
    generalize (h0.2.2.1:Rat) / (h0.1:Rat)=w at *
    generalize (h0.1:Rat)=A at *
    generalize (h0.2.2.1:Rat)=B at *
    generalize (t.1:Rat)=C at *
    generalize (t.2.2.1:Rat)=E at *
    subst e1
    clear le hp sy
    grind
   have:=C8 p0R this
   rw[Oi,OT]
   generalize (t.1:Rat)*((h0.2.2.1:Rat) / (h0.1:Rat))=w at *
   generalize (t.2.2.1:Rat)=E at *
   clear le hp sy
   grind
  have t0:dt (tri h0) ((h0.2.2.1:Rat) / (h0.1:Rat),0)=(tri h0).2.2:=by
   unfold dt tri
   show(h0.1:Rat)*((h0.2.2.1:Rat) / (h0.1:Rat))+(h0.2.1:Rat)*0=(h0.2.2.1:Rat)
   rw[NM,Mm (t6 p0R),Oi,OT]
  have all:=zh hp sy m0 s0 t0 ss.length h0 _ m0 s0 t0 (.inl rfl) (fun _=>⟨f,e⟩) (fun g hg hv=>Lw (aU hp hg (.inl rfl) hv) (xp h0 ss h0))
  rw[e]at all
  refine⟨?_,⟨?_,fun s hs=>?_,fun s hs=>?_,fun ab hab=>?_⟩,fun ab hab=>?_⟩
  ·obtain⟨k,hk⟩:∃ k,ss.length=k+1:=⟨ss.length - 1,by omega⟩
   rw[hk]
   show(if 0<veZ h0 f then _ else _)≠[]
   rw[if_pos vf];exact fun z=>nomatch z
  ·obtain⟨k,hk⟩:∃ k,ss.length=k+1:=⟨ss.length - 1,by omega⟩
   rw[hk]
   show(if 0<veZ h0 f then _ else _:List Sd).map tri≠[]
   rw[if_pos vf];exact fun z=>nomatch z
  ·obtain⟨t,ht,rfl⟩:=Lv.mp hs
   rw[← u6];exact Lv.mpr ⟨_,sy t ht,rfl⟩
  ·obtain⟨t,ht,rfl⟩:=Lv.mp hs
   exact t5.mpr (hp t ht)
  ·have em:ab∈((h0 :: F4 h0 ss ss.length (some f)).map tri).zip ((F4 h0 ss ss.length (some f)++[g9 h0]).map tri):=by
    rw[LH,LY,LY,MP,u6];exact hab
   rw[D8]at em
   obtain⟨cd,hcd,rfl⟩:=Lv.mp em
   obtain⟨q1,q2,q3,q4⟩:=all cd hcd
   exact⟨Lv.mpr ⟨_,q1,rfl⟩,Lv.mpr ⟨_,q2,rfl⟩,by show 0<ve (tri cd.1) (tri cd.2);rw[u5];exact t5.mpr q3,q4⟩
  ·obtain⟨q1,q2,q3,q4⟩:=all ab hab
   exact⟨q1,q2,q3⟩
noncomputable def L1(a b:Rat × Rat):Bool:=if a.1=b.1 then decide (a.2<b.2)else decide (a.1<b.1)
noncomputable def G5(rs:List (Rat × Rat)):Nat→Nat
 | 0=>0
 | i+1=>if L1 (rs.getD i (0,0)) (rs.getD (G5 rs i) (0,0))=true then i else G5 rs i
noncomputable def aJ(rs:List (Rat × Rat)):List (Rat × Rat):=rs.drop (G5 rs rs.length)++rs.take (G5 rs rs.length)
noncomputable def B0(h0:Sd)(l:List Sd):List (Rat × Rat):=((h0 :: l).zip (l++[g9 h0])).map fun ab=>ry (tri ab.1) (tri ab.2)
noncomputable def G7(ls:List T3):Option (List (Rat × Rat)):=match t9 (e7 ls)with
 | []=>none
 | [_]=>none
 | h0 :: x :: l=>some (aJ (B0 h0 (x :: l)++(B0 h0 (x :: l)).map ngZ))
theorem cT{rs:List (Rat × Rat)}{z:Rat × Rat}:z∈aJ rs↔z∈rs:=by
 unfold aJ
 rw[LR,Or.comm,← LR,NO]
theorem vG(h0:Sd)(l:List Sd):B0 h0 l++(B0 h0 l).map ngZ=cu (tri h0) (l.map tri):=by
 unfold B0 cu cj
 have e:(tri h0 :: l.map tri).zip (l.map tri++[ng (tri h0)])=((h0 :: l).zip (l++[g9 h0])).map fun ab=>(tri ab.1,tri ab.2):=by
  rw[← D8,LY,LH,LY,MP,u6]
 rw[e,Ms,Ms,Ms]
 rfl
def D1(ls:List T3):Prop:=∀ a∈ls,∀ b∈ls,a.1*b.2.1=b.1*a.2.1
theorem ai(a b:T3)(i j:Nat):ve (tri (g5 a i)) (tri (g5 b j))=(a.1*b.2.1 - b.1*a.2.1)*((cbL a:Rat)*(cbL b:Rat)):=by
 rw[C9,C9];unfold ve;grind
theorem mV{ls:List T3}(hok:∀ l∈ls,LineOk l) :
  (G7 ls=none∧D1 ls) ∨ ∃ cs,G7 ls=some cs∧¬ D1 ls∧(∃ h0 l,Rim ((e7 ls).map tri) h0 l∧∀ z,z∈cs↔z∈cu h0 l):=by
 by_cases hne:ls=[]
 ·subst hne
  exact .inl ⟨rfl,fun a ha=>nomatch ha⟩
 obtain⟨h0,l,e,m0,h⟩:=C6 hok hne
 rcases h with⟨rfl,h⟩|⟨hl,R,h⟩
 ·left
  refine⟨by unfold G7;rw[e],fun a ha b hb=>?_⟩
  obtain⟨i,ha,_⟩:=cC (i:=0) ha
  obtain⟨j,hb,_⟩:=cC (i:=0) hb
  have e1:=h _ ha
  have e2:=h _ hb
  obtain⟨c,hc,k,ec⟩:=B8 m0
  have hc0:¬ ((tri h0).1=0∧(tri h0).2.1=0):=fun⟨z1,z2⟩=>by
   have cp:=G3 c
   have:(tri (g5 c k)).1=0∧(tri (g5 c k)).2.1=0:=by
    rcases ec with rfl|rfl
    ·exact⟨z1,z2⟩
    ·rw[u6]at z1 z2
     unfold ng at z1 z2
     exact⟨by grind,by grind⟩
   rw[C9]at this
   have t1:c.1*(cbL c:Rat)=0:=this.1
   have t2:c.2.1*(cbL c:Rat)=0:=this.2
   exact(hok c hc).ne ⟨by grind,by grind⟩
  have f1:ve (tri h0) (tri (g5 a i))=0:=by rw[u5,e1];rfl
  have f2:ve (tri h0) (tri (g5 b j))=0:=by rw[u5,e2];rfl
  have f3:ve (tri (g5 a i)) (tri (g5 b j))=0:=by
   generalize tri (g5 a i)=x at *
   generalize tri (g5 b j)=y at *
   generalize tri h0=w at *
   unfold ve at *
   have i1:w.1*(x.1*y.2.1 - x.2.1*y.1)=0:=by
    have:w.1*(x.1*y.2.1 - x.2.1*y.1)=x.1*(w.1*y.2.1 - w.2.1*y.1) - y.1*(w.1*x.2.1 - w.2.1*x.1):=by grind
    rw[this,f1,f2];grind
   have i2:w.2.1*(x.1*y.2.1 - x.2.1*y.1)=0:=by
    have:w.2.1*(x.1*y.2.1 - x.2.1*y.1)=x.2.1*(w.1*y.2.1 - w.2.1*y.1) - y.2.1*(w.1*x.2.1 - w.2.1*x.1):=by grind
    rw[this,f1,f2];grind
   by_cases c1:w.1=0
   ·have c2:w.2.1≠0:=fun z=>hc0 ⟨c1,z⟩
    grind
   ·grind
  rw[ai]at f3
  have q1:=t6 (MC (G3 a) (G3 b))
  generalize (cbL a:Rat)*(cbL b:Rat)=k at *
  generalize a.1*b.2.1=u at *
  generalize b.1*a.2.1=v at *
  clear h e m0 hc0 f1 f2 e1 e2 hok
  grind
 ·right
  obtain⟨x,l,rfl⟩:∃ x l',l=x :: l':=by
   cases l with
   | nil=>exact absurd rfl hl
   | cons x l=>exact⟨x,l,rfl⟩
  refine⟨_,by unfold G7;rw[e],fun al=>?_,_,_,R,fun z=>?_⟩
  ·obtain⟨q1,q2,q3⟩:=h (h0,x) Ly
   obtain⟨a,ha,i,ea⟩:=B8 q1
   obtain⟨b,hb,j,eb⟩:=B8 q2
   have hv:=al a ha b hb
   have z0:ve (tri (g5 a i)) (tri (g5 b j))=0:=by rw[ai,hv];grind
   have q3:0<veZ h0 x:=q3
   have q4:(0:Rat)<ve (tri h0) (tri x):=by rw[u5];exact t5.mpr q3
   have ea':tri h0=tri (g5 a i)∨tri h0=ng (tri (g5 a i)):=by
    rcases ea with h|h
    ·have h:h0=_:=h;left;rw[h]
    ·have h:h0=_:=h;right;rw[h,u6]
   have eb':tri x=tri (g5 b j)∨tri x=ng (tri (g5 b j)):=by
    rcases eb with h|h
    ·have h:x=_:=h;left;rw[h]
    ·have h:x=_:=h;right;rw[h,u6]
   have z1:ve (tri h0) (tri x)=0:=by
    rcases ea' with h|h<;>rcases eb' with h'|h'<;>(rw[h,h'];clear q4;generalize tri (g5 a i)=A at *;generalize tri (g5 b j)=B at *;unfold ve at *;first|exact z0|(unfold ng;grind))
   grind
  ·rw[cT,vG]
theorem P1{a b:Sd}:sdD a=sdD b↔a=b:=by
 constructor
 ·intro h
  unfold sdD at h
  injection h with h
  injection h with h1 h
  injection h with h2 h
  injection h with h3 h
  injection h with h4 h
  injection h with h5 h
  injection h1 with h1;injection h2 with h2;injection h3 with h3;injection h4 with h4;injection h5 with h5
  exact Prod.ext h1 (Prod.ext h2 (Prod.ext h3 (Prod.ext h4 h5)))
 ·rintro rfl;rfl
theorem O3{xs ys:List Sd}:xs.map sdD=ys.map sdD↔xs=ys:=Mp (fun _ _ h=>P1.mp h)
theorem Z1{a b:Rat × Rat}:rD a=rD b↔a=b:=by
 constructor
 ·intro h
  unfold rD v6 at h
  injection h with h
  injection h with h1 h
  injection h with h2 h
  exact Prod.ext (i4.mp h1) (i4.mp h2)
 ·rintro rfl;rfl
theorem W1{xs ys:List (Rat × Rat)}:xs.map rD=ys.map rD↔xs=ys:=Mp (fun _ _ h=>Z1.mp h)
structure SzS(s:Sd):Prop where
 p:s.1.natAbs<2 ^ 1200
 q:s.2.1.natAbs<2 ^ 1200
 r:s.2.2.1.natAbs<2 ^ 1200
noncomputable def mj:Option Sd→D
 | none=>.non
 | some s=>sdD s
structure LnOk(l:T3):Prop extends LineOk l where
 p:sz l.1≤1300
 q:sz l.2.1≤1300
 r:sz l.2.2≤1300
 s:SzS (g5 l 0)
def sW(ls:List T3):Prop:=ls.length≤12∧∀ l∈ls,LnOk l
local macro_rules|`(tactic| walk_at "inj")=>`(tactic| (rename_i e h;simp only[List.cons.injEq,GM.P1,GM.O3,GM.Z1,GM.W1,and_true,true_and,GM.i4,GM.j4,GM.i5,GM.j5,GM.i6,D.tup.injEq,D.ref.injEq,D.int.injEq,D.str.injEq,D.bl.injEq,D.vl.injEq,Me,and_assoc]at e;(repeat(obtain⟨e1,e⟩:=e;subst e1));subst e;exact h))
local macro_rules|`(tactic| walk_at "injs")=>`(tactic| (rename_i e o h;rcases o with o|o<;>(subst o;first|(exfalso;simp only[D.tup.injEq,List.cons.injEq,reduceCtorEq,false_and,and_false]at e;done)|(simp only[List.cons.injEq,GM.P1,GM.O3,GM.Z1,GM.W1,and_true,true_and,GM.i4,GM.j4,GM.i5,GM.j5,GM.i6,D.tup.injEq,D.ref.injEq,D.int.injEq,D.str.injEq,D.bl.injEq,D.vl.injEq,Me,and_assoc]at e;(repeat(obtain⟨e1,e⟩:=e;subst e1));subst e;exact h))))
abbrev jv(l:T3)(M:Mem)(R:DK)(Y:DXK):Prop:=LnOk l∧R (.int ((cbL l:Nat):Int)) M
def Dc:DSp:=fun ds M R Y=>∃(l:T3),ds=[f8 l]∧jv l M R Y
theorem tK{l:T3}{M:Mem}{R:DK}{Y:DXK}:Dc [f8 l] M R Y=(jv l M R Y):=propext ⟨fun z=>by obtain⟨_,_,_⟩:=z;walk_at "inj",fun h=>⟨l,rfl,h⟩⟩
abbrev ay(l:T3)(c:Int)(M:Mem)(R:DK)(Y:DXK):Prop:=(LnOk l∧c=((cbL l:Nat):Int))∧R (.vl [.int (g5 l 0).1,.int (g5 l 0).2.1,.int (g5 l 0).2.2.1]) M
def nW:DSp:=fun ds M R Y=>∃(l:T3) (c:Int),ds=[f8 l,.int c]∧ay l c M R Y
theorem kQ{l:T3}{c:Int}{M:Mem}{R:DK}{Y:DXK}:nW [f8 l,.int c] M R Y=(ay l c M R Y):=propext ⟨fun z=>by obtain⟨_,_,_,_⟩:=z;walk_at "inj",fun h=>⟨l,c,rfl,h⟩⟩
abbrev T5(ls:List T3)(M:Mem)(R:DK)(Y:DXK):Prop:=sW ls∧R (.vl ((e7 ls).map sdD)) M
def jg:DSp:=fun ds M R Y=>∃(x0:D) (ls:List T3),ds=[x0]∧(x0 = .vl (ls.map f8)∨x0 = .tup (ls.map f8))∧T5 ls M R Y
theorem kS{ls:List T3}{M:Mem}{R:DK}{Y:DXK}:jg [.vl (ls.map f8)] M R Y=(T5 ls M R Y):=propext ⟨fun z=>by obtain⟨_,_,_,_,_⟩:=z;walk_at "injs",fun h=>⟨_,ls,rfl,.inl rfl,h⟩⟩
theorem di{ls:List T3}{M:Mem}{R:DK}{Y:DXK}:jg [.tup (ls.map f8)] M R Y=(T5 ls M R Y):=propext ⟨fun z=>by obtain⟨_,_,_,_,_⟩:=z;walk_at "injs",fun h=>⟨_,ls,rfl,.inr rfl,h⟩⟩
abbrev js(a:Sd)(M:Mem)(R:DK)(Y:DXK):Prop:=R (sdD (g9 a)) M
def vC:DSp:=fun ds M R Y=>∃(a:Sd),ds=[sdD a]∧js a M R Y
theorem tJ{a:Sd}{M:Mem}{R:DK}{Y:DXK}:vC [sdD a] M R Y=(js a M R Y):=propext ⟨fun z=>by obtain⟨_,_,_⟩:=z;walk_at "inj",fun h=>⟨a,rfl,h⟩⟩
abbrev cE(a b:Sd)(M:Mem)(R:DK)(Y:DXK):Prop:=(SzS a∧SzS b)∧R (.int (veZ a b)) M
def eE:DSp:=fun ds M R Y=>∃(a b:Sd),ds=[sdD a,sdD b]∧cE a b M R Y
theorem oY{a b:Sd}{M:Mem}{R:DK}{Y:DXK}:eE [sdD a,sdD b] M R Y=(cE a b M R Y):=propext ⟨fun z=>by obtain⟨_,_,_,_⟩:=z;walk_at "inj",fun h=>⟨a,b,rfl,h⟩⟩
abbrev cG(a b c:Sd)(M:Mem)(R:DK)(Y:DXK):Prop:=(SzS a∧SzS b∧SzS c)∧R (.int (tnZ a b c)) M
def vn:DSp:=fun ds M R Y=>∃(a b c:Sd),ds=[sdD a,sdD b,sdD c]∧cG a b c M R Y
theorem pd{a b c:Sd}{M:Mem}{R:DK}{Y:DXK}:vn [sdD a,sdD b,sdD c] M R Y=(cG a b c M R Y):=propext ⟨fun z=>by obtain⟨_,_,_,_,_⟩:=z;walk_at "inj",fun h=>⟨a,b,c,rfl,h⟩⟩
abbrev cP(a b:Sd)(M:Mem)(R:DK)(Y:DXK):Prop:=(SzS a∧SzS b)∧R (.bl (E6 a b)) M
def vy:DSp:=fun ds M R Y=>∃(a b:Sd),ds=[sdD a,sdD b]∧cP a b M R Y
theorem pz{a b:Sd}{M:Mem}{R:DK}{Y:DXK}:vy [sdD a,sdD b] M R Y=(cP a b M R Y):=propext ⟨fun z=>by obtain⟨_,_,_,_⟩:=z;walk_at "inj",fun h=>⟨a,b,rfl,h⟩⟩
abbrev cI(ss:List Sd)(M:Mem)(R:DK)(Y:DXK):Prop:=(∃ s r,ss=s :: r)∧(∀ s∈ss,SzS s)∧R (sdD (A4 ss (ss.headD (0,0,0,0,0)))) M
def vp:DSp:=fun ds M R Y=>∃(ss:List Sd),ds=[.vl (ss.map sdD)]∧cI ss M R Y
theorem pe{ss:List Sd}{M:Mem}{R:DK}{Y:DXK}:vp [.vl (ss.map sdD)] M R Y=(cI ss M R Y):=propext ⟨fun z=>by obtain⟨_,_,_⟩:=z;walk_at "inj",fun h=>⟨ss,rfl,h⟩⟩
abbrev jj(ss:List Sd)(g:Sd)(M:Mem)(R:DK)(Y:DXK):Prop:=(SzS g∧∀ s∈ss,SzS s)∧R (mj (C1 g ss)) M
def CV:DSp:=fun ds M R Y=>∃(ss:List Sd) (g:Sd),ds=[.vl (ss.map sdD),sdD g]∧jj ss g M R Y
theorem tE{ss:List Sd}{g:Sd}{M:Mem}{R:DK}{Y:DXK}:CV [.vl (ss.map sdD),sdD g] M R Y=(jj ss g M R Y):=propext ⟨fun z=>by obtain⟨_,_,_,_⟩:=z;walk_at "inj",fun h=>⟨ss,g,rfl,h⟩⟩
abbrev aE(ls:List T3)(M:Mem)(R:DK)(Y:DXK):Prop:=sW ls∧R (.vl ((t9 (e7 ls)).map sdD)) M
def lV:DSp:=fun ds M R Y=>∃(x0:D) (ls:List T3),ds=[x0]∧(x0 = .vl (ls.map f8)∨x0 = .tup (ls.map f8))∧aE ls M R Y
theorem pC{ls:List T3}{M:Mem}{R:DK}{Y:DXK}:lV [.vl (ls.map f8)] M R Y=(aE ls M R Y):=propext ⟨fun z=>by obtain⟨_,_,_,_,_⟩:=z;walk_at "injs",fun h=>⟨_,ls,rfl,.inl rfl,h⟩⟩
theorem gk{ls:List T3}{M:Mem}{R:DK}{Y:DXK}:lV [.tup (ls.map f8)] M R Y=(aE ls M R Y):=propext ⟨fun z=>by obtain⟨_,_,_,_,_⟩:=z;walk_at "injs",fun h=>⟨_,ls,rfl,.inr rfl,h⟩⟩
abbrev jk(a b:Sd)(M:Mem)(R:DK)(Y:DXK):Prop:=(SzS a∧SzS b∧veZ a b≠0)∧R (rD (ry (tri a) (tri b))) M
def yX:DSp:=fun ds M R Y=>∃(a b:Sd),ds=[sdD a,sdD b]∧jk a b M R Y
theorem tF{a b:Sd}{M:Mem}{R:DK}{Y:DXK}:yX [sdD a,sdD b] M R Y=(jk a b M R Y):=propext ⟨fun z=>by obtain⟨_,_,_,_⟩:=z;walk_at "inj",fun h=>⟨a,b,rfl,h⟩⟩
def AH(z:Rat × Rat):Prop:=sz z.1≤2402∧sz z.2≤2402
abbrev aA(a b:Rat × Rat)(M:Mem)(R:DK)(Y:DXK):Prop:=(AH a∧AH b)∧R (.bl (L1 a b)) M
def nY:DSp:=fun ds M R Y=>∃(a b:Rat × Rat),ds=[rD a,rD b]∧aA a b M R Y
theorem kT{a b:Rat × Rat}{M:Mem}{R:DK}{Y:DXK}:nY [rD a,rD b] M R Y=(aA a b M R Y):=propext ⟨fun z=>by obtain⟨_,_,_,_⟩:=z;walk_at "inj",fun h=>⟨a,b,rfl,h⟩⟩
abbrev aG(rs:List (Rat × Rat))(M:Mem)(R:DK)(Y:DXK):Prop:=(rs≠[]∧rs.length≤100∧∀ z∈rs,AH z)∧R (.vl ((aJ rs).map rD)) M
def og:DSp:=fun ds M R Y=>∃(rs:List (Rat × Rat)),ds=[.vl (rs.map rD)]∧aG rs M R Y
theorem kY{rs:List (Rat × Rat)}{M:Mem}{R:DK}{Y:DXK}:og [.vl (rs.map rD)] M R Y=(aG rs M R Y):=propext ⟨fun z=>by obtain⟨_,_,_⟩:=z;walk_at "inj",fun h=>⟨rs,rfl,h⟩⟩
noncomputable def eM:Option (List (Rat × Rat))→D
 | none=>.non
 | some cs=>.vl (cs.map rD)
abbrev aH(ls:List T3)(M:Mem)(R:DK)(Y:DXK):Prop:=sW ls∧R (eM (G7 ls)) M
def lW:DSp:=fun ds M R Y=>∃(x0:D) (ls:List T3),ds=[x0]∧(x0 = .vl (ls.map f8)∨x0 = .tup (ls.map f8))∧aH ls M R Y
theorem pD{ls:List T3}{M:Mem}{R:DK}{Y:DXK}:lW [.vl (ls.map f8)] M R Y=(aH ls M R Y):=propext ⟨fun z=>by obtain⟨_,_,_,_,_⟩:=z;walk_at "injs",fun h=>⟨_,ls,rfl,.inl rfl,h⟩⟩
theorem gn{ls:List T3}{M:Mem}{R:DK}{Y:DXK}:lW [.tup (ls.map f8)] M R Y=(aH ls M R Y):=propext ⟨fun z=>by obtain⟨_,_,_,_,_⟩:=z;walk_at "injs",fun h=>⟨_,ls,rfl,.inr rfl,h⟩⟩
theorem tm{a:Sd}{M:Mem}{R:DK}:gIx (sdD a) (.int 0) M R=R (.int a.1) M:=X4
theorem tj{a:Sd}{M:Mem}{R:DK}:gIx (sdD a) (.int 1) M R=R (.int a.2.1) M:=X3
theorem sZ{a:Sd}{M:Mem}{R:DK}:gIx (sdD a) (.int 2) M R=R (.int a.2.2.1) M:=iB
theorem tw{a:Rat × Rat}{M:Mem}{R:DK}:gIx (rD a) (.int 0) M R=R (f6 a.1) M:=X4
theorem tu{a:Rat × Rat}{M:Mem}{R:DK}:gIx (rD a) (.int 1) M R=R (f6 a.2) M:=X3
theorem SzS.ve{a b:Sd}(ha:SzS a)(hb:SzS b):(veZ a b).natAbs<2 ^ 2401:=by
 have h1:=g7 ha.p hb.q
 have h2:=g7 ha.q hb.p
 unfold veZ
 have:=NJ (a.1*b.2.1) (a.2.1*b.1)
 rw[show 2401=1200+1200+1 from rfl,MX]
 omega
theorem G2(c d:Nat):B3 c d≤c*d:=by
 unfold B3
 exact Mo _ (Nh _ _)
theorem kn:∀(xs:List Rat) (c m:Nat),(∀ x∈xs,sz x≤1300)→c<2 ^ m→xs.foldl (fun c q=>B3 c q.den) c<2 ^ (m+1300*xs.length)
 | [],c,m,_,h=>by simpa using h
 | x :: xs,c,m,hx,h=>by
  have h1:B3 c x.den<2 ^ (m+1300):=LO (G2 c x.den) (D6 h (o9 x (hx x Ly)))
  have:=kn xs _ _ (fun y hy=>hx y (Ls _ hy)) h1
  rw[Ql,LA]
  rwa [show m+1300*(xs.length+1)=m+1300+1300*xs.length by omega]
theorem LnOk.all{l:T3}(h:LnOk l):∀ x∈[l.1,l.2.1,l.2.2],sz x≤1300:=fun x hx=>by
 simp only[Lz,LU,or_false]at hx
 rcases hx with rfl|rfl|rfl
 ·exact h.p
 ·exact h.q
 ·exact h.r
theorem LnOk.cb{l:T3}(h:LnOk l):cbL l<2 ^ 3901:=kn [l.1,l.2.1,l.2.2] 1 1 h.all (by decide)
theorem bf{ls:List T3}(h:sW ls){i:Nat}:∀ s∈M0 i ls,SzS s:=fun s hs=>by
 obtain⟨l,hl,j,e⟩:=B8 hs
 obtain⟨a,b,c⟩:=(h.2 l hl).s
 rcases e with rfl|rfl
 ·exact⟨a,b,c⟩
 ·exact⟨by show(-(g5 l j).1).natAbs<_;rw[Ml];exact a,by show(-(g5 l j).2.1).natAbs<_;rw[Ml];exact b,c⟩
theorem lJ:∀(ls:List T3) (i j:Nat) (l:T3),ls[j]? = some l→M0 i (ls.take (j+1))=M0 i (ls.take j)++[g5 l (i+j),g9 (g5 l (i+j))]
 | [],_,_,_,h=>nomatch h
 | a :: r,i,0,l,h=>by
  obtain rfl:=Option.some.inj h
  rfl
 | a :: r,i,j+1,l,h=>by
  have:=lJ r (i+1) j l h
  rw[Oc,Oc]
  show _ :: _ :: M0 (i+1) (r.take (j+1))=_ :: _ :: (M0 (i+1) (r.take j)++_)
  rw[this,show i+1+j=i+(j+1)by omega]
theorem cA:∀(ls:List T3) (i:Nat),(M0 i ls).length=2*ls.length
 | [],_=>rfl
 | a :: r,i=>by
  show(M0 (i+1) r).length+1+1=2*(r.length+1)
  rw[cA r (i+1)];omega
theorem G6(a b:Int):Mf a b=(a:Rat) / (b:Rat):=Ow a b
theorem vE(a b:Sd):(Mf (a.2.2.1*b.2.1 - b.2.2.1*a.2.1) (veZ a b),Mf (a.1*b.2.2.1 - b.1*a.2.2.1) (veZ a b))=ry (tri a) (tri b):=by
 unfold ry
 rw[u5,G6,G6,MT,MT,LI,LI,LI,LI]
 rfl
theorem BE{n:Nat}{a b:Sd}(ha:a.1.natAbs<2 ^ n∧a.2.1.natAbs<2 ^ n∧a.2.2.1.natAbs<2 ^ n)(hb:b.1.natAbs<2 ^ n∧b.2.1.natAbs<2 ^ n∧b.2.2.1.natAbs<2 ^ n)(hv:veZ a b≠0):sz (ry (tri a) (tri b)).1≤2*n+1∧sz (ry (tri a) (tri b)).2≤2*n+1:=by
 have sub:∀{x y z w:Int},x.natAbs<2 ^ n→y.natAbs<2 ^ n→z.natAbs<2 ^ n→w.natAbs<2 ^ n→(x*y - z*w).natAbs<2 ^ (2*n+1):=fun{x y z w} h1 h2 h3 h4=>by
  have e1:=g7 h1 h2
  have e2:=g7 h3 h4
  have:=NJ (x*y) (z*w)
  rw[show 2*n+1=n+n+1 by omega,MX]
  omega
 rw[← vE]
 have hve:(veZ a b).natAbs<2 ^ (2*n+1):=sub ha.1 hb.2.1 ha.2.1 hb.1
 exact⟨N8 (by omega) (sub ha.2.2 hb.2.1 hb.2.2 ha.2.1) hve hv,N8 (by omega) (sub ha.1 hb.2.2 hb.1 ha.2.2) hve hv⟩
theorem eK{rs:List (Rat × Rat)}(h:rs≠[]):∀ i,i≤rs.length→G5 rs i<rs.length
 | 0,_=>by
  cases rs with
  | nil=>exact absurd rfl h
  | cons a r=>exact Nat.zero_lt_succ _
 | i+1,hi=>by
  unfold G5
  split
  ·omega
  ·exact eK h i (by omega)
theorem fh{ls:List T3}(hok:∀ l∈ls,LineOk l):(t9 (e7 ls)).length≤2*ls.length+1:=by
 have:∀(h0:Sd) (ss:List Sd) (k:Nat) (o:Option Sd),(F4 h0 ss k o).length≤k:=fun h0 ss k=>by
  induction k with
  | zero=>intro o;exact LM _
  | succ k ih =>
   intro o
   cases o with
   | none=>exact Mn _
   | some h =>
    show(if 0<veZ h0 h then h :: F4 h0 ss k (C1 h ss)else[]).length≤k+1
    split
    ·rw[LA];have:=ih (C1 h ss);omega
    ·exact Mn _
 have e:=cA ls 0
 unfold e7
 cases es:M0 0 ls with
 | nil=>exact Mn _
 | cons s r =>
  rw[es]at e
  show(F4 _ _ _ _).length+1≤_
  have:=this (A4 (s :: r) s) (s :: r) (s :: r).length (C1 (A4 (s :: r) s) (s :: r))
  omega
theorem de{ds:List D}{n:Nat}:DL.R5 ds (some (n:Int)) none=ds.drop n:=by
 unfold DL.R5 HT.sIx
 have h1:¬ ((n:Int)<0):=by omega
 simp only[h1,if_false]
 rw[show((n:Int)).toNat=n from rfl]
 by_cases h:n≤ds.length
 ·rw[Nat.min_eq_left h,Nd (by rw[Mi];exact LM _)]
 ·rw[Nat.min_eq_right (by omega),OL (LM _),OL (by omega)]
  simp
theorem Et{x:D}{xs:List D}:DL.R5 (x :: xs) (some 1) none=xs:=by
 have:=de (ds:=x :: xs) (n:=1)
 exact this
theorem nu:∀(a b:List Sd),bc (a.map sdD) (b.map sdD)=(a.zip b).map fun ab=>D.tup [sdD ab.1,sdD ab.2]
 | [],_=>rfl
 | _ :: _,[]=>rfl
 | x :: a,y :: b=>by
  show D.tup [sdD x,sdD y] :: bc (a.map sdD) (b.map sdD)=_
  rw[nu a b];rfl
theorem lY(h0:Sd)(l:List Sd):(B0 h0 l).length=l.length+1:=by
 unfold B0
 rw[Lr,MU,LA,LQ]
 simp
end GM
namespace GM
open PySem PySem.Spec L2 DL
open RM (sz)
theorem GO{a q:Rat}(h:q≠0):a / q*q=a:=Mm h
theorem Rim.neg{ss:List T3}{h0:T3}{l:List T3}{z:Rat × Rat}(h:z∈cu h0 l):ngZ z∈cu h0 l:=by
 have nn:∀ z:Rat × Rat,ngZ (ngZ z)=z:=fun z=>by
  unfold ngZ;exact Prod.ext (by show - -z.1=z.1;grind) (by show - -z.2=z.2;grind)
 rcases LR.mp h with h|h
 ·obtain⟨ab,hab,rfl⟩:=Lv.mp h
  exact LW _ (Lv.mpr ⟨ab,hab,rfl⟩)
 ·obtain⟨ab,hab,rfl⟩:=Lv.mp h
  rw[nn]
  exact Mu _ (Lv.mpr ⟨ab,hab,rfl⟩)
theorem above{ls:List T3}{h0:T3}{r:List T3}(R:Rim ((e7 ls).map tri) h0 r)(hok:∀ l∈ls,LineOk l):∃ z∈cu h0 r,0<z.1:=by
 have eps:∀(l:List T3),(∀ x∈l,LineOk x)→∃ e:Rat,0<e∧∀ x∈l,T9 x e 0=true:=fun l=>by
  induction l with
  | nil=>exact fun _=>⟨1,by decide,fun _ h=>nomatch h⟩
  | cons x l ih =>
   intro h
   obtain⟨e,e0,he⟩:=ih fun y hy=>h y (Ls _ hy)
   have hr:=(h x Ly).pos
   have small:∀{y:T3} {e e':Rat},T9 y e 0=true→0≤e'→e'≤e→0<e→T9 y e' 0=true:=fun{y e e'} k z1 z2 z3=>by
    rw[B2]at k ⊢
    rw[Oi,OT]at k ⊢
    obtain⟨k1,k2⟩:=k
    have m1:0≤e'*(y.2.2 - y.1*e):=LC z1 (by grind)
    have m2:0≤e'*(y.2.2+y.1*e):=LC z1 (by grind)
    have r0:0≤y.2.2:=by grind
    have m3:0≤y.2.2*(e - e'):=LC r0 (by grind)
    have u1:0≤e*(y.2.2 - y.1*e'):=by grind
    have u2:=C8 z3 u1
    have u3:0≤e*(y.2.2+y.1*e'):=by grind
    have u4:=C8 z3 u3
    exact⟨by grind,by grind⟩
   by_cases p0:x.1=0
   ·refine⟨e,e0,fun y hy=>?_⟩
    rcases Lz.mp hy with rfl|hy
    ·rw[B2,p0];exact⟨by grind,by grind⟩
    ·exact he y hy
   ·have ap:0<j8 x.1:=AD p0
    have dd:=GO (a:=x.2.2) (t6 ap)
    have t0:0<x.2.2 / j8 x.1:=by
     rcases tot (x.2.2 / j8 x.1) 0 with z|z
     ·have:=LC (show 0 ≤ -(x.2.2 / j8 x.1)by grind) (G0 ap)
      grind
     ·by_cases z0:x.2.2 / j8 x.1=0
      ·rw[z0]at dd;grind
      ·grind
    have lx:T9 x (x.2.2 / j8 x.1) 0=true:=by
     rw[B2,Oi,OT]
     generalize x.2.2 / j8 x.1=t at *
     unfold j8 at dd
     have x0:0≤x.2.2:=by grind
     split at dd
     ·exact⟨by grind,by grind⟩
     ·exact⟨by grind,by grind⟩
    by_cases c:x.2.2 / j8 x.1≤e
    ·refine⟨_,t0,fun y hy=>?_⟩
     rcases Lz.mp hy with rfl|hy
     ·exact lx
     ·exact small (he y hy) (G0 t0) c e0
    ·refine⟨e,e0,fun y hy=>?_⟩
     rcases Lz.mp hy with rfl|hy
     ·exact small lx (G0 e0) (by grind) t0
     ·exact he y hy
 obtain⟨e,e0,he⟩:=eps ls hok
 obtain⟨c,hc,_,hm⟩:=R.most (1,0,0) (fun z=>by have:=z.1;revert this;decide)
 have:=hm (e,0) ((L3 ls (e,0)).mpr (by unfold r9;rw[ML];exact he))
 unfold dt at this
 exact⟨c,hc,by grind⟩
theorem CD.led5{S k:Nat}{x:Str × Rat}{a b c d:Rat}(h:CD S a b c d)(hx:sz x.2≤k):CD (S+(k+1)) (O5 x a c).1 (O5 x b d).1 (O5 x a c).2 (O5 x b d).2:=by
 unfold O5
 by_cases h1:x.1 = "gap"
 ·rw[if_pos h1,if_pos h1];exact h.step hx
 ·rw[if_neg h1,if_neg h1]
  by_cases h2:x.1 = "glass"
  ·rw[if_pos h2,if_pos h2]
   have:=(h.swap.step (q:=-x.2) (k:=k) (by rw[RM.K2];exact hx)).swap
   have e:∀ u v:Rat,u + -x.2*v=u - x.2*v:=fun u v=>by grind
   rw[e,e]at this
   exact this
  ·rw[if_neg h2,if_neg h2];exact h.mono (by omega)
theorem zI{bs:List (Str × Rat)}(hb:∀ x∈bs,F3 x):CD (1+42*bs.length) (v9 bs (1,0)).1 (v9 bs (0,1)).1 (v9 bs (1,0)).2 (v9 bs (0,1)).2:=by
 have gen:∀(bs:List (Str × Rat)) (S:Nat) (a b c d:Rat),(∀ x∈bs,F3 x)→CD S a b c d→CD (S+42*bs.length) (v9 bs (a,c)).1 (v9 bs (b,d)).1 (v9 bs (a,c)).2 (v9 bs (b,d)).2:=by
  intro bs
  induction bs with
  | nil=>intro S a b c d _ h;exact h.mono (by simp)
  | cons x r ih =>
   intro S a b c d hb h
   have h1:=h.led5 (hb x Ly).sz
   have h2:=ih _ _ _ _ _ (fun z hz=>hb z (Ls _ hz)) h1
   exact h2.mono (by simp only[LA];omega)
 exact gen bs 1 1 0 0 1 hb CD.one
theorem vT(bs:List (Str × Rat)):(v9 bs (1,0)).1*(v9 bs (0,1)).2 - (v9 bs (0,1)).1*(v9 bs (1,0)).2=1:=by
 have gen:∀(bs:List (Str × Rat)) (a b c d:Rat),a*d - b*c=1→(v9 bs (a,c)).1*(v9 bs (b,d)).2 - (v9 bs (b,d)).1*(v9 bs (a,c)).2=1:=by
  intro bs
  induction bs with
  | nil=>intro a b c d h;exact h
  | cons x r ih =>
   intro a b c d h
   refine ih (O5 x a c).1 (O5 x b d).1 (O5 x a c).2 (O5 x b d).2 ?_
   unfold O5
   by_cases h1:x.1 = "gap"
   ·rw[if_pos h1,if_pos h1];grind
   ·rw[if_neg h1,if_neg h1]
    by_cases h2:x.1 = "glass"
    ·rw[if_pos h2,if_pos h2];grind
    ·rw[if_neg h2,if_neg h2];exact h
 exact gen bs 1 0 0 1 (by grind)
theorem wu{bs:List (Str × Rat)}(hok:∀ x∈bs,F3 x):∀ i,∀ l∈J4 bs i,∃(j:Nat) (r:Rat),l=((v9 (bs.take j) (1,0)).1,(v9 (bs.take j) (0,1)).1,r)∧0<r∧sz r≤41
 | 0,l,h=>by cases h
 | i+1,l,h=>by
  rcases LR.mp h with h|h
  ·exact wu hok i l h
  ·cases e:bs[i]? with
   | none=>rw[e]at h;cases h
   | some x =>
    replace h:l∈(if x.1 = "stop" then[((v9 (bs.take i) (1,0)).1,(v9 (bs.take i) (0,1)).1,x.2)]else[]):=by rw[e]at h;exact h
    by_cases hx:x.1 = "stop"
    ·rw[if_pos hx]at h
     have ok:=hok x (LK e)
     refine⟨i,x.2,Mh.mp h,?_,ok.sz⟩
     rcases ok.kind with⟨z,_⟩|z|⟨_,z⟩
     ·rw[z]at hx;exact absurd hx (by decide)
     ·rw[z]at hx;exact absurd hx (by decide)
     ·exact z
    ·rw[if_neg hx]at h;cases h
theorem nD{q:Rat}{c N:Nat}{A:Int}(hd:q.den ∣ c)(hc:c ∣ N)(hN:0<N)(e:q*(N:Rat)=(A:Rat)):(L8 q c).natAbs≤A.natAbs:=by
 obtain⟨m,rfl⟩:=hc
 have h1:=V0 hd
 have e2:(A:Rat)=((L8 q c*(m:Int):Int):Rat):=by
  rw[LI,h1,← e,Mt,LZ];grind
 have e3:A=L8 q c*(m:Int):=Of.mp e2
 rw[e3,Mc,Lu]
 exact OB _ (Py fun z=>by rw[z]at hN;simp at hN)
theorem jZ{q:Rat}{N:Nat}{A:Int}(e:q*(N:Rat)=(A:Rat)):q.den ∣ N:=by
 have e1:=C3 q
 have e2:((q.num*(N:Int):Int):Rat)=((A*(q.den:Int):Int):Rat):=by
  rw[LI,LI,← e1,← e,LZ,LZ];grind
 have e3:q.num*(N:Int)=A*(q.den:Int):=Of.mp e2
 have e4:q.num.natAbs*N=A.natAbs*q.den:=by
  have:=congrArg Qr e3
  rwa [Mc,Mc,Lu,Lu]at this
 have e5:q.den ∣ q.num.natAbs*N:=⟨A.natAbs,by rw[e4,Nj]⟩
 exact Nat.Coprime.dvd_of_dvd_mul_left (Nat.Coprime.symm q.reduced) e5
structure LS5(l:T3):Prop where
 p:sz l.1≤505
 q:sz l.2.1≤547
 r:sz l.2.2≤41
def sX(n:Nat)(s:Sd):Prop:=s.1.natAbs<2 ^ n∧s.2.1.natAbs<2 ^ n∧s.2.2.1.natAbs<2 ^ n
theorem uZ{bs:List (Str × Rat)}{x:Rat}(hl:bs.length≤12)(hok:∀ x∈bs,F3 x)(hx:sz x≤41):∀ l∈vc bs x,LnOk l∧LS5 l∧sX 588 (g5 l 0):=fun l h=>by
 obtain⟨m,hm,rfl⟩:=Lv.mp h
 obtain⟨j,r,rfl,r0,hr⟩:=wu hok bs.length m hm
 have cd:=zI (bs:=bs.take j) fun x hx=>hok x (Mv hx)
 have dt1:=vT (bs.take j)
 have hlen:(bs.take j).length≤12:=by rw[Ma];omega
 have cd:=cd.mono (show 1+42*(bs.take j).length≤505 by omega)
 show LnOk ((v9 (bs.take j) (1,0)).1,(v9 (bs.take j) (1,0)).1*x+(v9 (bs.take j) (0,1)).1,r)∧_
 generalize (v9 (bs.take j) (1,0)).1=p at *
 generalize (v9 (bs.take j) (0,1)).1=q at *
 obtain⟨A,B,C,E,D,h0,hd,⟨h1,h2,_,_⟩,e1,e2,_,_⟩:=cd.ex
 have xn:=D4 x hx
 have xd:=o9 x hx
 have rn:=D4 r hr
 have rd:=o9 r hr
 have ex:=C3 x
 have er:=C3 r
 have xd':(x.den:Int).natAbs<2 ^ 41:=by rw[Lu];exact xd
 have rd':(r.den:Int).natAbs<2 ^ 41:=by rw[Lu];exact rd
 have p1:p*((D*x.den:Nat):Rat)=((A*(x.den:Int):Int):Rat):=by
  rw[Mt,LI,LZ,← e1];grind
 have q1:(p*x+q)*((D*x.den:Nat):Rat)=((A*x.num+B*(x.den:Int):Int):Rat):=by
  rw[Mt,ND,LI,LI,LZ,← e1,← e2,← ex];grind
 have bp:(A*(x.den:Int)).natAbs<2 ^ 546:=g7 h1 xd'
 have bq:(A*x.num+B*(x.den:Int)).natAbs<2 ^ 547:=Z9 (g7 h1 xn) (g7 h2 xd')
 have bd:D*x.den<2 ^ 546:=D6 hd xd
 have d0:D*x.den≠0:=NC h0 x.den_nz
 have sp:sz p≤505:=ip (by decide) h0 hd e1 h1
 have sq:sz (p*x+q)≤547:=ip (by decide) d0 (OU bd (by decide)) q1 bq
 generalize p*x+q=q' at *
 have np:¬ (p=0∧q'=0):=fun⟨z1,z2⟩=>by
  have hA:A=0:=by
   rw[z1,NP]at e1
   exact Of.mp (by rw[← e1];rfl)
  have hB:B*(x.den:Int)=0:=by
   rw[z2,NP,hA,OR,OV]at q1
   exact Of.mp (by rw[← q1];rfl)
  have hB0:B=0:=(NG.mp hB).resolve_right (by have:=x.den_nz;omega)
  rw[hB0]at e2
  have dn:(D:Rat)≠0:=by intro z;exact h0 (by exact_mod_cast z)
  have q0:q=0:=by
   have:q*(D:Rat)=0:=e2
   grind
  rw[z1,q0]at dt1
  grind
 have np':0<D*x.den*r.den:=Pj (Py d0) r.den_pos
 have p2:p*((D*x.den*r.den:Nat):Rat)=((A*(x.den:Int)*(r.den:Int):Int):Rat):=by
  rw[Mt,← Rat.mul_assoc,p1,LI (A*(x.den:Int)),LZ]
 have q2:q'*((D*x.den*r.den:Nat):Rat)=(((A*x.num+B*(x.den:Int))*(r.den:Int):Int):Rat):=by
  rw[Mt,← Rat.mul_assoc,q1,LI,LZ]
 have r2:r*((D*x.den*r.den:Nat):Rat)=((((D*x.den:Nat):Int)*r.num:Int):Rat):=by
  rw[Mt,LI,LZ,← er];grind
 have cdv:cbL (p,q',r) ∣ D*x.den*r.den:=by
  rw[fk]
  exact Nat.lcm_dvd (Nat.lcm_dvd (jZ p2) (jZ q2)) (jZ r2)
 have tp:(L8 p (cbL (p,q',r))).natAbs<2 ^ 588:=LO (nD (Ci (p,q',r)) cdv np' p2) (OU (g7 bp rd') (by decide))
 have tq:(L8 q' (cbL (p,q',r))).natAbs<2 ^ 588:=LO (nD (Cg (p,q',r)) cdv np' q2) (g7 bq rd')
 have tr:(L8 r (cbL (p,q',r))).natAbs<2 ^ 588:=LO (nD (Cf (p,q',r)) cdv np' r2) (OU (g7 (by rw[Lu];exact bd) rn) (by decide))
 have up:∀{n:Nat},n<2 ^ 588→n<2 ^ 1200:=fun h=>OU h (by decide)
 exact⟨⟨⟨np,r0⟩,by show sz p≤1300;omega,by show sz q'≤1300;omega,by show sz r≤1300;omega,⟨up tp,up tq,up tr⟩⟩,⟨sp,sq,hr⟩,tp,tq,tr⟩
theorem gP{xs ys:List Rat}:xs.map f6=ys.map f6↔xs=ys:=Mp (fun _ _ h=>i4.mp h)
local macro_rules|`(tactic| walk_at "inj")=>`(tactic| (rename_i e h;simp only[List.cons.injEq,GM.gP,and_true,true_and,GM.i4,GM.j4,GM.i5,GM.j5,GM.i6,D.tup.injEq,D.ref.injEq,D.int.injEq,D.str.injEq,D.bl.injEq,D.vl.injEq,Me,and_assoc]at e;(repeat(obtain⟨e1,e⟩:=e;subst e1));subst e;exact h))
local macro_rules|`(tactic| walk_at "injs")=>`(tactic| (rename_i e o h;rcases o with o|o<;>(subst o;first|(exfalso;simp only[D.tup.injEq,List.cons.injEq,reduceCtorEq,false_and,and_false]at e;done)|(simp only[List.cons.injEq,GM.gP,and_true,true_and,GM.i4,GM.j4,GM.i5,GM.j5,GM.i6,D.tup.injEq,D.ref.injEq,D.int.injEq,D.str.injEq,D.bl.injEq,D.vl.injEq,Me,and_assoc]at e;(repeat(obtain⟨e1,e⟩:=e;subst e1));subst e;exact h))))
theorem sD{a b:Nat × Rat × Rat × Rat}:mK a=mK b↔a=b:=by
 constructor
 ·intro h
  unfold mK at h
  injection h with h
  injection h with h1 h
  injection h with h2 h
  injection h with h3 h
  injection h with h4 h
  injection h1 with h1
  exact Prod.ext (by omega) (Prod.ext (i4.mp h2) (Prod.ext (i4.mp h3) (i4.mp h4)))
 ·rintro rfl;rfl
theorem eY{xs ys:List (Nat × Rat × Rat × Rat)}:xs.map mK=ys.map mK↔xs=ys:=Mp (fun _ _ h=>sD.mp h)
end GM
namespace GM
open PySem PySem.Spec L2 DL
open RM (sz)
local macro_rules|`(tactic| walk_at "inj")=>`(tactic| (rename_i e h;simp only[List.cons.injEq,GM.eY,and_true,true_and,GM.i4,GM.j4,GM.i5,GM.j5,GM.i6,D.tup.injEq,D.ref.injEq,D.int.injEq,D.str.injEq,D.bl.injEq,D.vl.injEq,Me,and_assoc]at e;(repeat(obtain⟨e1,e⟩:=e;subst e1));subst e;exact h))
local macro_rules|`(tactic| walk_at "injs")=>`(tactic| (rename_i e o h;rcases o with o|o<;>(subst o;first|(exfalso;simp only[D.tup.injEq,List.cons.injEq,reduceCtorEq,false_and,and_false]at e;done)|(simp only[List.cons.injEq,GM.eY,and_true,true_and,GM.i4,GM.j4,GM.i5,GM.j5,GM.i6,D.tup.injEq,D.ref.injEq,D.int.injEq,D.str.injEq,D.bl.injEq,D.vl.injEq,Me,and_assoc]at e;(repeat(obtain⟨e1,e⟩:=e;subst e1));subst e;exact h))))
end GM
namespace L2
open PySem PySem.Spec PyProof.Rows
section
variable {X:Cx} {pins:List (Addr × Obj)} {σ:St} {H:Hp} {s:Shared} {h':Heap}
theorem Inv.keptL{t':Nat}(I:Inv X pins σ H s)(k:∀ b o,b≠X.env.locals→s.heap.get? b=some o→h'.get? b=some o)(ns:∀ m,s.heap.Ns X.env.locals m→h'.Ns X.env.locals m):Inv X pins σ H { s with heap:=h',toks:=t' }:=by
 have ne:∀{b:Addr} {o:Obj},X.s₀.heap.get? b=some o→b≠X.env.locals:=fun{b o} e z=>by
  have h1:=LD e
  rw[z]at h1
  exact absurd h1 (Nat.not_lt.mpr I.ok.above)
 have nL:∀{b:Addr} {u:HO},H b=some u→b≠X.env.locals:=fun{b u} e z=>by rw[z,I.free]at e;cases e
 obtain⟨m,hn,hl⟩:=I.loc
 have cel:∀{c:Addr} {v:Option Value},s.heap.IsCell c v→h'.IsCell c v:=fun{c v} d=>by
  obtain⟨o,e1,e2⟩:=d
  refine⟨o,k c o (fun z=>?_) e1,e2⟩
  obtain⟨o2,es,ep,e3,e4,_⟩:=hn
  rw[← z,e1]at e3
  cases e3
  rw[e2]at e4;cases e4
 refine⟨I.ok,I.os,I.bare,⟨fun b o q n hb hx=>k b o (ne q) (I.base.keep b o q n hb hx),fun b o q n hb hx=>?_,I.base.free,fun b o q hx=>?_,I.base.tups,I.base.frzs,I.base.tbls⟩,⟨m,ns m hn,fun i x v e1 e2 e3=>?_⟩,fun x c e=>?_,I.free,I.freeC,fun p hp=>?_,fun b u e=>?_,I.len⟩
 ·obtain⟨sl,z⟩:=I.base.slot b o q n hb hx
  exact⟨sl,k b _ (ne q) z⟩
 ·obtain⟨o',z⟩:=I.base.there b o q hx
  exact⟨o',k b _ (ne q) z⟩
 ·obtain⟨u,r,lk⟩:=hl i x v e1 e2 e3
  exact⟨u,r,lk.imp id fun⟨a,c,b,d⟩=>⟨a,c,b,cel d⟩⟩
 ·obtain⟨v,d⟩:=I.cell x c e
  exact⟨v,cel d⟩
 ·obtain⟨a,b,c,d⟩:=I.pin p hp
  exact⟨k _ _ c a,b,c,d⟩
 ·refine(I.hok b u e).stay (fun c v hc q=>k c v ?_ q) (fun _ q=>q) fun _ _ q=>q
  rcases hc with rfl|hc
  ·exact nL e
  ·exact nL hc
theorem mE{P:Program}{w:World}{h:Heap}{a:Addr}{o:HO}(x:B4 P w H h a o):∃ u,h.get? a=some u:=DL.gS x
theorem Inv.laidL{t':Nat}{a:Addr}{o:HO}(I:Inv X pins σ H s)(k:∀ b o,b≠X.env.locals→s.heap.get? b=some o→h'.get? b=some o)(ns:∀ m,s.heap.Ns X.env.locals m→h'.Ns X.env.locals m)(hn:s.heap.get? a=none)(hL:a≠X.env.locals)(nt:∀ xs,o ≠ .tup xs)(new:B4 X.prog X.w (upd H a o) h' a o):Inv X pins σ (upd H a o) { s with heap:=h',toks:=t' }:=by
 have J:=I.keptL (t':=t') k ns
 have nH:H a=none:=by
  cases e:H a with
  | none=>rfl
  | some u=>obtain⟨x,hx⟩:=mE (I.hok a u e);rw[hn]at hx;cases hx
 have ne:∀{b:Addr} {u:HO},H b=some u→b≠a:=fun{b u} e z=>by rw[z,nH]at e;cases e
 refine⟨J.ok,J.os,J.bare,⟨J.base.keep,J.base.slot,fun b o' q n hx=>?_,J.base.there,fun b xs q=>?_,fun b o' u q=>?_,fun b ps q=>?_⟩,J.loc,J.cell,?_,fun x c e=>?_,fun p hp=>?_,fun b u e=>?_,J.len⟩
 ·have hb:b≠a:=fun z=>by
   obtain⟨o2,e2⟩:=I.base.there b o' q hx
   rw[z,hn]at e2;cases e2
  rw[g8 hb];exact J.base.free b o' q n hx
 ·have:=J.base.tups b xs q
  rw[g8 (ne this)];exact this
 ·have:=J.base.frzs b o' u q
  rw[g8 (ne this)];exact this
 ·obtain⟨more,this⟩:=J.base.tbls b ps q
  exact⟨more,by rw[g8 (ne this)];exact this⟩
 ·rw[g8 (Ne.symm hL)];exact J.free
 ·have hb:c≠a:=fun z=>by
   obtain⟨v,o2,e2,_⟩:=I.cell x c e
   rw[z,hn]at e2;cases e2
  rw[g8 hb];exact J.freeC x c e
 ·obtain⟨p1,p2,p3⟩:=J.pin p hp
  have hb:p.1≠a:=fun z=>by
   have:=(I.pin p hp).1
   rw[z,hn]at this;cases this
  exact⟨p1,by rw[g8 hb];exact p2,p3⟩
 ·by_cases hb:b=a
  ·subst hb
   rw[i8]at e
   cases e
   exact new
  ·rw[g8 hb]at e
   refine(J.hok b u e).stay (fun _ _ _ q=>q) (fun c q=>?_) fun c xs q=>?_
   ·rw[g8 (ne q)];exact q
   ·rw[g8 (ne q)];exact q
theorem Ab{prog:Program}{w:World}{A:Around}{κ:SortKind}{vs:List Value}{G:Array Nat→Shared→Prop}{s:Shared}(h:wpAny (model prog w) A (keyLt' κ (vs.getD 1 Value.none) (vs.getD 0 Value.none)) (fun b s'=>(b=true→G #[1,0] s')∧(b=false→G #[0,1] s')) (fun _ _=>False) s) :
  (PySem.W.kas_sort 2).kasWp (PySem.W.kas_ask prog w A κ vs) G s:=by
 show PySem.W.kas_ask prog w A κ vs 1 0 (fun b s'=>PySem.W.KasT.kasWp (PySem.W.kas_ask prog w A κ vs) _ G s') s
 unfold PySem.W.kas_ask
 refine wpAny_mono h (fun b s' hb=>?_) fun _ _ z=>z
 cases b with
 | true=>exact hb.1 rfl
 | false=>exact hb.2 rfl
theorem oG:A6 X (.builtin "sorted") (fun xs H Q=>∃ l a b i j xa xb,xs=[.ref l]∧SqL X.K H l [.ref a,.ref b]∧SqT X.K H a (.int i :: xa)∧SqT X.K H b (.int j :: xb)∧i≠j ∧
  ∀ p,H p=none→Q (.ref p) (upd H p (.lst (if j<i then[.ref b,.ref a]else[.ref a,.ref b])))):=by
 intro pins s σ H xs us Q I rv h
 obtain⟨l,a,b,i,j,xa,xb,rfl,hl,ha,hb,ne,q⟩:=h
 obtain⟨u,rfl,ru⟩:=i7.one rv
 obtain rfl:u=Value.ref l:=ru
 obtain⟨its,rl,isl,_⟩:=I.list hl
 obtain⟨ia,ra,⟨oa,ha1,ha2,na,ha3⟩,_⟩:=I.tuple ha
 obtain⟨ib,rb,⟨ob,hb1,hb2,nb,hb3⟩,_⟩:=I.tuple hb
 obtain rfl:its=[Value.ref a,Value.ref b]:=by
  obtain⟨u1,u2,e,r1,r2⟩:=i7.two rl
  rw[e,show u1=Value.ref a from r1,show u2=Value.ref b from r2]
 cases ra with
 | cons ra1 ra2 =>
 cases rb with
 | cons rb1 rb2 =>
 obtain⟨ta,rfl⟩:=ra1
 obtain⟨tb,rfl⟩:=rb1
 rename_i va vb
 obtain⟨m,F⟩:=I.fr
 obtain⟨ol,nl,hl1,hl2,_,hl3⟩:=isl
 refine PySem.W.kat_sorted (vs:=[Value.ref a,Value.ref b]) F (wt (g:=X.base)) ⟨ol,hl1,hl2,nl,hl3⟩ (by show 2≤2;decide) (by show 2<64;decide) fun Dl e1 h1 F1 N1 lt1=>?_
 have keep:∀ c o,c≠X.env.locals→s.heap.get? c=some o→h1.get? c=some o:=fun c o n e=>by
  cases q:X.base.get? c with
  | some u =>
   have:=I.bk c u q
   rw[e]at this;cases this
   exact F1.keep c _ q
  | none=>exact(N1 (c,o) (.tail _ (T8 n q e))).1
 have nL:∀{c:Addr} {o:Obj},s.heap.get? c=some o→o.cls = .type "tuple" → (∃ xs n,o.data = .seq xs n)→c≠X.env.locals:=fun{c o} e1 _ ⟨xs,n,e2⟩ z=>by
  obtain⟨o2,es,ep,e3,e4,_⟩:=F.ns
  rw[← z,e1]at e3
  cases e3
  rw[e2]at e4;cases e4
 have nLa:a≠X.env.locals:=nL ha1 ha2 ⟨_,_,ha3⟩
 have nLb:b≠X.env.locals:=nL hb1 hb2 ⟨_,_,hb3⟩
 have ha4:=keep a oa nLa ha1
 have hb4:=keep b ob nLb hb1
 refine PySem.W.kat_kind (fs:=[.int i ta,.int j tb]) (T:=.type "int") (.cons ha4 ha2 ha3 rfl (.cons hb4 hb2 hb3 rfl .nil)) (by show 0<2;decide) (fun v hv=>?_) rfl ?_
 ·simp only[Lz,LU,or_false]at hv
  rcases hv with rfl|rfl
  ·exact .now
  ·exact .now
 ·refine Ab (PySem.W.kat_lt hb4 hb3 ha4 ha3 (PySem.W.kat_cons (wpAny_eqBool_int ?_)))
  rw[show(j == i)=false from beq_eq_false_iff_ne.mpr (Ne.symm ne)]
  refine PySem.W.kat_no (oneLt_int ?_)
  have fin:∀(vs':List Value) (xs':List V),i7 xs' vs'→xs'=(if j<i then[V.ref b,V.ref a]else[V.ref a,V.ref b])→PySem.W.KasFin X.base X.env.locals m Dl e1 vs' (fun s3=>EP X pins σ Q (Value.ref Dl) s3) { s with heap:=h1 }:=fun vs' xs' rv' ex=>by
   have hD0:=N1 (Dl,seqObj "list" #[] e1) (.head _)
   have hDn:s.heap.get? Dl=none:=by
    cases e:s.heap.get? Dl with
    | none=>rfl
    | some u=>exact absurd (lt1 (Dl,u) (T8 hD0.2.1 hD0.2.2 e)) (MN _)
   refine PySem.W.KasFin.intro F1 N1 (.head fun p hp=>Md (lt1 p hp)) fun h2 c2 F2 N2=>?_
   have keep2:∀ c o,c≠X.env.locals→s.heap.get? c=some o→h2.get? c=some o:=fun c o n e=>by
    cases q:X.base.get? c with
    | some u =>
     have:=I.bk c u q
     rw[e]at this;cases this
     exact F2.keep c _ q
    | none=>exact(N2 (c,o) (.tail _ (T8 n q e))).1
   have hD2:=N2 (Dl,PySem.W.listOf (List.toArray vs') c2) (.head _)
   have I2:Inv X pins σ (upd H Dl (.lst xs')) { s with heap:=h2,toks:=s.toks }:=I.laidL keep2 (fun m' hm=>by
    obtain⟨o1,es1,ep1,a1,a2,_,a4⟩:=hm
    obtain⟨o2,es2,ep2,b1,b2,_,b4⟩:=F.ns
    rw[a1]at b1;cases b1
    rw[a2]at b2;cases b2
    have:m'=m:=funext fun x=>(a4 x).symm.trans (b4 x)
    rw[this];exact F2.ns) hDn hD0.2.1 (fun _ z=>nomatch z) ⟨?_,vs',c2,rv',hD2.1⟩
   ·refine⟨.ref Dl,_,I2,rfl,?_⟩
    rw[ex]
    exact q Dl (by
     cases e:H Dl with
     | none=>rfl
     | some u=>obtain⟨x,hx⟩:=mE (I.hok Dl u e);rw[hDn]at hx;cases hx)
   ·have:xs'.length≤2:=by rw[ex];split<;>exact LM _
    exact LB this (by decide)
  refine⟨fun z=>fin _ [V.ref b,V.ref a] (.cons rfl (.cons rfl .nil)) (by rw[if_pos (of_decide_eq_true z)]),fun z=>fin _ [V.ref a,V.ref b] (.cons rfl (.cons rfl .nil)) (by rw[if_neg (of_decide_eq_false z)])⟩
end
section
variable {prog:Program} {w:World} {A:Around} {E:Value→Shared→Prop} {s:Shared}
theorem uX{a:Addr}{ws:List Value}{k:Nat}{P:PySem.Fin→Shared→Prop}(there:s.heap.get? a=some (seqObj "list" ws.toArray k))(few:ws.length<2)
  (go:P (.done (.ret .none)) { s with heap:=sortedHeap s.heap a ws ws.toArray }):wpAny (model prog w) A (Builtin.«list.sort» ⟨[.ref a],[]⟩) P E s:=by
 have inb:=LD there
 obtain⟨ep,bare⟩:∃ ep,(s.heap.update a (Obj.mapSeq fun _=>#[])).get? a=some (seqObj "list" #[] ep):=⟨_,get?_update_seq there _⟩
 have bare2:(((s.heap.update a (Obj.mapSeq fun _=>#[])).push (seqObj "tuple" ws.toArray 0)).push (seqObj "list" #[] 0)).get? a=some (seqObj "list" #[] ep) :=
  Lq _ (Lq _ bare)
 have small:ws.toArray.size<2:=by rw[LV];exact few
 have line:ws.length≤sizeLine:=LB (ME few) (by decide)
 rw[list_sort_plain]
 refine Lp (listItems_at there rfl
  (Lp (listUpdate_at there rfl
   (Lp (seqEpoch_at bare rfl
    (Lp (wpAny_newTuple
     (Lp (wpAny_newList
      (wpAny_holding ?_) (Mn _))) line)))) (by rw[LV];omega) (Mn _))))
 show wpAny (model prog w) A _ P E { s with heap:=((s.heap.update a (Obj.mapSeq fun _=>#[])).push (seqObj "tuple" ws.toArray 0)).push (seqObj "list" #[] 0) }
 dsimp only
 rw[if_pos small]
 refine Lp (LG ?_)
 rw[if_pos small,StateT.run_pure]
 refine Lp (LG ?_)
 have same:Array.map (fun x=>x.snd) (ws.toArray.zip ws.toArray)=ws.toArray:=by
  match ws,few with
  | [],_=>simp
  | [_],_=>simp
 show wpAny (model prog w) A (do
  let __do_lift ← seqEpoch a
  Builtin.List.listUpdate (Value.ref a) fun _=>Array.map (fun x=>x.snd) (ws.toArray.zip ws.toArray)
  if (__do_lift != ep)=true then _ else ret Value.none) P E _
 rw[same]
 refine Lp (seqEpoch_at bare2 rfl
  (Lp (listUpdate_at bare2 rfl ?_ (Mn _) (by rw[LV];omega))))
 rw[bne_self_eq_false,if_neg LN]
 exact LG go
theorem nG{l:Addr}{ws:List Value}{Q:Value→Shared→Prop}(hl:s.heap.IsList l ws.toArray)(few:ws.length<2)
  (go:Q (.ref (s.heap.objs.size+1)) { s with heap:=sortedAll s.heap ws ws.toArray }):wpAny (model prog w) A (call (.builtin "sorted") [.ref l]) Q E s:=by
 have line:ws.length≤sizeLine:=LB (ME few) (by decide)
 refine Calls.call_function_entry kind_sorted plain_sorted entry_sorted (args_sorted1 _) ?_
 unfold Builtin.«sorted»
 refine Lp (m:=checkCount "sorted" 1 1 _) (LG (Lp (collect_list hl (Lp (wpAny_newList ?_ line)) line)))
 have sz:((s.heap.push (seqObj "list" #[] 0)).update s.heap.objs.size (Obj.mapSeq (· ++ ws.toArray))).objs.size=s.heap.objs.size+1:=by rw[OG,size_push']
 have at1:(((s.heap.push (seqObj "list" #[] 0)).update s.heap.objs.size (Obj.mapSeq (· ++ ws.toArray))).push (seqObj "list" ws.toArray 0)).get? (s.heap.objs.size+1)=some (seqObj "list" ws.toArray 0):=by
  rw[← sz]
  exact LL _ rfl
 show wpAny _ _ _ _ _ { s with heap:=((s.heap.push (seqObj "list" #[] 0)).update s.heap.objs.size (Obj.mapSeq (· ++ ws.toArray))).push (seqObj "list" ws.toArray 0) }
 rw[sz]
 exact Lp (wpAny_holding (wpAny_call_entry slot_list_sort ⟨_,at1,rfl⟩ entry_list_sort
  (uX at1 few ⟨_,rfl,LG ⟨_,rfl,go⟩⟩) (args_list_sort _)))
end
theorem bW{h:Heap}{ws:List Value}{out:Array Value}:∀ b o,h.get? b=some o→(sortedAll h ws out).get? b=some o:=fun b o e=>by
 have hb:=LD e
 have sz:((h.push (seqObj "list" #[] 0)).update h.objs.size (Obj.mapSeq (· ++ ws.toArray))).objs.size=h.objs.size+1:=by rw[OG,size_push']
 have e1:(((h.push (seqObj "list" #[] 0)).update h.objs.size (Obj.mapSeq (· ++ ws.toArray))).push (seqObj "list" ws.toArray 0)).get? b=some o :=
  Lq _ (by rw[Og _ _ _ _ (Md hb)];exact Lq _ e)
 unfold sortedAll sortedHeap
 have nb:b≠h.objs.size+1:=Md (Nat.lt_succ_of_lt hb)
 rw[Og _ _ _ _ nb]
 refine Lq _ (Lq _ ?_)
 rw[Og _ _ _ _ nb]
 exact e1
theorem fG{h:Heap}{ws:List Value}{out:Array Value}:∃ n,(sortedAll h ws out).get? (h.objs.size+1)=some (seqObj "list" out n):=by
 have sz:((h.push (seqObj "list" #[] 0)).update h.objs.size (Obj.mapSeq (· ++ ws.toArray))).objs.size=h.objs.size+1:=by rw[OG,size_push']
 have at1:(((h.push (seqObj "list" #[] 0)).update h.objs.size (Obj.mapSeq (· ++ ws.toArray))).push (seqObj "list" ws.toArray 0)).get? (h.objs.size+1)=some (seqObj "list" ws.toArray 0):=by
  rw[← sz]
  exact LL _ rfl
 obtain⟨ep,bare⟩:∃ ep,((((h.push (seqObj "list" #[] 0)).update h.objs.size (Obj.mapSeq (· ++ ws.toArray))).push (seqObj "list" ws.toArray 0)).update (h.objs.size+1) (Obj.mapSeq fun _=>#[])).get? (h.objs.size+1)=some (seqObj "list" #[] ep):=⟨_,get?_update_seq at1 _⟩
 unfold sortedAll sortedHeap
 exact⟨_,get?_update_seq (Lq _ (Lq _ bare)) _⟩
theorem oH{X:Cx}:A6 X (.builtin "sorted") (fun xs H Q=>∃ l ys,xs=[.ref l]∧SqL X.K H l ys∧ys.length<2∧∀ p,H p=none→Q (.ref p) (upd H p (.lst ys))):=by
 intro pins s σ H xs us Q I rv h
 obtain⟨l,ys,rfl,hl,few,q⟩:=h
 obtain⟨u,rfl,ru⟩:=i7.one rv
 obtain rfl:u=Value.ref l:=ru
 obtain⟨its,rl,⟨ol,nl,hl1,hl2,_,hl3⟩,hz⟩:=I.list hl
 refine nG (ws:=its) ⟨ol,hl1,hl2,nl,hl3⟩ (by rw[← rl.length];exact few) ?_
 obtain⟨n,hn⟩:=fG (h:=s.heap) (ws:=its) (out:=its.toArray)
 exact⟨.ref (s.heap.objs.size+1),_,I.laid (t':=s.toks) (o:=.lst ys) bW (Nat.le_succ _) ⟨hz,its,n,rl,hn⟩,rfl,q _ (I.hok.fresh (Nat.le_succ _))⟩
end L2
namespace DL
open PySem PySem.Spec L2
open PyProof.Rows hiding St
def GB:DRC:=fun ds M R=>∃ x xs,ds=[x]∧N9 M x=some xs∧((xs.length<2∧∀ p,M p=none→R (.ref p) (B9 M p (.lst xs))) ∨
 ∃ i j ra rb,xs=[.tup (.int i :: ra),.tup (.int j :: rb)]∧i≠j∧∀ p,M p=none→R (.ref p) (B9 M p (.lst (if j<i then[.tup (.int j :: rb),.tup (.int i :: ra)]else[.tup (.int i :: ra),.tup (.int j :: rb)]))))
theorem xv{X:Cx}:bb X (.builtin "sorted") GB:=A6.imp (A6.or oH oG) fun xs H Q ⟨ds,M,R,hl,am,⟨x,ys,z,hi,h⟩,f⟩=>by
 subst z
 obtain⟨v,rfl,hv⟩:=hl.one
 obtain⟨a,us,rfl,sq,lx⟩:=C2 am hv hi
 rcases h with⟨few,r⟩|⟨i,j,ra,rb,rfl,ne,r⟩
 ·refine .inl ⟨a,us,rfl,sq,by rw[lx.length];exact few,fun p hp=>f _ _ (r p (am.fresh hp)) _ _ (KT.alloc hp) (am.new hp lx) (.ref p)⟩
 ·cases lx with
  | cons h1 t1 =>
  cases t1 with
  | cons h2 t2 =>
  cases t2
  cases h1 with
  | tup s1 l1 =>
  cases h2 with
  | tup s2 l2 =>
  rename_i a1 x1 a2 x2
  cases l1 with
  | cons g1 l1 =>
  cases l2 with
  | cons g2 l2 =>
  cases g1
  cases g2
  refine .inr ⟨a,a1,a2,i,j,_,_,rfl,sq,s1,s2,ne,fun p hp=>?_⟩
  have rr:=r p (am.fresh hp)
  have t1:Has X.K H (.ref a1) (.tup (.int i :: ra)):=.tup s1 (.cons (.int i) l1)
  have t2:Has X.K H (.ref a2) (.tup (.int j :: rb)):=.tup s2 (.cons (.int j) l2)
  by_cases hji:j<i
  ·rw[if_pos hji]at rr ⊢
   exact f _ _ rr _ _ (KT.alloc hp) (am.new hp (.cons t2 (.cons t1 .nil))) (.ref p)
  ·rw[if_neg hji]at rr ⊢
   exact f _ _ rr _ _ (KT.alloc hp) (am.new hp (.cons t1 (.cons t2 .nil))) (.ref p)
theorem sU:bootBuiltins "sorted" = some (.builtin "sorted"):=by decide +kernel
end DL
namespace GM
open PySem PySem.Spec L2 DL
open RM (sz)
noncomputable abbrev Zr:=Rat × Rat
noncomputable def cr(v w:Zr):Rat:=v.1*w.2 - v.2*w.1
theorem Cd(v w:Zr):cr (ngZ v) (ngZ w)=cr v w:=by unfold cr ngZ;grind
theorem ic(v w:Zr):cr v (ngZ w) = -cr v w:=by unfold cr ngZ;grind
theorem Cc(v w:Zr):cr (ngZ v) w = -cr v w:=by unfold cr ngZ;grind
theorem mT(v w:Zr):cr v w = -cr w v:=by unfold cr;grind
theorem kg(v:Zr):cr v v=0:=by unfold cr;grind
theorem cV(v:Zr):ngZ (ngZ v)=v:=by unfold ngZ;show(- -v.1,- -v.2)=v;rw[OD,OD]
theorem Hd{a b c:T3}(h1:ve a b≠0)(h2:ve b c≠0):ve a b*ve b c*cr (ry a b) (ry b c)=b.2.2*tn a b c:=by
 obtain⟨e1,e2⟩:=gO h1
 obtain⟨e3,e4⟩:=gO h2
 have:ve a b*ve b c*cr (ry a b) (ry b c)=(ve a b*(ry a b).1)*(ve b c*(ry b c).2) - (ve a b*(ry a b).2)*(ve b c*(ry b c).1):=by unfold cr;grind
 rw[this,e1,e2,e3,e4]
 unfold tn ve
 grind
theorem GN{a b c:T3}(h:T3)(h1:ve a b≠0)(h2:ve b c≠0):ve a b*ve b c*(dt h (ry a b) - dt h (ry b c))=ve h b*tn a b c:=by
 obtain⟨e1,e2⟩:=gO h1
 obtain⟨e3,e4⟩:=gO h2
 have:ve a b*ve b c*(dt h (ry a b) - dt h (ry b c))=ve b c*(h.1*(ve a b*(ry a b).1)+h.2.1*(ve a b*(ry a b).2)) - ve a b*(h.1*(ve b c*(ry b c).1)+h.2.1*(ve b c*(ry b c).2)):=by unfold dt;grind
 rw[this,e1,e2,e3,e4]
 unfold tn ve
 grind
theorem xc(s:T3)(v w x:Zr):cr v w*dt s x=cr x w*dt s v+cr v x*dt s w:=by unfold dt cr;grind
theorem mp{a b:Rat}(h1:0<a)(h2:0<b):0<a*b:=MC h1 h2
theorem Q1{v x:Rat}(hv:0<v)(h:0<v*x):0<x:=by
 rcases tot x 0 with z|z
 ·have:0≤v*(-x):=LC (G0 hv) (by grind)
  grind
 ·by_cases e:x=0
  ·rw[e]at h;grind
  ·grind
structure Cn2(ss:List T3)(x:Zr):Prop where
 sup:Sup ss x
 two:∃ s t,s∈ss∧t∈ss∧ve s t≠0∧dt s x=s.2.2∧dt t x=t.2.2
theorem Cn2.ng{ss:List T3}(sy:∀ s∈ss,ng s∈ss){x:Zr}(h:Cn2 ss x):Cn2 ss (ngZ x):=by
 obtain⟨hs,s,t,ms,mt,hv,es,et⟩:=h
 refine⟨bg sy hs,GM.ng s,GM.ng t,sy s ms,sy t mt,?_,?_,?_⟩
 ·have:ve (GM.ng s) (GM.ng t)=ve s t:=by unfold ve GM.ng;grind
  rw[this];exact hv
 ·have:dt (GM.ng s) (ngZ x)=dt s x:=by unfold dt GM.ng ngZ;grind
  rw[this,es];rfl
 ·have:dt (GM.ng t) (ngZ x)=dt t x:=by unfold dt GM.ng ngZ;grind
  rw[this,et];rfl
theorem FL{u x y:Rat}(hu:0<u)(h:x*u≤y*u):x≤y:=by
 have:0≤u*(y - x):=by grind
 have:=C8 hu this
 grind
theorem wq{ss:List T3}(pos:∀ s∈ss,0<s.2.2){b:T3}{v w:Zr}(hb:b∈ss)(bv:dt b v=b.2.2)(bw:dt b w=b.2.2)(sv:Sup ss v)(sw:Sup ss w)(hc:0<cr v w){x:Zr}(hx:Cn2 ss x)(h1:0<cr v x):x=w∨0<cr w x:=by
 by_cases h2:0<cr w x
 ·exact .inr h2
 left
 obtain⟨sx,s,t,ms,mt,hv,es,et⟩:=hx
 have h3:0≤cr x w:=by rw[mT];grind
 have hle:cr x w+cr v x≤cr v w:=by
  have e:=xc b v w x
  rw[bv,bw]at e
  have r:=pos b hb
  have q:=sx b hb
  have:cr v w*dt b x≤cr v w*b.2.2:=by
   have:0≤cr v w*(b.2.2 - dt b x):=LC (G0 hc) (by grind)
   grind
  refine FL r ?_
  grind
 have key:∀ s∈ss,dt s x=s.2.2→dt s w=s.2.2:=fun s ms es=>by
  have e:=xc s v w x
  rw[es]at e
  have r:=pos s ms
  have q1:=sv s ms
  have q2:=sw s ms
  have p1:0≤cr x w*(s.2.2 - dt s v):=LC h3 (by grind)
  have p2:0≤cr v x*(s.2.2 - dt s w):=LC (G0 h1) (by grind)
  have p3:0≤(cr v w - (cr x w+cr v x))*s.2.2:=LC (by grind) (G0 r)
  have p4:cr v x*(s.2.2 - dt s w)=0:=by grind
  grind
 have e1:=key s ms es
 have e2:=key t mt et
 rw[aI hv es et,aI hv e1 e2]
structure L0(ss:List T3)(A:Nat→T3)(k:Nat):Prop where
 two:2≤k
 sy:∀ s∈ss,ng s∈ss
 pos:∀ s∈ss,0<s.2.2
 mem:∀ i,i≤k+1→A i∈ss
 ve:∀ i,i≤k→0<ve (A i) (A (i+1))
 sup:∀ i,i≤k→Sup ss (ry (A i) (A (i+1)))
 tn:∀ i,i<k→0<tn (A i) (A (i+1)) (A (i+2))
 up:∀ i,1≤i→i<k→0<GM.ve (A 0) (A i)
 lst:A k=ng (A 0)
 lst1:A (k+1)=ng (A 1)
noncomputable def rA(A:Nat→T3)(i:Nat):Zr:=ry (A i) (A (i+1))
section
variable {ss:List T3} {A:Nat→T3} {k:Nat}
theorem L0.rk(R:L0 ss A k):rA A k=ngZ (rA A 0):=by
 unfold rA;rw[R.lst,R.lst1,gN]
theorem L0.cn(R:L0 ss A k){i:Nat}(h:i≤k):Cn2 ss (rA A i) :=
 ⟨R.sup i h,A i,A (i+1),R.mem i (by omega),R.mem (i+1) (by omega),t6 (R.ve i h),fQ (t6 (R.ve i h)),eG (t6 (R.ve i h))⟩
theorem L0.cr(R:L0 ss A k){i:Nat}(h:i<k):0<cr (rA A i) (rA A (i+1)):=by
 have v1:=R.ve i (by omega)
 have v2:=R.ve (i+1) (by omega)
 have e:=Hd (t6 v1) (t6 v2)
 have p:0<(A (i+1)).2.2*GM.tn (A i) (A (i+1)) (A (i+2)):=mp (R.pos _ (R.mem _ (by omega))) (R.tn i h)
 rw[← e]at p
 exact Q1 (mp v1 v2) p
theorem L0.nxt(R:L0 ss A k){i:Nat}(h:i<k){x:Zr}(hx:Cn2 ss x)(h1:0<GM.cr (rA A i) x):x=rA A (i+1)∨0<GM.cr (rA A (i+1)) x :=
 wq R.pos (b:=A (i+1)) (R.mem _ (by omega)) (eG (t6 (R.ve i (by omega)))) (fQ (t6 (R.ve (i+1) (by omega)))) (R.sup i (by omega)) (R.sup (i+1) (by omega)) (R.cr h) hx h1
theorem L0.down(R:L0 ss A k){i:Nat}(h:i+1<k):dt (A 0) (rA A (i+1))<dt (A 0) (rA A i):=by
 have v1:=R.ve i (by omega)
 have v2:=R.ve (i+1) (by omega)
 have e:=GN (A 0) (t6 v1) (t6 v2)
 have p:0<GM.ve (A 0) (A (i+1))*GM.tn (A i) (A (i+1)) (A (i+2)):=mp (R.up (i+1) (by omega) h) (R.tn i (by omega))
 rw[← e]at p
 have:=Q1 (mp v1 v2) p
 unfold rA
 grind
theorem L0.down2(R:L0 ss A k):∀{i j:Nat},i<j→j<k→dt (A 0) (rA A j)<dt (A 0) (rA A i):=fun{i j}=>by
 induction j with
 | zero=>intro h;omega
 | succ j ih =>
  intro h1 h2
  have:=R.down h2
  by_cases e:i=j
  ·rw[e];exact this
  ·have:=ih (by omega) (by omega)
   grind
theorem L0.up0(R:L0 ss A k):∀{i:Nat},1≤i→i<k→0<GM.cr (rA A 0) (rA A i):=fun{i}=>by
 induction i with
 | zero=>intro h;omega
 | succ i ih =>
  intro _ h2
  by_cases e:i=0
  ·rw[e];exact R.cr (by omega)
  have h:=ih (by omega) (by omega)
  by_cases hc:0<GM.cr (rA A 0) (rA A (i+1))
  ·exact hc
  exfalso
  have hx:Cn2 ss (ngZ (rA A 0)):=(R.cn (Mn _)).ng R.sy
  have e1:GM.cr (rA A i) (ngZ (rA A 0))=GM.cr (rA A 0) (rA A i):=by rw[ic,mT];grind
  have e2:GM.cr (rA A (i+1)) (ngZ (rA A 0))=GM.cr (rA A 0) (rA A (i+1)):=by rw[ic,mT];grind
  rcases R.nxt (i:=i) (by omega) hx (by rw[e1];exact h)with z|z
  ·have ek:GM.cr (rA A (k - 1)) (ngZ (rA A 0))=GM.cr (rA A 0) (rA A (k - 1)):=by rw[ic,mT];grind
   have ck:=R.cr (i:=k - 1) (by have:=R.two;omega)
   rw[show k - 1+1=k by have:=R.two;omega,R.rk]at ck
   have l0:dt (A 0) (ngZ (rA A 0)) = -dt (A 0) (rA A 0):=by unfold dt ngZ;grind
   have l1:dt (A 0) (rA A 0)=(A 0).2.2:=fQ (t6 (R.ve 0 (by omega)))
   have lk:dt (A 0) (rA A (k - 1)) = -(A 0).2.2:=by
    have:=eG (t6 (R.ve (k - 1) (by omega)))
    rw[show k - 1+1=k by have:=R.two;omega,R.lst]at this
    have e3:dt (ng (A 0)) (ry (A (k - 1)) (ng (A 0))) = -dt (A 0) (ry (A (k - 1)) (ng (A 0))):=by unfold dt ng;grind
    rw[e3]at this
    have e4:(ng (A 0)).2.2=(A 0).2.2:=rfl
    rw[e4]at this
    unfold rA
    rw[show k - 1+1=k by have:=R.two;omega,R.lst]
    grind
   rw[z,l1]at l0
   by_cases ei:i+1=k - 1
   ·rw[← ei,← z,kg]at ck;grind
   ·have:=R.down2 (i:=i+1) (j:=k - 1) (by omega) (by omega)
    grind
  ·rw[e2]at z;exact hc z
end
noncomputable def nth(L:List Zr)(i:Nat):Zr:=L.getD (i % L.length) (0,0)
structure Chn(L:List Zr):Prop where
 cr:∀ i,0<cr (nth L i) (nth L (i+1))
 nxt:∀ i,∀ x∈L,0<GM.cr (nth L i) x→x=nth L (i+1)∨0<GM.cr (nth L (i+1)) x
 nd:∀ i j,i<j→j<L.length→nth L i≠nth L j
theorem J3{L:List Zr}(h:L≠[])(i:Nat):nth L i∈L:=by
 have hl:0<L.length:=MG.mpr h
 unfold nth
 rw[LF,LJ (MM _ hl)]
 exact Na _
theorem Hk{L M:List Zr}(hL:Chn L)(hM:Chn M)(nL:L≠[])(nM:M≠[])(hs:∀ z,z∈L↔z∈M)(h0:nth L 0=nth M 0):L=M:=by
 have same:∀ i,nth L i=nth M i:=fun i=>by
  induction i with
  | zero=>exact h0
  | succ i ih =>
   have a1:=hL.cr i
   have a2:=hM.cr i
   rw[← ih]at a2
   have b1:=hL.nxt i (nth M (i+1)) ((hs _).mpr (J3 nM _)) a2
   have b2:=hM.nxt i (nth L (i+1)) ((hs _).mp (J3 nL _)) (by rw[← ih];exact a1)
   rcases b1 with e|b1
   ·exact e.symm
   ·rcases b2 with e|b2
    ·exact e
    ·rw[mT]at b2;grind
 have pL:0<L.length:=MG.mpr nL
 have pM:0<M.length:=MG.mpr nM
 have per:∀(K:List Zr),nth K K.length=nth K 0:=fun K=>by unfold nth;rw[Nat.mod_self,Nat.zero_mod]
 have ll:L.length=M.length:=by
  rcases Nat.lt_trichotomy L.length M.length with h|h|h
  ·exact absurd (by rw[← same 0,← same L.length,per L]) (hM.nd 0 L.length pL h)
  ·exact h
  ·exact absurd (by rw[same 0,same M.length,per M]) (hL.nd 0 M.length pM h)
 refine NR ll fun i h1 h2=>?_
 have:=same i
 unfold nth at this
 rw[Mr h1,Mr h2,LF,LF,LJ h1,LJ h2]at this
 exact this
theorem wj{L:List Zr}{i:Nat}(h:i<L.length):nth L i=L[i]:=by
 unfold nth
 rw[Mr h,LF,LJ h];rfl
theorem E5(L:List Zr){n:Nat}(hn:n<L.length)(i:Nat):nth (L.drop n++L.take n) i=nth L (i+n):=by
 have hl:(L.drop n++L.take n).length=L.length:=by rw[LQ,Mi,Ma];omega
 have hi:i % L.length<L.length:=MM _ (by omega)
 unfold nth
 rw[hl,LF,LF]
 congr 1
 rw[show(i+n) % L.length=(i % L.length+n) % L.length by rw[OW]]
 generalize i % L.length=j at *
 by_cases c:j<L.length - n
 ·rw[MQ (by rw[Mi];exact c),List.getElem?_drop,Mr (by omega),Nat.add_comm]
 ·rw[Mx (by rw[Mi];omega),Mi,Ou (by omega),show(j+n) % L.length=j+n - L.length by rw[Pz (by omega),Mr (by omega)]]
  congr 1;omega
theorem Chn.rot{L:List Zr}(h:Chn L){n:Nat}(hn:n<L.length):Chn (L.drop n++L.take n):=by
 have hl:(L.drop n++L.take n).length=L.length:=by rw[LQ,Mi,Ma];omega
 have hm:∀ z,z∈L.drop n++L.take n↔z∈L:=fun z=>by rw[LR,Or.comm,← LR,NO]
 refine⟨fun i=>?_,fun i x hx h1=>?_,fun i j h1 h2=>?_⟩
 ·rw[E5 L hn,E5 L hn,show i+1+n=i+n+1 by omega];exact h.cr _
 ·rw[E5 L hn]at h1
  rw[E5 L hn,show i+1+n=i+n+1 by omega]
  exact h.nxt _ x ((hm x).mp hx) h1
 ·rw[E5 L hn,E5 L hn]
  rw[hl]at h2
  have md:∀ a,a<L.length→nth L (a+n)=if a+n<L.length then nth L (a+n)else nth L (a+n - L.length):=fun a ha=>by
   split
   ·rfl
   ·unfold nth
    rw[Pz (by omega)]
  rw[md i (by omega),md j h2]
  split<;>split
  ·exact h.nd _ _ (by omega) (by omega)
  ·exact fun e=>h.nd (j+n - L.length) (i+n) (by omega) (by omega) e.symm
  ·omega
  ·exact h.nd _ _ (by omega) (by omega)
noncomputable def F8(A:Nat→T3)(k:Nat):List Zr:=(MJ k).map (rA A)++(MJ k).map fun i=>ngZ (rA A i)
noncomputable def vA(A:Nat→T3)(k j:Nat):Zr:=if j<k then rA A j else ngZ (rA A (j - k))
section
variable {ss:List T3} {A:Nat→T3} {k:Nat}
theorem aK:(F8 A k).length=2*k:=by unfold F8;rw[LQ,Lr,Lr,MV];omega
theorem E3(hk:0<k)(i:Nat):nth (F8 A k) i=vA A k (i % (2*k)):=by
 have hi:i % (2*k)<2*k:=MM _ (by omega)
 unfold nth
 rw[aK,LF]
 generalize i % (2*k)=j at *
 unfold F8 vA
 split
 ·rename_i h
  rw[MQ (by rw[Lr,MV];exact h),LS,Pl h];rfl
 ·rename_i h
  rw[Mx (by rw[Lr,MV];omega),Lr,MV,LS,Pl (by omega)];rfl
theorem L0.v1(R:L0 ss A k){j:Nat}(_h:j<2*k):vA A k (if j+1=2*k then 0 else j+1)=if j<k then rA A (j+1)else ngZ (rA A (j+1 - k)):=by
 have h2:=R.two
 unfold vA
 by_cases h1:j+1=2*k
 ·rw[if_pos h1,if_pos (by omega),if_neg (by omega),show j+1 - k=k by omega,R.rk,cV]
 ·rw[if_neg h1]
  by_cases h3:j+1<k
  ·rw[if_pos h3,if_pos (by omega)]
  ·rw[if_neg h3]
   by_cases h4:j<k
   ·rw[if_pos h4,show j+1=k by omega,R.rk,Nat.sub_self]
   ·rw[if_neg h4]
theorem mJ{i n:Nat}(hn:0<n):(i+1) % n=if i % n+1=n then 0 else i % n+1:=by
 have h:=MM i hn
 rw[← OW]
 split
 ·rename_i e;rw[e,Nat.mod_self]
 ·exact Mr (by omega)
theorem qt(R:L0 ss A k){x:Zr}(h:x∈F8 A k):Cn2 ss x:=by
 unfold F8 at h
 rcases LR.mp h with h|h
 ·obtain⟨i,hi,rfl⟩:=Lv.mp h
  exact R.cn (by have:=Ol.mp hi;omega)
 ·obtain⟨i,hi,rfl⟩:=Lv.mp h
  exact(R.cn (by have:=Ol.mp hi;omega)).ng R.sy
theorem L0.chn(R:L0 ss A k):Chn (F8 A k):=by
 have h2:=R.two
 have st:∀ i,nth (F8 A k) (i+1)=if i % (2*k)<k then rA A (i % (2*k)+1)else ngZ (rA A (i % (2*k)+1 - k)):=fun i=>by
  rw[E3 (by omega),mJ (by omega),R.v1 (MM _ (by omega))]
 refine⟨fun i=>?_,fun i x hx h1=>?_,fun i j hij hj=>?_⟩
 ·rw[E3 (by omega),st]
  have hi:i % (2*k)<2*k:=MM _ (by omega)
  generalize i % (2*k)=j at *
  unfold vA
  by_cases h:j<k
  ·rw[if_pos h,if_pos h];exact R.cr h
  ·rw[if_neg h,if_neg h,Cd,show j+1 - k=j - k+1 by omega];exact R.cr (by omega)
 ·have cx:=qt R hx
  rw[E3 (by omega)]at h1
  rw[st]
  have hi:i % (2*k)<2*k:=MM _ (by omega)
  generalize i % (2*k)=j at *
  unfold vA at h1
  by_cases h:j<k
  ·rw[if_pos h]at h1
   rw[if_pos h]
   exact R.nxt h cx h1
  ·rw[if_neg h]at h1
   rw[if_neg h,show j+1 - k=j - k+1 by omega]
   have e1:GM.cr (rA A (j - k)) (ngZ x)=GM.cr (ngZ (rA A (j - k))) x:=by rw[ic,Cc]
   have e2:GM.cr (rA A (j - k+1)) (ngZ x)=GM.cr (ngZ (rA A (j - k+1))) x:=by rw[ic,Cc]
   rcases R.nxt (i:=j - k) (by omega) (cx.ng R.sy) (by rw[e1];exact h1)with z|z
   ·left;rw[← z,cV]
   ·right;rw[← e2];exact z
 ·rw[aK]at hj
  rw[E3 (by omega),E3 (by omega),Mr (by omega),Mr hj]
  have inj:∀{a b:Nat},a<b→b<k→rA A a≠rA A b:=fun{a b} h1 h2 e=>by
   have:=R.down2 h1 h2
   rw[e]at this;grind
  have nz:∀{a b:Nat},a<k→b<k→rA A a≠ngZ (rA A b):=fun{a b} h1 h2 e=>by
   have ca:GM.cr (rA A 0) (rA A a)=GM.cr (rA A 0) (ngZ (rA A b)):=by rw[← e]
   rw[ic]at ca
   by_cases a0:a=0
   ·by_cases b0:b=0
    ·have c1:=R.cr (i:=0) (by omega)
     have e':rA A 0=ngZ (rA A 0):=by rw[a0,b0]at e;exact e
     have z1:(rA A 0).1 = -(rA A 0).1:=congrArg Prod.fst e'
     have z2:(rA A 0).2 = -(rA A 0).2:=congrArg Prod.snd e'
     unfold GM.cr at c1
     have y1:(rA A 0).1=0:=by grind
     have y2:(rA A 0).2=0:=by grind
     rw[y1,y2]at c1;grind
    ·have:=R.up0 (i:=b) (by omega) h2
     rw[a0,kg]at ca;grind
   ·have p:=R.up0 (i:=a) (by omega) h1
    by_cases b0:b=0
    ·rw[b0,kg]at ca;grind
    ·have:=R.up0 (i:=b) (by omega) h2
     grind
  unfold vA
  by_cases c1:i<k
  ·rw[if_pos c1]
   by_cases c2:j<k
   ·rw[if_pos c2];exact inj hij c2
   ·rw[if_neg c2];exact nz c1 (by omega)
  ·rw[if_neg c1,if_neg (by omega)]
   intro e
   exact inj (a:=i - k) (b:=j - k) (by omega) (by omega) (by rw[← cV (rA A (i - k)),e,cV])
end
theorem qu{h0:Sd}{ss:List Sd}:∀(k:Nat) (a:Sd),∀ ab∈(a :: F4 h0 ss k (C1 a ss)).zip (F4 h0 ss k (C1 a ss)),C1 ab.1 ss=some ab.2
 | 0,a,ab,h=>by
  have:F4 h0 ss 0 (C1 a ss)=[]:=by cases C1 a ss<;>rfl
  rw[this]at h;cases h
 | k+1,a,ab,h=>by
  cases e:C1 a ss with
  | none=>rw[e]at h;cases h
  | some f =>
   rw[e]at h
   have e2:F4 h0 ss (k+1) (some f)=if 0<veZ h0 f then f :: F4 h0 ss k (C1 f ss)else[]:=rfl
   rw[e2]at h
   split at h
   ·rw[Px]at h
    rcases Lz.mp h with rfl|h
    ·exact e
    ·exact qu k f ab h
   ·cases h
theorem vF{h0:Sd}{ss:List Sd}:∀(k:Nat) (o:Option Sd),∀ s∈F4 h0 ss k o,0<veZ h0 s
 | 0,o,s,h=>by cases h
 | k+1,none,s,h=>by cases h
 | k+1,some f,s,h=>by
  have e2:F4 h0 ss (k+1) (some f)=if 0<veZ h0 f then f :: F4 h0 ss k (C1 f ss)else[]:=rfl
  rw[e2]at h
  split at h
  ·rename_i hv
   rcases Lz.mp h with rfl|h
   ·exact hv
   ·exact vF k _ s h
  ·cases h
noncomputable def kp(s:Sd):Rat:=(s.1:Rat) / (s.2.2.1:Rat)
noncomputable def kq(s:Sd):Rat:=(s.2.1:Rat) / (s.2.2.1:Rat)
def Lx(t f:Sd):Prop:=kp t<kp f∨(kp t=kp f∧kq t≤kq f)
theorem Lx.trans{a b c:Sd}(h:Lx a b)(g:Lx b c):Lx a c:=by unfold Lx at *;grind
theorem uT{a b x y:Int}(hx:0<x)(hy:0<y):((a*y - b*x:Int):Rat)=((a:Rat) / (x:Rat) - (b:Rat) / (y:Rat))*((x:Rat)*(y:Rat)):=by
 have h1:(0:Rat)<(x:Rat):=t5.mpr hx
 have h2:(0:Rat)<(y:Rat):=t5.mpr hy
 rw[MT,LI,LI]
 grind
theorem sgn{a b x y:Int}(hx:0<x)(hy:0<y):(0<a*y - b*x↔(b:Rat) / (y:Rat)<(a:Rat) / (x:Rat))∧(a*y - b*x=0↔(b:Rat) / (y:Rat)=(a:Rat) / (x:Rat)):=by
 have e:=uT (a:=a) (b:=b) hx hy
 have p:(0:Rat)<(x:Rat)*(y:Rat):=MC (t5.mpr hx) (t5.mpr hy)
 generalize a*y - b*x=n at *
 generalize (a:Rat) / (x:Rat)=u at *
 generalize (b:Rat) / (y:Rat)=v at *
 generalize (x:Rat)*(y:Rat)=c at *
 constructor
 ·rw[← t5,e]
  constructor
  ·intro h
   have:=Q1 p (x:=u - v) (by grind)
   grind
  ·intro h
   have:=MC p (show 0<u - v by grind)
   grind
 ·constructor
  ·intro h
   rw[h]at e
   have e:(0:Rat)=(u - v)*c:=e
   grind
  ·intro h
   rw[h]at e
   have e:(n:Rat)=0:=by rw[e];grind
   exact_mod_cast e
theorem Ac{s f:Sd}(hs:0<s.2.2.1)(hf:0<f.2.2.1):(E6 s f=true→Lx f s)∧(¬ E6 s f=true→Lx s f):=by
 obtain⟨a1,a2⟩:=sgn (a:=s.1) (b:=f.1) hs hf
 obtain⟨b1,b2⟩:=sgn (a:=s.2.1) (b:=f.2.1) hs hf
 have k1:kp s=(s.1:Rat) / (s.2.2.1:Rat):=rfl
 have k2:kp f=(f.1:Rat) / (f.2.2.1:Rat):=rfl
 have k3:kq s=(s.2.1:Rat) / (s.2.2.1:Rat):=rfl
 have k4:kq f=(f.2.1:Rat) / (f.2.2.1:Rat):=rfl
 rw[← k1,← k2]at a1 a2
 rw[← k3,← k4]at b1 b2
 unfold E6 Lx
 by_cases c:s.1*f.2.2.1 - f.1*s.2.2.1=0
 ·rw[if_pos c,decide_eq_true_eq]
  have:=a2.mp c
  constructor
  ·intro h;have:=b1.mp h;grind
  ·intro h;rw[b1]at h;grind
 ·rw[if_neg c,decide_eq_true_eq]
  rw[a2]at c
  constructor
  ·intro h;have:=a1.mp h;grind
  ·intro h;rw[a1]at h;grind
theorem cU:∀(ss:List Sd) (f t:Sd),(∀ s∈ss,0<s.2.2.1)→0<f.2.2.1→(t∈ss∨Lx t f)→Lx t (A4 ss f)
 | [],f,t,_,_,h=>by
  rcases h with h|h
  ·cases h
  ·exact h
 | s :: r,f,t,hp,hf,h=>by
  have hs:=hp s Ly
  obtain⟨j1,j2⟩:=Ac hs hf
  have e:A4 (s :: r) f=A4 r (if E6 s f=true then s else f):=rfl
  rw[e]
  by_cases c:E6 s f=true
  ·rw[if_pos c]
   refine cU r s t (fun x hx=>hp x (Ls _ hx)) hs ?_
   rcases h with h|h
   ·rcases Lz.mp h with rfl|h
    ·exact .inr (.inr ⟨rfl,Od⟩)
    ·exact .inl h
   ·exact .inr (h.trans (j1 c))
  ·rw[if_neg c]
   refine cU r f t (fun x hx=>hp x (Ls _ hx)) hf ?_
   rcases h with h|h
   ·rcases Lz.mp h with rfl|h
    ·exact .inr (j2 c)
    ·exact .inl h
   ·exact .inr h
theorem Gn{a h l:Sd}(pa:0<a.2.2.1)(ph:0<h.2.2.1)(pl:0<l.2.2.1)(la:Lx a h)(ll:Lx l h)(v1:0<veZ a h)(v2:0<veZ h l):tnZ a h l≠0:=fun z=>by
 have ra:(0:Rat)<(a.2.2.1:Rat):=t5.mpr pa
 have rh:(0:Rat)<(h.2.2.1:Rat):=t5.mpr ph
 have rl:(0:Rat)<(l.2.2.1:Rat):=t5.mpr pl
 have V1:(0:Rat)<ve (tri a) (tri h):=by rw[u5];exact t5.mpr v1
 have V2:(0:Rat)<ve (tri h) (tri l):=by rw[u5];exact t5.mpr v2
 have Z:tn (tri a) (tri h) (tri l)=0:=by rw[iD,z];rfl
 have ea:(a.1:Rat)=kp a*(a.2.2.1:Rat):=by unfold kp;grind
 have ea2:(a.2.1:Rat)=kq a*(a.2.2.1:Rat):=by unfold kq;grind
 have eh:(h.1:Rat)=kp h*(h.2.2.1:Rat):=by unfold kp;grind
 have eh2:(h.2.1:Rat)=kq h*(h.2.2.1:Rat):=by unfold kq;grind
 have el:(l.1:Rat)=kp l*(l.2.2.1:Rat):=by unfold kp;grind
 have el2:(l.2.1:Rat)=kq l*(l.2.2.1:Rat):=by unfold kq;grind
 unfold Lx at la ll
 have ve1:ve (tri a) (tri h)=(kp a*kq h - kq a*kp h)*((a.2.2.1:Rat)*(h.2.2.1:Rat)):=by
  unfold ve tri
  show(a.1:Rat)*(h.2.1:Rat) - (a.2.1:Rat)*(h.1:Rat)=_
  rw[ea,ea2,eh,eh2];grind
 have ve2:ve (tri h) (tri l)=(kp h*kq l - kq h*kp l)*((h.2.2.1:Rat)*(l.2.2.1:Rat)):=by
  unfold ve tri
  show(h.1:Rat)*(l.2.1:Rat) - (h.2.1:Rat)*(l.1:Rat)=_
  rw[el,el2,eh,eh2];grind
 have te:tn (tri a) (tri h) (tri l)=((kp h*kq l - kq h*kp l) - (kp a*kq l - kq a*kp l)+(kp a*kq h - kq a*kp h))*((a.2.2.1:Rat)*(h.2.2.1:Rat)*(l.2.2.1:Rat)):=by
  unfold tn ve tri
  show(a.2.2.1:Rat)*((h.1:Rat)*(l.2.1:Rat) - (h.2.1:Rat)*(l.1:Rat)) - (h.2.2.1:Rat)*((a.1:Rat)*(l.2.1:Rat) - (a.2.1:Rat)*(l.1:Rat))+(l.2.2.1:Rat)*((a.1:Rat)*(h.2.1:Rat) - (a.2.1:Rat)*(h.1:Rat))=_
  rw[ea,ea2,eh,eh2,el,el2];grind
 have P3:(0:Rat)<(a.2.2.1:Rat)*(h.2.2.1:Rat)*(l.2.2.1:Rat):=MC (MC ra rh) rl
 have U1:0<kp a*kq h - kq a*kp h:=Q1 (MC ra rh) (by rw[ve1]at V1;grind)
 have U2:0<kp h*kq l - kq h*kp l:=Q1 (MC rh rl) (by rw[ve2]at V2;grind)
 have U3:(kp h*kq l - kq h*kp l) - (kp a*kq l - kq a*kp l)+(kp a*kq h - kq a*kp h)=0:=by
  rw[Z]at te
  have hz:∀ x c:Rat,0<c→0=x*c→x=0:=fun x c h e=>by grind
  exact hz _ _ P3 te
 clear te ve1 ve2 ea ea2 eh eh2 el el2 Z V1 V2 z v1 v2 pa ph pl P3 ra rh rl
 generalize kp a=ap at *
 generalize kq a=aq at *
 generalize kp h=hp at *
 generalize kq h=hq at *
 generalize kp l=lp at *
 generalize kq l=lq at *
 generalize hU:hp*lq - hq*lp=u2 at *
 generalize hV:ap*hq - aq*hp=u1 at *
 have i1:u2*(hp - ap)+u1*(hp - lp)=0:=by grind
 have i2:u2*(hq - aq)+u1*(hq - lq)=0:=by grind
 have g1:ap≤hp:=by grind
 have g2:lp≤hp:=by grind
 have n1:0≤u2*(hp - ap):=LC (G0 U2) (by grind)
 have n2:0≤u1*(hp - lp):=LC (G0 U1) (by grind)
 have y1:u2*(hp - ap)=0:=by grind
 have y2:u1*(hp - lp)=0:=by grind
 have e1:hp=ap:=by grind
 have e2:hp=lp:=by grind
 have g3:aq≤hq:=by grind
 have g4:lq≤hq:=by grind
 have n3:0≤u2*(hq - aq):=LC (G0 U2) (by grind)
 have n4:0≤u1*(hq - lq):=LC (G0 U1) (by grind)
 have y3:u2*(hq - aq)=0:=by grind
 have e3:hq=aq:=by grind
 rw[e1,e3]at hV
 grind
noncomputable def j3(h0:Sd)(l:List Sd):List Sd:=h0 :: l++[g9 h0,g9 (l.headD h0)]
noncomputable def fA(h0:Sd)(l:List Sd)(i:Nat):T3:=tri ((j3 h0 l).getD i h0)
theorem J7{h0:Sd}{l:List Sd}{i:Nat}(h:i<l.length+1):(j3 h0 l).getD i h0=(h0 :: l)[i]'(by rw[LA];exact h):=by
 unfold j3
 rw[LF,MQ (by rw[LA];exact h),LJ];rfl
theorem aa{h0:Sd}{l:List Sd}:(j3 h0 l).getD (l.length+1) h0=g9 h0:=by
 unfold j3
 rw[LF,Mx (by rw[LA];exact LM _),LA,Nat.sub_self];rfl
theorem cY{h0:Sd}{l:List Sd}:(j3 h0 l).getD (l.length+2) h0=g9 (l.headD h0):=by
 unfold j3
 rw[LF,Mx (by rw[LA];omega),LA,show l.length+2 - (l.length+1)=1 by omega];rfl
theorem qQ{h0:Sd}{l:List Sd}{i:Nat}(h:i<l.length+1):((j3 h0 l).getD i h0,(j3 h0 l).getD (i+1) h0)∈(h0 :: l).zip (l++[g9 h0]):=by
 have hz:i<((h0 :: l).zip (l++[g9 h0])).length:=by rw[MU,LA,LQ];show i<min _ (l.length+1);omega
 have e:((h0 :: l).zip (l++[g9 h0]))[i]=((j3 h0 l).getD i h0,(j3 h0 l).getD (i+1) h0):=by
  rw[Nt,J7 h]
  congr 1
  by_cases c:i<l.length
  ·rw[J7 (show i+1<l.length+1 by omega),MH,MW c]
  ·obtain rfl:i=l.length:=by omega
   rw[aa,Nn (LM _)]
   simp
 rw[← e]
 exact Na _
theorem Cs{h0:Sd}{l:List Sd}{i:Nat}(h:i<l.length):((j3 h0 l).getD i h0,(j3 h0 l).getD (i+1) h0)∈(h0 :: l).zip l:=by
 have hz:i<((h0 :: l).zip l).length:=by rw[MU,LA];omega
 have e:((h0 :: l).zip l)[i]=((j3 h0 l).getD i h0,(j3 h0 l).getD (i+1) h0):=by
  rw[Nt,J7 (show i<l.length+1 by omega),J7 (show i+1<l.length+1 by omega),MH]
 rw[← e]
 exact Na _
theorem qk{a b c:Sd}(pa:0<a.2.2.1)(pb:0<b.2.2.1)(pc:0<c.2.2.1)(v1:0<veZ a b)(v2:0<veZ b c)(h:veZ a c≤0):0<tnZ a b c:=by
 unfold tnZ
 have h1:=Nu pa v2
 have h2:=Nu pc v1
 have h3:0≤b.2.2.1 * -veZ a c:=Nm (by omega) (by omega)
 rw[Pk]at h3
 omega
theorem CK{ss:List Sd}(hp:∀ s∈ss,0<s.2.2.1){a b c:Sd}(ha:a∈ss)(hc:c∈ss)(e:C1 a ss=some b)(v2:0<veZ b c):0<tnZ a b c:=by
 obtain⟨mb,v1,h3⟩:=(aN (h:=a) hp).yes b e
 by_cases h:0<veZ a c
 ·obtain⟨q1,q2⟩:=h3 c hc h
  rcases OQ 0 (tnZ a b c)with z|z
  ·exact z
  ·have:=q2 (by omega);omega
 ·exact qk (hp a ha) (hp b mb) (hp c hc) v1 v2 (by omega)
theorem BG{ls:List T3}(hok:∀ l∈ls,LineOk l){h0 x:Sd}{l:List Sd}(e:t9 (e7 ls)=h0 :: x :: l) :
  L0 ((e7 ls).map tri) (fA h0 (x :: l)) ((x :: l).length+1)∧B0 h0 (x :: l)++(B0 h0 (x :: l)).map ngZ=F8 (fA h0 (x :: l)) ((x :: l).length+1):=by
 have hp:∀ s∈e7 ls,0<s.2.2.1:=ar hok (i:=0)
 have sy:∀ s∈e7 ls,g9 s∈e7 ls:=dX (ls:=ls) (i:=0)
 have hne:ls≠[]:=fun z=>by rw[z]at e;cases e
 obtain⟨g0,m,e',m0,h⟩:=C6 hok hne
 rw[e]at e'
 cases e'
 rcases h with⟨z,_⟩|⟨_,R,hE⟩
 ·cases z
 have nx:(∀ ab∈(h0 :: x :: l).zip (x :: l),C1 ab.1 (e7 ls)=some ab.2)∧(∀ s∈x :: l,0<veZ h0 s)∧∀ t∈e7 ls,Lx t h0:=by
  cases es:e7 ls with
  | nil=>rw[es]at e;cases e
  | cons s r =>
   rw[es]at e hp
   have e2:t9 (s :: r)=A4 (s :: r) s :: F4 (A4 (s :: r) s) (s :: r) (s :: r).length (C1 (A4 (s :: r) s) (s :: r)):=rfl
   rw[e2]at e
   injection e with e3 e4
   have n1:=qu (h0:=A4 (s :: r) s) (ss:=s :: r) (s :: r).length (A4 (s :: r) s)
   have n2:=vF (h0:=A4 (s :: r) s) (ss:=s :: r) (s :: r).length (C1 (A4 (s :: r) s) (s :: r))
   have n3:=fun t ht=>cU (s :: r) s t hp (hp s Ly) (.inl ht)
   rw[e4,e3]at n1
   rw[e4,e3]at n2
   rw[e3]at n3
   exact⟨n1,n2,n3⟩
 obtain⟨nx1,nx2,nx3⟩:=nx
 generalize hL:x :: l=L at *
 have hL1:1≤L.length:=by rw[← hL];exact Nat.succ_le_succ (Mn _)
 have ed:∀ i,i<L.length+1→(j3 h0 L).getD i h0∈e7 ls∧(j3 h0 L).getD (i+1) h0∈e7 ls∧0<veZ ((j3 h0 L).getD i h0) ((j3 h0 L).getD (i+1) h0):=fun i hi=>hE _ (qQ hi)
 have f0:(j3 h0 L).getD 0 h0=h0:=rfl
 have f1:(j3 h0 L).getD 1 h0=L.headD h0:=by rw[← hL];rfl
 have edk:veZ ((j3 h0 L).getD (L.length+1) h0) ((j3 h0 L).getD (L.length+2) h0)=veZ ((j3 h0 L).getD 0 h0) ((j3 h0 L).getD 1 h0):=by
  rw[aa,cY,f0,f1];unfold veZ g9;grind
 have mk1:(j3 h0 L).getD (L.length+2) h0∈e7 ls:=by
  rw[cY,← f1];exact sy _ (ed 0 (by omega)).2.1
 have mem:∀ i,i≤L.length+2→(j3 h0 L).getD i h0∈e7 ls:=fun i hi=>by
  by_cases c:i<L.length+1
  ·exact(ed i c).1
  ·by_cases c2:i=L.length+1
   ·rw[c2];exact(ed L.length (by omega)).2.1
   ·rw[show i=L.length+2 by omega];exact mk1
 have vei:∀ i,i≤L.length+1→0<veZ ((j3 h0 L).getD i h0) ((j3 h0 L).getD (i+1) h0):=fun i hi=>by
  by_cases c:i<L.length+1
  ·exact(ed i c).2.2
  ·rw[show i=L.length+1 by omega,edk];exact(ed 0 (by omega)).2.2
 have sup0:∀ i,i<L.length+1→Sup ((e7 ls).map tri) (ry (fA h0 L i) (fA h0 L (i+1))):=fun i hi=>by
  have hm:=qQ (h0:=h0) (l:=L) hi
  have em:(fA h0 L i,fA h0 L (i+1))∈(tri h0 :: L.map tri).zip (L.map tri++[ng (tri h0)]):=by
   have:(tri h0 :: L.map tri).zip (L.map tri++[ng (tri h0)])=((h0 :: L).zip (L++[g9 h0])).map fun ab=>(tri ab.1,tri ab.2):=by
    rw[← D8,LY,LH,LY,MP,u6]
   rw[this]
   exact Lv.mpr ⟨_,hm,rfl⟩
  exact(R.all _ em).2.2.2
 have lk:fA h0 L (L.length+1)=ng (fA h0 L 0):=by unfold fA;rw[aa,f0,u6]
 have lk1:fA h0 L (L.length+2)=ng (fA h0 L 1):=by unfold fA;rw[cY,f1,u6]
 refine⟨⟨by omega,R.sy,R.pos,fun i hi=>Lv.mpr ⟨_,mem i hi,rfl⟩,fun i hi=>?_,fun i hi=>?_,fun i hi=>?_,fun i h1 h2=>?_,lk,lk1⟩,?_⟩
 ·show 0<ve (tri _) (tri _);rw[u5];exact t5.mpr (vei i hi)
 ·by_cases c:i<L.length+1
  ·exact sup0 i c
  ·rw[show i=L.length+1 by omega,lk,lk1,gN]
   exact bg R.sy (sup0 0 (by omega))
 ·show 0<tn (tri _) (tri _) (tri _)
  rw[iD]
  refine t5.mpr ?_
  by_cases c:i<L.length
  ·exact CK hp (mem i (by omega)) (mem (i+2) (by omega)) (nx1 _ (Cs c)) (vei (i+1) (by omega))
  ·obtain rfl:i=L.length:=by omega
   have q1:=vei L.length (by omega)
   have q2:=vei (L.length+1) (by omega)
   have p1:=hp _ (mem L.length (by omega))
   have p2:=hp _ (mem (L.length+1) (by omega))
   have p3:=hp _ (mem (L.length+2) (by omega))
   by_cases h:veZ ((j3 h0 L).getD L.length h0) ((j3 h0 L).getD (L.length+2) h0)≤0
   ·exact qk p1 p2 p3 q1 q2 h
   ·have ge:0≤tnZ ((j3 h0 L).getD L.length h0) ((j3 h0 L).getD (L.length+1) h0) ((j3 h0 L).getD (L.length+2) h0):=by
     have s:=sup0 L.length (by omega) (fA h0 L (L.length+2)) (Lv.mpr ⟨_,mk1,rfl⟩)
     have V:(0:Rat)<ve (fA h0 L L.length) (fA h0 L (L.length+1)):=by show 0<ve (tri _) (tri _);rw[u5];exact t5.mpr q1
     have t:=lX (t6 V) (fA h0 L (L.length+2))
     have:0≤tn (fA h0 L L.length) (fA h0 L (L.length+1)) (fA h0 L (L.length+2)):=by
      rw[← t];exact LC (G0 V) (by grind)
     have:0≤tn (tri ((j3 h0 L).getD L.length h0)) (tri ((j3 h0 L).getD (L.length+1) h0)) (tri ((j3 h0 L).getD (L.length+2) h0)):=this
     rw[iD]at this
     exact mZ.mp this
    have ne:=Gn (a:=g9 ((j3 h0 L).getD L.length h0)) (h:=h0) (l:=L.headD h0) p1 (hp h0 m0) (hp _ (by rw[← f1];exact(ed 0 (by omega)).2.1)) (nx3 _ (sy _ (mem L.length (by omega)))) (nx3 _ (by rw[← f1];exact(ed 0 (by omega)).2.1)) (by
     rw[aa]at q1
     have:veZ (g9 ((j3 h0 L).getD L.length h0)) h0=veZ ((j3 h0 L).getD L.length h0) (g9 h0):=by unfold veZ g9;grind
     rw[this];exact q1) (by have:=(ed 0 (by omega)).2.2;rw[f0,f1]at this;exact this)
    have eq:tnZ (g9 ((j3 h0 L).getD L.length h0)) h0 (L.headD h0)=tnZ ((j3 h0 L).getD L.length h0) ((j3 h0 L).getD (L.length+1) h0) ((j3 h0 L).getD (L.length+2) h0):=by
     rw[aa,cY];unfold tnZ veZ g9;grind
    rw[eq]at ne
    omega
 ·show 0<ve (tri ((j3 h0 L).getD 0 h0)) (tri _)
  rw[u5,f0,J7 (show i<L.length+1 by omega)]
  obtain⟨j,rfl⟩:∃ j,i=j+1:=⟨i - 1,by omega⟩
  rw[MH]
  exact t5.mpr (nx2 _ (Na _))
 ·have er:B0 h0 L=(MJ (L.length+1)).map (rA (fA h0 L)):=by
   unfold B0
   refine NR (by rw[Lr,Lr,MV,MU,LA,LQ];show min _ (L.length+1)=_;omega) fun i h1 h2=>?_
   rw[Lr,MV]at h2
   rw[PV,PV,List.getElem_range,Nt]
   have g1:=J7 (h0:=h0) (l:=L) h2
   have hB:i<(h0 :: L).length:=by rw[LA];exact h2
   have hA:i<(L++[g9 h0]).length:=by rw[LQ];exact h2
   show ry (tri ((h0 :: L)[i]'hB)) (tri ((L++[g9 h0])[i]'hA))=ry (tri _) (tri _)
   rw[g1]
   congr 2
   by_cases c:i<L.length
   ·rw[J7 (show i+1<L.length+1 by omega),MH,MW c]
   ·obtain rfl:i=L.length:=by omega
    rw[aa,Nn (LM _)]
    simp
  unfold F8
  rw[er,Ms]
  rfl
theorem DT{a b c:Zr}(h:¬ L1 a b=true)(g:¬ L1 b c=true):¬ L1 a c=true:=by
 unfold L1 at *
 split at h<;>split at g<;>split<;>simp only[decide_eq_true_eq]at *<;>grind
theorem DX{a b:Zr}(h:¬ L1 a b=true)(g:¬ L1 b a=true):a=b:=by
 unfold L1 at *
 by_cases e:a.1=b.1
 ·rw[if_pos e,decide_eq_true_eq]at h
  rw[if_pos e.symm,decide_eq_true_eq]at g
  exact Prod.ext e (by grind)
 ·rw[if_neg e,decide_eq_true_eq]at h
  rw[if_neg (fun z=>e z.symm),decide_eq_true_eq]at g
  exact absurd (by grind) e
theorem DV(a:Zr):¬ L1 a a=true:=by
 unfold L1
 rw[if_pos rfl,decide_eq_true_eq];grind
theorem DU{a b:Zr}(h:L1 a b=true):¬ L1 b a=true:=by
 unfold L1 at *
 split at h<;>split<;>simp only[decide_eq_true_eq]at *<;>grind
theorem qw{rs:List Zr}:∀(i:Nat),∀ j,j<i→¬ L1 (rs.getD j (0,0)) (rs.getD (G5 rs i) (0,0))=true
 | 0,j,h=>absurd h (OS j)
 | i+1,j,h=>by
  have ih:=qw (rs:=rs) i
  show ¬ L1 _ (rs.getD (if L1 (rs.getD i (0,0)) (rs.getD (G5 rs i) (0,0))=true then i else G5 rs i) (0,0))=true
  split
  ·rename_i c
   by_cases e:j=i
   ·rw[e];exact DV _
   ·exact DT (ih j (by omega)) (DU c)
  ·rename_i c
   by_cases e:j=i
   ·rw[e];exact c
   ·exact ih j (by omega)
theorem yY{rs:List Zr}(h:rs≠[]):∀ x∈aJ rs,¬ L1 x (nth (aJ rs) 0)=true:=fun x hx=>by
 have hx:=cT.mp hx
 have hp:=eK h rs.length (LM _)
 unfold aJ
 rw[E5 rs hp,Oj,wj hp]
 obtain⟨j,hj,rfl⟩:=NX.mp hx
 have:=qw (rs:=rs) rs.length j hj
 rw[LF,LF,LJ hj,LJ hp]at this
 exact this
structure iA(ls:List T3)(cs:List Zr):Prop where
 ne:cs≠[]
 chn:Chn cs
 low:∀ x∈cs,¬ L1 x (nth cs 0)=true
 mem:∀ z,z∈cs↔Cn2 ((e7 ls).map tri) z
theorem fj{ls:List T3}(hok:∀ l∈ls,LineOk l):(G7 ls=none∧D1 ls) ∨ ∃ cs,G7 ls=some cs∧¬ D1 ls∧iA ls cs:=by
 rcases mV hok with h|⟨cs,e,na,g0,m,R,hm⟩
 ·exact .inl h
 right
 refine⟨cs,e,na,?_⟩
 unfold G7 at e
 cases eh:t9 (e7 ls)with
 | nil=>rw[eh]at e;cases e
 | cons h0 t =>
  cases t with
  | nil=>rw[eh]at e;cases e
  | cons x l =>
   rw[eh]at e
   obtain⟨RC,er⟩:=BG hok eh
   have e:some (aJ (B0 h0 (x :: l)++(B0 h0 (x :: l)).map ngZ))=some cs:=e
   rw[er]at e
   cases e
   have hl:(F8 (fA h0 (x :: l)) ((x :: l).length+1)).length=2*((x :: l).length+1):=aK
   have nn:F8 (fA h0 (x :: l)) ((x :: l).length+1)≠[]:=fun z=>by rw[z]at hl;simp at hl
   have hp:=eK nn _ (LM _)
   refine⟨fun z=>?_,RC.chn.rot hp,yY nn,fun z=>?_⟩
   ·have:nth (F8 (fA h0 (x :: l)) ((x :: l).length+1)) 0∈aJ (F8 (fA h0 (x :: l)) ((x :: l).length+1)):=cT.mpr (J3 nn 0)
    rw[z]at this;cases this
   ·constructor
    ·intro hz;exact qt RC (cT.mp hz)
    ·intro⟨sz,s,t,ms,mt,hv,es,et⟩
     rw[hm]
     rcases tot 0 (ve s t)with q|q
     ·exact R.corner sz ms mt (by grind) es et
     ·exact R.corner sz mt ms (by rw[show ve t s = -ve s t by unfold ve;grind];grind) et es
theorem iA.one{ls ms:List T3}{cs ds:List Zr}(h:iA ls cs)(g:iA ms ds)(e:∀ z,z∈cs↔z∈ds):cs=ds :=
 Hk h.chn g.chn h.ne g.ne e (DX (g.low _ ((e _).mp (J3 h.ne 0))) (h.low _ ((e _).mpr (J3 g.ne 0))))
theorem eps:∀(xs:List (Rat × Rat)),(∀ x∈xs,0≤x.1∧(x.1=0→x.2=0))→∃ e:Rat,0<e∧∀ x∈xs,e*x.2≤x.1∧-(e*x.2)≤x.1
 | [],_=>⟨1,by decide,fun _ h=>nomatch h⟩
 | x :: xs,h=>by
  obtain⟨e,he,hx⟩:=eps xs fun y hy=>h y (Ls _ hy)
  obtain⟨h1,h2⟩:=h x Ly
  by_cases c:x.2=0
  ·refine⟨e,he,fun y hy=>?_⟩
   rcases Lz.mp hy with rfl|hy
   ·rw[c];grind
   ·exact hx y hy
  ·have hp:0<x.1:=by
    by_cases z:x.1=0
    ·exact absurd (h2 z) c
    ·grind
   let m:Rat:=if 0<x.2 then x.2 else -x.2
   have hm:0<m:=by show 0<(if 0<x.2 then x.2 else -x.2);split<;>grind
   have hd:0<x.1 / m:=by
    have e1:x.1 / m*m=x.1:=Mm (t6 hm)
    exact Q1 hm (by rw[NM,e1];exact hp)
   have e1:x.1 / m*m=x.1:=Mm (t6 hm)
   have mle:x.2≤m∧-x.2≤m:=by
    show x.2≤(if 0<x.2 then x.2 else -x.2)∧-x.2≤(if 0<x.2 then x.2 else -x.2)
    split<;>constructor<;>grind
   generalize m=w at *
   have small:∀ f:Rat,0<f→f≤x.1 / w→f*x.2≤x.1∧-(f*x.2)≤x.1:=fun f f0 f1=>by
    have a1:0≤f*(w - x.2):=LC (G0 f0) (by grind)
    have a2:0≤f*(w+x.2):=LC (G0 f0) (by grind)
    have a3:0≤(x.1 / w - f)*w:=LC (by grind) (G0 hm)
    constructor<;>grind
   have scale:∀ f:Rat,0<f→f≤e→∀ y∈xs,f*y.2≤y.1∧-(f*y.2)≤y.1:=fun f f0 f1 y hy=>by
    obtain⟨b1,b2⟩:=hx y hy
    have y0:=(h y (Ls _ hy)).1
    rcases tot 0 y.2 with c|c
    ·have a1:0≤(e - f)*y.2:=LC (by grind) c
     have a2:0≤f*y.2:=LC (G0 f0) c
     constructor<;>grind
    ·have a1:0≤(e - f) * -y.2:=LC (by grind) (by grind)
     have a2:0≤f * -y.2:=LC (G0 f0) (by grind)
     constructor<;>grind
   rcases tot e (x.1 / w)with c2|c2
   ·refine⟨e,he,fun y hy=>?_⟩
    rcases Lz.mp hy with rfl|hy
    ·exact small e he c2
    ·exact hx y hy
   ·refine⟨x.1 / w,hd,fun y hy=>?_⟩
    rcases Lz.mp hy with rfl|hy
    ·exact small _ hd Od
    ·exact scale _ hd c2 y hy
noncomputable def AB(z d:Zr)(e:Rat):Zr:=(z.1+e*d.1,z.2+e*d.2)
theorem oz(s:T3)(z d:Zr)(e:Rat):dt s (AB z d e)=dt s z+e*dt s d:=by unfold dt AB;grind
theorem Gk{ss:List T3}(nz:∀ s∈ss,¬ (s.1=0∧s.2.1=0)){z:Zr}(hz:Sup ss z)(hn:¬ ∃ s t,s∈ss∧t∈ss∧ve s t≠0∧dt s z=s.2.2∧dt t z=t.2.2) :
  ∃ d:Zr,¬ (d.1=0∧d.2=0)∧Sup ss (AB z d 1)∧Sup ss (AB z d (-1)):=by
 obtain⟨d,hd,ht⟩:∃ d:Zr,¬ (d.1=0∧d.2=0)∧∀ s∈ss,dt s z=s.2.2→dt s d=0:=by
  by_cases c:∃ s∈ss,dt s z=s.2.2
  ·obtain⟨s,hs,es⟩:=c
   refine⟨(-s.2.1,s.1),fun⟨h1,h2⟩=>nz s hs ⟨h2,by have h1:-s.2.1=0:=h1;grind⟩,fun t ht et=>?_⟩
   by_cases v:ve s t=0
   ·have:dt t (-s.2.1,s.1)=ve s t:=by unfold dt ve;grind
    rw[this,v]
   ·exact absurd ⟨s,t,hs,ht,v,es,et⟩ hn
  ·exact⟨(1,0),fun⟨h,_⟩=>absurd h (by decide),fun s hs es=>absurd ⟨s,hs,es⟩ c⟩
 obtain⟨e,he,hx⟩:=eps (ss.map fun s=>(s.2.2 - dt s z,dt s d)) fun x hx=>by
  obtain⟨s,hs,rfl⟩:=Lv.mp hx
  have:=hz s hs
  exact⟨by show 0≤s.2.2 - dt s z;grind,fun h0=>ht s hs (by have h0:s.2.2 - dt s z=0:=h0;grind)⟩
 have cmul:∀ s:T3,dt s (e*d.1,e*d.2)=e*dt s d:=fun s=>by unfold dt;grind
 refine⟨(e*d.1,e*d.2),fun⟨h1,h2⟩=>hd ⟨?_,?_⟩,fun s hs=>?_,fun s hs=>?_⟩
 ·have h1:e*d.1=0:=h1;grind
 ·have h2:e*d.2=0:=h2;grind
 ·obtain⟨b1,b2⟩:=hx _ (Lv.mpr ⟨s,hs,rfl⟩)
  rw[oz,cmul]
  have b1:e*dt s d≤s.2.2 - dt s z:=b1
  grind
 ·obtain⟨b1,b2⟩:=hx _ (Lv.mpr ⟨s,hs,rfl⟩)
  rw[oz,cmul]
  have b2:-(e*dt s d)≤s.2.2 - dt s z:=b2
  grind
theorem kl{ss tt:List T3}(nz:∀ s∈tt,¬ (s.1=0∧s.2.1=0))(h:∀ z,Sup ss z↔Sup tt z){z:Zr}(hz:Cn2 ss z):Cn2 tt z:=by
 refine⟨(h z).mp hz.sup,?_⟩
 by_cases c:∃ s t,s∈tt∧t∈tt∧ve s t≠0∧dt s z=s.2.2∧dt t z=t.2.2
 ·exact c
 exfalso
 obtain⟨d,hd,s1,s2⟩:=Gk nz ((h z).mp hz.sup) c
 have s1:=(h _).mpr s1
 have s2:=(h _).mpr s2
 obtain⟨s,t,ms,mt,hv,es,et⟩:=hz.two
 have key:∀ s∈ss,dt s z=s.2.2→dt s d=0:=fun s ms es=>by
  have a1:=s1 s ms
  have a2:=s2 s ms
  rw[oz]at a1 a2
  grind
 have k1:=key s ms es
 have k2:=key t mt et
 unfold dt at k1 k2
 unfold ve at hv
 refine hd ⟨?_,?_⟩
 ·have:(s.1*t.2.1 - s.2.1*t.1)*d.1=0:=by
   have:(s.1*t.2.1 - s.2.1*t.1)*d.1=t.2.1*(s.1*d.1+s.2.1*d.2) - s.2.1*(t.1*d.1+t.2.1*d.2):=by grind
   rw[this,k1,k2];grind
  generalize s.1*t.2.1 - s.2.1*t.1=u at *
  grind
 ·have:(s.1*t.2.1 - s.2.1*t.1)*d.2=0:=by
   have:(s.1*t.2.1 - s.2.1*t.1)*d.2=s.1*(t.1*d.1+t.2.1*d.2) - t.1*(s.1*d.1+s.2.1*d.2):=by grind
   rw[this,k1,k2];grind
  generalize s.1*t.2.1 - s.2.1*t.1=u at *
  grind
theorem R9{ls:List T3}(hok:∀ l∈ls,LineOk l):∀ s∈(e7 ls).map tri,¬ (s.1=0∧s.2.1=0):=fun s hs ⟨z1,z2⟩=>by
 obtain⟨t,ht,rfl⟩:=Lv.mp hs
 obtain⟨c,hc,k,ec⟩:=B8 ht
 have cp:=G3 c
 have:(tri (g5 c k)).1=0∧(tri (g5 c k)).2.1=0:=by
  rcases ec with rfl|rfl
  ·exact⟨z1,z2⟩
  ·rw[u6]at z1 z2
   unfold ng at z1 z2
   exact⟨by grind,by grind⟩
 rw[C9]at this
 have t1:c.1*(cbL c:Rat)=0:=this.1
 have t2:c.2.1*(cbL c:Rat)=0:=this.2
 exact(hok c hc).ne ⟨by grind,by grind⟩
theorem oI{ls ms:List T3}(hl:∀ l∈ls,LineOk l)(hm:∀ l∈ms,LineOk l)(h:∀ y u,r9 ls y u=r9 ms y u):G7 ls=G7 ms:=by
 have hs:∀ z,Sup ((e7 ls).map tri) z↔Sup ((e7 ms).map tri) z:=fun z=>by rw[L3,L3,h]
 have no:∀{as bs:List T3},(∀ l∈as,LineOk l)→(∀ l∈bs,LineOk l)→(∀ z,Sup ((e7 as).map tri) z↔Sup ((e7 bs).map tri) z)→D1 bs→∀{cs},iA as cs→False:=fun{as bs} ha hb hh al {cs} c=>by
  have cz:=kl (R9 hb) hh ((c.mem _).mp (J3 c.ne 0))
  obtain⟨s,t,ms,mt,hv,_,_⟩:=cz.two
  obtain⟨s,hs,rfl⟩:=Lv.mp ms
  obtain⟨t,ht,rfl⟩:=Lv.mp mt
  obtain⟨a,ha,i,ea⟩:=B8 hs
  obtain⟨b,hb,j,eb⟩:=B8 ht
  have z0:ve (tri (g5 a i)) (tri (g5 b j))=0:=by rw[ai,al a ha b hb];grind
  refine hv ?_
  have ea':tri s=tri (g5 a i)∨tri s=ng (tri (g5 a i)):=by
   rcases ea with h|h
   ·left;rw[h]
   ·right;rw[h,u6]
  have eb':tri t=tri (g5 b j)∨tri t=ng (tri (g5 b j)):=by
   rcases eb with h|h
   ·left;rw[h]
   ·right;rw[h,u6]
  rcases ea' with h|h<;>rcases eb' with h'|h'<;>(rw[h,h'];clear hv h h';generalize tri (g5 a i)=A at *;generalize tri (g5 b j)=B at *;unfold ve at *;first|exact z0|(unfold ng;grind))
 rcases fj hl with⟨e1,a1⟩|⟨cs,e1,n1,c1⟩
 ·rcases fj hm with⟨e2,a2⟩|⟨ds,e2,n2,c2⟩
  ·rw[e1,e2]
  ·exact(no hm hl (fun z=>(hs z).symm) a1 c2).elim
 ·rcases fj hm with⟨e2,a2⟩|⟨ds,e2,n2,c2⟩
  ·exact(no hl hm hs a2 c1).elim
  ·rw[e1,e2,c1.one c2 fun z=>?_]
   rw[c1.mem,c2.mem]
   exact⟨fun q=>kl (R9 hm) hs q,fun q=>kl (R9 hl) (fun z=>(hs z).symm) q⟩
noncomputable def cb2(p q:Rat):Nat:=B3 (B3 1 p.den) q.den
theorem oM(p q:Rat):cb2 p q=Qs p.den q.den:=by
 unfold cb2;rw[Q3,Q3,Nat.lcm_comm 1,Nat.lcm_one_right]
theorem ko(p q:Rat):0<cb2 p q:=by rw[oM];exact OE p.den_pos q.den_pos
theorem Hj(p q:Rat):p.den ∣ cb2 p q:=by rw[oM];exact NS _ _
theorem Hi(p q:Rat):q.den ∣ cb2 p q:=by rw[oM];exact Oy _ _
noncomputable def wtF(p q:Rat):Int × Int:=(L8 p (cb2 p q),L8 q (cb2 p q))
noncomputable def veW(a:Sd)(w:Int × Int):Int:=a.1*w.2 - a.2.1*w.1
noncomputable def wVe(w:Int × Int)(b:Sd):Int:=w.1*b.2.1 - w.2*b.1
noncomputable def bY(half:List Sd):List Sd:=half++half.map g9
noncomputable def cq(xs:List Sd):List (Sd × Sd):=xs.zip (xs.drop 1++xs.take 1)
noncomputable def aX(w:Int × Int)(f:Option (Sd × Sd))(ab:Sd × Sd):Option (Sd × Sd):=if 0≤veW ab.1 w∧0<wVe w ab.2 then some ab else f
noncomputable def kA(half:List Sd)(w:Int × Int):Option (Sd × Sd):=(cq (bY half)).foldl (aX w) none
theorem ni{w:Int × Int}:∀(l:List (Sd × Sd)) (f:Option (Sd × Sd)),(∀ ab,l.foldl (aX w) f=some ab→f=some ab∨(ab∈l∧0≤veW ab.1 w∧0<wVe w ab.2))∧((f≠none ∨ ∃ ab∈l,0≤veW ab.1 w∧0<wVe w ab.2)→l.foldl (aX w) f≠none)
 | [],f=>⟨fun ab h=>.inl h,fun h=>by
  rcases h with h|⟨ab,h,_⟩
  ·exact h
  ·cases h⟩
 | x :: l,f=>by
  obtain⟨i1,i2⟩:=ni (w:=w) l (aX w f x)
  rw[Ql]
  refine⟨fun ab h=>?_,fun h=>i2 ?_⟩
  ·rcases i1 ab h with e|⟨m,c⟩
   ·unfold aX at e
    split at e
    ·rename_i c;cases e;exact .inr ⟨Ly,c⟩
    ·exact .inl e
   ·exact .inr ⟨Ls _ m,c⟩
  ·by_cases c:0≤veW x.1 w∧0<wVe w x.2
   ·left;unfold aX;rw[if_pos c];exact fun z=>nomatch z
   ·rcases h with h|⟨ab,hm,hc⟩
    ·left;unfold aX;rw[if_neg c];exact h
    ·rcases Lz.mp hm with rfl|hm
     ·exact absurd hc c
     ·exact .inr ⟨ab,hm,hc⟩
theorem rG(l m:List Sd):(l.map g9).zip (m.map g9)=(l.zip m).map fun ab=>(g9 ab.1,g9 ab.2):=D8 g9 l m
theorem qY(h0:Sd)(l:List Sd):cq (bY (h0 :: l))=(h0 :: l).zip (l++[g9 h0])++((h0 :: l).zip (l++[g9 h0])).map fun ab=>(g9 ab.1,g9 ab.2):=by
 unfold cq bY
 have e1:(h0 :: l++(h0 :: l).map g9).drop 1++(h0 :: l++(h0 :: l).map g9).take 1=(l++[g9 h0])++(l++[g9 h0]).map g9:=by
  show(l++(g9 h0 :: l.map g9))++[h0]=_
  rw[LH,LY,MP,qN]
  simp
 rw[e1,List.zip_append (by rw[LA,LQ];rfl),rG]
theorem Rim.arnd{ss:List T3}{h0:T3}{l:List T3}(R:Rim ss h0 l)(w:T3)(hw:¬ (w.1=0∧w.2.1=0)) :
  ∃ ab∈cj h0 l,(0≤ve ab.1 w∧0<ve w ab.2)∨(0≤ve (ng ab.1) w∧0<ve w (ng ab.2)):=by
 have e0:ve w (ng h0)=ve h0 w:=by unfold ve ng;grind
 have e1:ve (ng h0) w = -ve h0 w:=by unfold ve ng;grind
 by_cases c1:0<ve h0 w
 ·obtain⟨ab,hm,k1,k2⟩:=nv h0 l (ng h0) (G0 c1) (by rw[e0];exact c1)
  exact⟨ab,hm,.inl ⟨k1,k2⟩⟩
 by_cases c2:ve h0 w<0
 ·have e2:ve w h0 = -ve h0 w:=by unfold ve;grind
  obtain⟨ab,hm,k1,k2⟩:=nv (w:=w) (ng h0) (l.map ng) h0 (by rw[e1];grind) (by rw[e2];grind)
  have em:ab∈((h0 :: l).map ng).zip ((l++[ng h0]).map ng):=by
   rw[LH,LY,LY,MP,wo];exact hm
  rw[D8]at em
  obtain⟨cd,hcd,rfl⟩:=Lv.mp em
  exact⟨cd,hcd,.inr ⟨k1,k2⟩⟩
 ·have c0:ve h0 w=0:=by grind
  cases l with
  | nil=>exact absurd rfl R.ne
  | cons x l =>
   have hm:(h0,x)∈cj h0 (x :: l):=Ly
   obtain⟨q1,q2,q3,q4⟩:=R.all _ hm
   have q3:0<ve h0 x:=q3
   by_cases k:0<ve w x
   ·exact⟨_,hm,.inl ⟨by show 0≤ve h0 w;rw[c0];exact Od,k⟩⟩
   ·refine⟨_,hm,.inr ⟨by show 0≤ve (ng h0) w;rw[e1,c0];exact Od,?_⟩⟩
    show 0<ve w (ng x)
    have ex:ve w (ng x) = -ve w x:=by unfold ve ng;grind
    rw[ex]
    have hne:ve w x≠0:=fun z=>hw (by
     unfold ve at c0 z q3
     have i1:w.1*(h0.1*x.2.1 - h0.2.1*x.1)=0:=by
      have:w.1*(h0.1*x.2.1 - h0.2.1*x.1)=h0.1*(w.1*x.2.1 - w.2.1*x.1)+x.1*(h0.1*w.2.1 - h0.2.1*w.1):=by grind
      rw[this,z,c0];grind
     have i2:w.2.1*(h0.1*x.2.1 - h0.2.1*x.1)=0:=by
      have:w.2.1*(h0.1*x.2.1 - h0.2.1*x.1)=h0.2.1*(w.1*x.2.1 - w.2.1*x.1)+x.2.1*(h0.1*w.2.1 - h0.2.1*w.1):=by grind
      rw[this,z,c0];grind
     have hv:h0.1*x.2.1 - h0.2.1*x.1≠0:=by grind
     exact⟨by grind,by grind⟩)
    grind
noncomputable def wT(w:Int × Int):T3:=((w.1:Rat),(w.2:Rat),0)
theorem yM(a:Sd)(w:Int × Int):ve (tri a) (wT w)=(veW a w:Rat):=by
 unfold ve tri wT veW
 rw[MT,LI,LI]
theorem yL(w:Int × Int)(b:Sd):ve (wT w) (tri b)=(wVe w b:Rat):=by
 unfold ve tri wT wVe
 rw[MT,LI,LI]
structure Arn(ls:List T3)(w:Int × Int)(a b:Sd):Prop where
 ma:a∈e7 ls
 mb:b∈e7 ls
 ve:0<veZ a b
 sup:Sup ((e7 ls).map tri) (ry (tri a) (tri b))
 ka:0≤veW a w
 kb:0<wVe w b
theorem fo{ls:List T3}(hok:∀ l∈ls,LineOk l){h0 x:Sd}{l:List Sd}(e:t9 (e7 ls)=h0 :: x :: l){w:Int × Int}(hw:¬ (w.1=0∧w.2=0)):∃ a b,kA (h0 :: x :: l) w=some (a,b)∧Arn ls w a b:=by
 have sy:∀ s∈e7 ls,g9 s∈e7 ls:=dX (ls:=ls) (i:=0)
 have hne:ls≠[]:=fun z=>by rw[z]at e;cases e
 obtain⟨g0,m,e',m0,h⟩:=C6 hok hne
 rw[e]at e'
 cases e'
 rcases h with⟨z,_⟩|⟨_,R,hE⟩
 ·cases z
 generalize x :: l=L at *
 have ed:cj (tri h0) (L.map tri)=((h0 :: L).zip (L++[g9 h0])).map fun ab=>(tri ab.1,tri ab.2):=by
  unfold cj
  rw[← D8,LY,LH,LY,MP,u6]
 have hw':¬ ((wT w).1=0∧(wT w).2.1=0):=fun⟨z1,z2⟩=>hw ⟨by have z1:(w.1:Rat)=0:=z1;exact_mod_cast z1,by have z2:(w.2:Rat)=0:=z2;exact_mod_cast z2⟩
 obtain⟨i1,i2⟩:=ni (w:=w) (cq (bY (h0 :: L))) none
 have ex:∃ ab∈cq (bY (h0 :: L)),0≤veW ab.1 w∧0<wVe w ab.2:=by
  obtain⟨ab,hm,hc⟩:=R.arnd (wT w) hw'
  rw[ed]at hm
  obtain⟨cd,hcd,rfl⟩:=Lv.mp hm
  rw[qY]
  rcases hc with⟨k1,k2⟩|⟨k1,k2⟩
  ·refine⟨cd,Mu _ hcd,?_,?_⟩
   ·have k1:0≤ve (tri cd.1) (wT w):=k1
    rw[yM]at k1;exact mZ.mp k1
   ·have k2:0<ve (wT w) (tri cd.2):=k2
    rw[yL]at k2;exact t5.mp k2
  ·refine⟨(g9 cd.1,g9 cd.2),LW _ (Lv.mpr ⟨cd,hcd,rfl⟩),?_,?_⟩
   ·have k1:0≤ve (ng (tri cd.1)) (wT w):=k1
    rw[← u6,yM]at k1;exact mZ.mp k1
   ·have k2:0<ve (wT w) (ng (tri cd.2)):=k2
    rw[← u6,yL]at k2;exact t5.mp k2
 obtain⟨⟨a,b⟩,eab⟩:=Option.ne_none_iff_exists'.mp (i2 (.inr ex))
 refine⟨a,b,eab,?_⟩
 rcases i1 _ eab with z|⟨hm,k1,k2⟩
 ·cases z
 rw[qY]at hm
 have supE:∀ ab∈(h0 :: L).zip (L++[g9 h0]),Sup ((e7 ls).map tri) (ry (tri ab.1) (tri ab.2)):=fun ab h=>by
  have hm:(tri ab.1,tri ab.2)∈cj (tri h0) (L.map tri):=by
   rw[ed];exact Lv.mpr ⟨ab,h,rfl⟩
  exact(R.all _ hm).2.2.2
 clear i1 i2 eab ex
 rcases LR.mp hm with hm|hm
 ·have q:=hE (a,b) hm
  have sq:=supE (a,b) hm
  exact⟨q.1,q.2.1,q.2.2,sq,k1,k2⟩
 ·obtain⟨cd,hcd,ec⟩:=Lv.mp hm
  obtain⟨q1,q2,q3⟩:=hE _ hcd
  have ea:a=g9 cd.1:=(congrArg Prod.fst ec).symm
  have eb:b=g9 cd.2:=(congrArg Prod.snd ec).symm
  subst ea eb
  refine⟨sy _ q1,sy _ q2,?_,?_,k1,k2⟩
  ·have:veZ (g9 cd.1) (g9 cd.2)=veZ cd.1 cd.2:=by unfold veZ g9;grind
   rw[this];exact q3
  ·rw[u6,u6,gN];exact bg R.sy (supE _ hcd)
inductive R1
 | free (z:Zr)
 | most (v:Rat) (z:Zr) (sh:List (Int × Rat))
noncomputable def shD(s:Int × Rat):D:=.tup [.int s.1,f6 s.2]
noncomputable def R1.toD:R1→D
 | .free z=>.tup [.str "free",rD z]
 | .most v z sh=>.tup [.str "most",f6 v,rD z,.vl (sh.map shD)]
noncomputable def uV:List (Int × Rat)→List (Int × Rat)
 | [x,y]=>if y.1<x.1 then[y,x]else[x,y]
 | l=>l
noncomputable def shF(a b:Sd)(w:Int × Int)(c:Nat):List (Int × Rat):=uV ([(a.2.2.2.1,Mf (wVe w b*a.2.2.2.2) (c*veZ a b)),(b.2.2.2.1,Mf (veW a w*b.2.2.2.2) (c*veZ a b))].filter fun s=>decide (s.2≠0))
noncomputable def vlF(a b:Sd)(w:Int × Int)(c:Nat):Rat:=Mf (wVe w b*a.2.2.1+veW a w*b.2.2.1) (c*veZ a b)
noncomputable def ix(half:List Sd)(p q:Rat):R1:=match kA half (wtF p q)with
 | none=>.free (0,0)
 | some (a,b)=>.most (vlF a b (wtF p q) (cb2 p q)) (ry (tri a) (tri b)) (shF a b (wtF p q) (cb2 p q))
noncomputable def sqZ(p q:Rat):Rat:=p*p+q*q
noncomputable def F0(l:T3)(n:Int)(p q:Rat):R1 :=
 if l.1*q - p*l.2.1<0 then .free (l.2.1,-l.1)else if 0<l.1*q - p*l.2.1 then .free (-l.2.1,l.1)else
 .most (j8 (if l.1=0 then q / l.2.1 else p / l.1)*l.2.2) (p*(j8 (if l.1=0 then q / l.2.1 else p / l.1)*l.2.2 / sqZ p q),q*(j8 (if l.1=0 then q / l.2.1 else p / l.1)*l.2.2 / sqZ p q)) [(n,if l.1=0 then q / l.2.1 else p / l.1)]
noncomputable def K7(ls:List T3)(p q:Rat):R1:=if p=0∧q=0 then .most 0 (0,0) []else match t9 (e7 ls)with
 | []=>.free (p,q)
 | [h]=>F0 (ls.getD h.2.2.2.1.toNat (0,0,0)) h.2.2.2.1 p q
 | half=>ix half p q
theorem cB{s:Sd}:∀{ls:List T3} {i:Nat},s∈M0 i ls→∃ j l,ls[j]? = some l∧(s=g5 l (i+j)∨s=g9 (g5 l (i+j)))
 | [],_,h=>by cases h
 | a :: r,i,h=>by
  have h:s∈g5 a i :: g9 (g5 a i) :: M0 (i+1) r:=h
  rcases Lz.mp h with rfl|h
  ·exact⟨0,a,rfl,.inl rfl⟩
  ·rcases Lz.mp h with rfl|h
   ·exact⟨0,a,rfl,.inr rfl⟩
   ·obtain⟨j,l,e,q⟩:=cB h
    exact⟨j+1,l,e,by rw[show i+(j+1)=i+1+j by omega];exact q⟩
theorem zW{ls:List T3}{a b:Sd}(ha:a∈e7 ls)(hb:b∈e7 ls)(hv:veZ a b≠0):a.2.2.2.1≠b.2.2.2.1:=fun e=>by
 obtain⟨i,l,e1,h1⟩:=cB (i:=0) ha
 obtain⟨j,m,e2,h2⟩:=cB (i:=0) hb
 have n1:a.2.2.2.1=((0+i:Nat):Int):=by rcases h1 with h|h<;>rw[h]<;>rfl
 have n2:b.2.2.2.1=((0+j:Nat):Int):=by rcases h2 with h|h<;>rw[h]<;>rfl
 obtain rfl:i=j:=by omega
 rw[e1]at e2
 cases e2
 refine hv ?_
 rcases h1 with h|h<;>rcases h2 with h'|h'<;>(rw[h,h'];unfold veZ;first|(unfold g9;grind)|grind)
theorem qj(p q:Rat):((wtF p q).1:Rat)=p*(cb2 p q:Rat)∧((wtF p q).2:Rat)=q*(cb2 p q:Rat):=⟨V0 (Hj p q),V0 (Hi p q)⟩
theorem uF{p q:Rat}(h:¬ (p=0∧q=0)):¬ ((wtF p q).1=0∧(wtF p q).2=0):=fun⟨z1,z2⟩=>by
 obtain⟨e1,e2⟩:=qj p q
 have c:(0:Rat)<(cb2 p q:Rat):=by exact_mod_cast ko p q
 rw[z1]at e1
 rw[z2]at e2
 have e1:(0:Rat)=p*(cb2 p q:Rat):=e1
 have e2:(0:Rat)=q*(cb2 p q:Rat):=e2
 generalize (cb2 p q:Rat)=k at *
 exact h ⟨by grind,by grind⟩
theorem rC{ls:List T3}{p q:Rat}{a b:Sd}(A:Arn ls (wtF p q) a b) :
  vlF a b (wtF p q) (cb2 p q)=p*(ry (tri a) (tri b)).1+q*(ry (tri a) (tri b)).2∧∀ z,Sup ((e7 ls).map tri) z→p*z.1+q*z.2≤p*(ry (tri a) (tri b)).1+q*(ry (tri a) (tri b)).2:=by
 obtain⟨e1,e2⟩:=qj p q
 have c:(0:Rat)<(cb2 p q:Rat):=by exact_mod_cast ko p q
 have V:(0:Rat)<ve (tri a) (tri b):=by rw[u5];exact t5.mpr A.ve
 have ka:(0:Rat)≤ve (tri a) (wT (wtF p q)):=by rw[yM];exact mZ.mpr A.ka
 have kb:(0:Rat)<ve (wT (wtF p q)) (tri b):=by rw[yL];exact t5.mpr A.kb
 have dw:∀ z:Zr,dt (wT (wtF p q)) z=(p*z.1+q*z.2)*(cb2 p q:Rat):=fun z=>by
  unfold dt wT
  show((wtF p q).1:Rat)*z.1+((wtF p q).2:Rat)*z.2=_
  rw[e1,e2];grind
 have bt:=G4 (w:=wT (wtF p q)) V (ry (tri a) (tri b))
 rw[fQ (t6 V),eG (t6 V),dw]at bt
 constructor
 ·unfold vlF
  rw[G6,ND,LI,LI,LI,LZ,← u5,← yL,← yM]
  have r1:(tri a).2.2=(a.2.2.1:Rat):=rfl
  have r2:(tri b).2.2=(b.2.2.1:Rat):=rfl
  rw[← r1,← r2,← bt]
  have hz:∀ v k m:Rat,0<v→0<k→v*(m*k) / (k*v)=m:=fun v k m h1 h2=>by
   have:v*(m*k)=m*(k*v):=by grind
   rw[this,PB (t6 (MC h2 h1))]
  exact hz _ _ _ V c
 ·intro z hz
  have b2:=G4 (w:=wT (wtF p q)) V z
  rw[dw]at b2
  have s1:=hz (tri a) (Lv.mpr ⟨a,A.ma,rfl⟩)
  have s2:=hz (tri b) (Lv.mpr ⟨b,A.mb,rfl⟩)
  have p1:0≤ve (wT (wtF p q)) (tri b)*((tri a).2.2 - dt (tri a) z):=LC (G0 kb) (by grind)
  have p2:0≤ve (tri a) (wT (wtF p q))*((tri b).2.2 - dt (tri b) z):=LC ka (by grind)
  have p3:0≤ve (tri a) (tri b)*(((p*(ry (tri a) (tri b)).1+q*(ry (tri a) (tri b)).2) - (p*z.1+q*z.2))*(cb2 p q:Rat)):=by grind
  have p4:=C8 V p3
  have p5:=C8 c (x:=(p*(ry (tri a) (tri b)).1+q*(ry (tri a) (tri b)).2) - (p*z.1+q*z.2)) (by grind)
  grind
theorem Ak{ls:List T3}(hok:∀ l∈ls,LineOk l){h0:Sd}{l:List Sd}(e:t9 (e7 ls)=h0 :: l):∀ t∈e7 ls,Lx t h0:=by
 have hp:∀ s∈e7 ls,0<s.2.2.1:=ar hok (i:=0)
 cases es:e7 ls with
 | nil=>rw[es]at e;cases e
 | cons s r =>
  rw[es]at e hp
  have e2:t9 (s :: r)=A4 (s :: r) s :: F4 (A4 (s :: r) s) (s :: r) (s :: r).length (C1 (A4 (s :: r) s) (s :: r)):=rfl
  rw[e2]at e
  injection e with e3 e4
  intro t ht
  rw[← e3]
  exact cU (s :: r) s t hp (hp s Ly) (.inl ht)
theorem wA{s:Sd}(h:0<s.2.2.1):(tri s).1=kp s*(tri s).2.2∧(tri s).2.1=kq s*(tri s).2.2:=by
 have:(0:Rat)<(s.2.2.1:Rat):=t5.mpr h
 unfold kp kq tri
 exact⟨by show(s.1:Rat)=_;grind,by show(s.2.1:Rat)=_;grind⟩
theorem wB(s:Sd):kp (g9 s) = -kp s∧kq (g9 s) = -kq s:=by
 have e1:kp (g9 s)=((-s.1:Int):Rat) / (s.2.2.1:Rat):=rfl
 have e2:kq (g9 s)=((-s.2.1:Int):Rat) / (s.2.2.1:Rat):=rfl
 rw[e1,e2,NB,NB,Pm,Pm,Oe,Oe,← Pm,← Pm]
 exact⟨rfl,rfl⟩
theorem ED{ss:List Sd}{h0:Sd}(m0:h0∈ss)(hp:∀ s∈ss,0<s.2.2.1)(sy:∀ s∈ss,g9 s∈ss)(lx:∀ t∈ss,Lx t h0)(al:∀ s∈ss,veZ h0 s=0)(nz:¬ ((tri h0).1=0∧(tri h0).2.1=0)){z:Zr}(hz:dt (tri h0) z=(tri h0).2.2∨dt (tri h0) z = -(tri h0).2.2):Sup (ss.map tri) z:=fun s hs=>by
 obtain⟨t,ht,rfl⟩:=Lv.mp hs
 have r0:(0:Rat)<(tri h0).2.2:=t5.mpr (hp h0 m0)
 have rt:(0:Rat)<(tri t).2.2:=t5.mpr (hp t ht)
 obtain⟨a1,a2⟩:=wA (hp h0 m0)
 obtain⟨b1,b2⟩:=wA (hp t ht)
 obtain⟨f1,f2⟩:=wB h0
 obtain⟨g1,g2⟩:=wB t
 have l0:=lx _ (sy h0 m0)
 have l1:=lx t ht
 have l2:=lx _ (sy t ht)
 have v:ve (tri h0) (tri t)=0:=by rw[u5,al t ht];rfl
 unfold Lx at l0 l1 l2
 rw[f1,f2]at l0
 rw[g1,g2]at l2
 unfold ve at v
 generalize kp h0=hp' at *
 generalize kq h0=hq' at *
 generalize kp t=tp at *
 generalize kq t=tq at *
 unfold dt at hz ⊢
 generalize (tri h0).2.2=R at *
 generalize (tri t).2.2=T at *
 rw[a1,a2,b1,b2]at v
 rw[a1,a2]at hz nz
 rw[b1,b2]
 clear a1 a2 b1 b2 f1 f2 g1 g2 lx al sy hp hs
 have v':hp'*tq - hq'*tp=0:=by
  have:(R*T)*(hp'*tq - hq'*tp)=0:=by grind
  have hRT:=t6 (MC r0 rt)
  generalize R*T=c at *
  grind
 have hz':hp'*z.1+hq'*z.2=1∨hp'*z.1+hq'*z.2 = -1:=by
  rcases hz with h|h
  ·left;grind
  ·right;grind
 have goal:tp*z.1+tq*z.2≤1→tp*T*z.1+tq*T*z.2≤T:=fun h=>by
  have:0≤T*(1 - (tp*z.1+tq*z.2)):=LC (G0 rt) (by grind)
  grind
 apply goal
 clear goal hz r0 rt
 by_cases c:0<hp'
 ·have e:hp'*(tp*z.1+tq*z.2)=tp*(hp'*z.1+hq'*z.2):=by grind
  have le1:tp≤hp':=by grind
  have le2:-tp≤hp':=by grind
  have:0≤hp'*(1 - (tp*z.1+tq*z.2)):=by
   rcases hz' with h|h<;>rw[h]at e<;>grind
  have:=C8 c this
  grind
 ·have e0:hp'=0:=by grind
  have q0:0<hq':=by
   have h1:0≤hq':=by grind
   have h2:hq'≠0:=fun w=>nz ⟨by rw[e0];grind,by rw[w];grind⟩
   grind
  have t0:tp=0:=by
   rw[e0]at v'
   have:hq'*tp=0:=by grind
   grind
  have le1:tq≤hq':=by grind
  have le2:-tq≤hq':=by grind
  rw[e0]at hz'
  rw[t0]
  have:0≤hq'*(1 - (0*z.1+tq*z.2)):=by
   rcases hz' with h|h
   ·have e:hq'*(tq*z.2)=tq*(0*z.1+hq'*z.2):=by grind
    rw[h]at e;grind
   ·have e:hq'*(tq*z.2)=tq*(0*z.1+hq'*z.2):=by grind
    rw[h]at e;grind
  have:=C8 q0 this
  grind
structure kF(ls:List T3)(p q:Rat)(m:R1):Prop where
 free:∀ z,m = .free z→¬ (p=0∧q=0)∧D1 ls∧(∀ l∈ls,l.1*z.1+l.2.1*z.2=0)∧0<p*z.1+q*z.2∧∀ l∈ls,l.1*q - p*l.2.1≠0
 most:∀ v z sh,m = .most v z sh→r9 ls z.1 z.2=true∧v=p*z.1+q*z.2∧(∀ y u,r9 ls y u=true→p*y+q*u≤v)∧((p=0∧q=0)∨(D1 ls∧∃ l∈ls,l.1*q - p*l.2.1=0)∨Cn2 ((e7 ls).map tri) z)
theorem Gp{ls:List T3}(hok:∀ l∈ls,LineOk l):r9 ls 0 0=true:=by
 unfold r9
 rw[ML]
 intro l hl
 rw[B2]
 have:=(hok l hl).pos
 constructor<;>grind
theorem iy(s:Rat):(0≤s∧j8 s=s)∨(s<0∧j8 s = -s):=by
 unfold j8
 split
 ·exact .inl ⟨by assumption,rfl⟩
 ·exact .inr ⟨by grind,rfl⟩
theorem iE{p q:Rat}(h:¬ (p=0∧q=0)):0<sqZ p q:=by
 have s:∀ x:Rat,0≤x*x:=fun x=>by
  rcases tot 0 x with h|h
  ·exact LC h h
  ·have:=LC (show 0 ≤ -x by grind) (show 0 ≤ -x by grind)
   grind
 have s1:=s p
 have s2:=s q
 unfold sqZ
 by_cases c:p=0
 ·by_cases d:q=0
  ·exact absurd ⟨c,d⟩ h
  ·have:q*q≠0:=fun z=>d (by grind)
   grind
 ·have:p*p≠0:=fun z=>c (by grind)
  grind
theorem oN{ls:List T3}(hok:∀ l∈ls,LineOk l){l:T3}(hl:l∈ls){n:Int}{h0:Sd}{j:Nat}(e:t9 (e7 ls)=[h0])(eh:h0=g5 l j∨h0=g9 (g5 l j))(m0:h0∈e7 ls)(al0:∀ s∈e7 ls,veZ h0 s=0)(al:D1 ls){p q:Rat}(hpq:¬ (p=0∧q=0)):kF ls p q (F0 l n p q):=by
 have ok:=hok l hl
 have rl:=ok.pos
 have cp:=G3 l
 have other:∀ m∈ls,m.1*l.2.1=l.1*m.2.1:=fun m hm=>al m hm l hl
 have nob:l.1*q - p*l.2.1≠0→∀ m∈ls,m.1*q - p*m.2.1≠0:=fun hb m hm z=>by
  have a1:=other m hm
  have mn:=(hok m hm).ne
  have e1:m.1*(l.1*q - p*l.2.1)=0:=by
   have:m.1*(l.1*q - p*l.2.1)=l.1*(m.1*q - p*m.2.1)+p*(l.1*m.2.1 - m.1*l.2.1):=by grind
   rw[this,z,a1];grind
  have e2:m.2.1*(l.1*q - p*l.2.1)=0:=by
   have:m.2.1*(l.1*q - p*l.2.1)=l.2.1*(m.1*q - p*m.2.1)+q*(l.1*m.2.1 - m.1*l.2.1):=by grind
   rw[this,z,a1];grind
  generalize l.1*q - p*l.2.1=b at *
  exact mn ⟨by grind,by grind⟩
 unfold F0
 by_cases c1:l.1*q - p*l.2.1<0
 ·rw[if_pos c1]
  refine⟨fun z hz=>?_,fun v z sh hz=>by cases hz⟩
  cases hz
  exact⟨hpq,al,fun m hm=>by have:=other m hm;show m.1*l.2.1+m.2.1 * -l.1=0;grind,by show 0<p*l.2.1+q * -l.1;grind,nob (by grind)⟩
 rw[if_neg c1]
 by_cases c2:0<l.1*q - p*l.2.1
 ·rw[if_pos c2]
  refine⟨fun z hz=>?_,fun v z sh hz=>by cases hz⟩
  cases hz
  exact⟨hpq,al,fun m hm=>by have:=other m hm;show m.1 * -l.2.1+m.2.1*l.1=0;grind,by show 0<p * -l.2.1+q*l.1;grind,nob (by grind)⟩
 rw[if_neg c2]
 have c0:l.1*q - p*l.2.1=0:=by grind
 obtain⟨s,es,ep,eq⟩:∃ s:Rat,(if l.1=0 then q / l.2.1 else p / l.1)=s∧p=s*l.1∧q=s*l.2.1:=by
  by_cases z:l.1=0
  ·have n2:l.2.1≠0:=fun w=>ok.ne ⟨z,w⟩
   rw[if_pos z]
   refine⟨q / l.2.1,rfl,?_,?_⟩
   ·rw[z]at c0 ⊢
    have:p*l.2.1=0:=by grind
    grind
   ·grind
  ·rw[if_neg z]
   exact⟨p / l.1,rfl,by grind,by grind⟩
 rw[es]
 have sq:=iE hpq
 have s0:s≠0:=fun w=>hpq ⟨by rw[ep,w];grind,by rw[eq,w];grind⟩
 refine⟨fun z hz=>(by cases hz),fun v z sh hz=>?_⟩
 cases hz
 have k1:j8 s*l.2.2 / sqZ p q*sqZ p q=j8 s*l.2.2:=Mm (t6 sq)
 have val:p*(p*(j8 s*l.2.2 / sqZ p q))+q*(q*(j8 s*l.2.2 / sqZ p q))=j8 s*l.2.2:=by
  have:p*(p*(j8 s*l.2.2 / sqZ p q))+q*(q*(j8 s*l.2.2 / sqZ p q))=j8 s*l.2.2 / sqZ p q*sqZ p q:=by
   generalize j8 s*l.2.2 / sqZ p q=k
   unfold sqZ;grind
  rw[this,k1]
 have lz:s*(l.1*(p*(j8 s*l.2.2 / sqZ p q))+l.2.1*(q*(j8 s*l.2.2 / sqZ p q)))=j8 s*l.2.2:=by
  have g:∀ k:Rat,s*(l.1*(p*k)+l.2.1*(q*k))=(s*l.1)*(p*k)+(s*l.2.1)*(q*k):=fun k=>by grind
  rw[g,← ep,← eq,val]
 have ends:l.1*(p*(j8 s*l.2.2 / sqZ p q))+l.2.1*(q*(j8 s*l.2.2 / sqZ p q))=l.2.2∨l.1*(p*(j8 s*l.2.2 / sqZ p q))+l.2.1*(q*(j8 s*l.2.2 / sqZ p q)) = -l.2.2:=by
  generalize l.1*(p*(j8 s*l.2.2 / sqZ p q))+l.2.1*(q*(j8 s*l.2.2 / sqZ p q))=m at *
  rcases iy s with⟨h,w⟩|⟨h,w⟩
  ·left;rw[w]at lz;grind
  ·right;rw[w]at lz;grind
 refine⟨?_,val.symm,fun y u hy=>?_,.inr (.inl ⟨al,l,hl,c0⟩)⟩
 ·rw[← L3]
  refine ED m0 (ar hok (i:=0)) (dX (ls:=ls) (i:=0)) (Ak hok e) al0 (R9 hok _ (Lv.mpr ⟨h0,m0,rfl⟩)) ?_
  have d1:=dc l j (p*(j8 s*l.2.2 / sqZ p q),q*(j8 s*l.2.2 / sqZ p q))
  have rr:(tri (g5 l j)).2.2=l.2.2*(cbL l:Rat):=by rw[C9]
  have d1:dt (tri (g5 l j)) (p*(j8 s*l.2.2 / sqZ p q),q*(j8 s*l.2.2 / sqZ p q))=(l.1*(p*(j8 s*l.2.2 / sqZ p q))+l.2.1*(q*(j8 s*l.2.2 / sqZ p q)))*(cbL l:Rat):=d1
  rcases eh with rfl|rfl
  ·rw[d1,rr]
   rcases ends with h|h
   ·left;rw[h]
   ·right;rw[h,Oe]
  ·have r2:(tri (g9 (g5 l j))).2.2=l.2.2*(cbL l:Rat):=rr
   rw[oy,d1,r2]
   rcases ends with h|h
   ·right;rw[h]
   ·left;rw[h,Oe,OD]
 ·unfold r9 at hy
  rw[ML]at hy
  have b:=(B2 l y u).mp (hy l hl)
  have e1:p*y+q*u=s*(l.1*y+l.2.1*u):=by rw[ep,eq];grind
  rw[e1]
  generalize l.1*y+l.2.1*u=m at *
  rcases iy s with⟨h,w⟩|⟨h,w⟩
  ·rw[w]
   have:0≤s*(l.2.2 - m):=LC h (by grind)
   grind
  ·rw[w]
   have:0 ≤ -s*(l.2.2+m):=LC (by grind) (by grind)
   grind
theorem dW{ls:List T3}{h:Sd}(hm:h∈e7 ls):∃(l:T3) (j:Nat),ls[j]? = some l∧h.2.2.2.1=(j:Int)∧(h=g5 l j∨h=g9 (g5 l j)):=by
 obtain⟨j,l,e,q⟩:=cB (i:=0) hm
 rw[Oj]at q
 exact⟨l,j,e,by rcases q with q|q<;>rw[q]<;>rfl,q⟩
theorem bA{ls:List T3}(hok:∀ l∈ls,LineOk l)(p q:Rat):kF ls p q (K7 ls p q):=by
 unfold K7
 by_cases c:p=0∧q=0
 ·rw[if_pos c]
  refine⟨fun z hz=>(by cases hz),fun v z sh hz=>?_⟩
  cases hz
  exact⟨Gp hok,by rw[c.1,c.2];grind,fun y u _=>by rw[c.1,c.2];grind,.inl c⟩
 rw[if_neg c]
 by_cases hne:ls=[]
 ·subst hne
  refine⟨fun z hz=>?_,fun v z sh hz=>by cases hz⟩
  cases hz
  exact⟨c,(fun a ha=>by cases ha),(fun l hl=>by cases hl),iE c,fun l hl=>by cases hl⟩
 obtain⟨h0,l,e,m0,h⟩:=C6 hok hne
 rw[e]
 cases l with
 | nil =>
  rcases h with⟨_,al0⟩|⟨z,_⟩
  ·obtain⟨m,j,em,en,eq⟩:=dW m0
   have hm:=LK em
   have al:D1 ls:=by
    rcases mV hok with⟨_,a⟩|⟨cs,ec,_⟩
    ·exact a
    ·unfold G7 at ec;rw[e]at ec;cases ec
   show kF ls p q (F0 (ls.getD h0.2.2.2.1.toNat (0,0,0)) h0.2.2.2.1 p q)
   rw[en,Nk,LF,em]
   exact oN hok hm e eq m0 al0 al c
  ·exact absurd rfl z
 | cons x l =>
  obtain⟨a,b,ea,A⟩:=fo hok e (uF c)
  show kF ls p q (match kA (h0 :: x :: l) (wtF p q)with|none=>.free (0,0)|some (a,b)=>.most (vlF a b (wtF p q) (cb2 p q)) (ry (tri a) (tri b)) (shF a b (wtF p q) (cb2 p q)))
  rw[ea]
  obtain⟨v1,v2⟩:=rC A
  have V:(0:Rat)<ve (tri a) (tri b):=by rw[u5];exact t5.mpr A.ve
  refine⟨fun z hz=>(by cases hz),fun v z sh hz=>?_⟩
  cases hz
  refine⟨(L3 ls _).mp A.sup,v1,fun y u hy=>?_,.inr (.inr ⟨A.sup,tri a,tri b,Lv.mpr ⟨a,A.ma,rfl⟩,Lv.mpr ⟨b,A.mb,rfl⟩,t6 V,fQ (t6 V),eG (t6 V)⟩)⟩
  rw[v1]
  exact v2 (y,u) ((L3 ls (y,u)).mpr hy)
theorem Z6(as bs:List T3)(y u:Rat):r9 (as++bs) y u=(r9 as y u && r9 bs y u):=by unfold r9;exact List.all_append
theorem Aa{ls:List T3}{y u:Rat}(h:r9 ls y u=true):r9 ls (-y) (-u)=true:=by
 unfold r9 at *
 rw[ML]at *
 intro l hl
 have:=(B2 l y u).mp (h l hl)
 rw[B2]
 constructor<;>grind
theorem sH{as bs:List T3}{l:T3}(v:Rat)(h:∀ y u,r9 (as++bs) y u=true→l.1*y+l.2.1*u≤v)(hr:v≤l.2.2):∀ y u,r9 (as++bs) y u=r9 (as++l :: bs) y u:=fun y u=>by
 rw[Z6,Z6]
 have e:r9 (l :: bs) y u=(T9 l y u && r9 bs y u):=rfl
 rw[e]
 cases ha:r9 as y u with
 | false=>rfl
 | true =>
  cases hb:r9 bs y u with
  | false=>rw[Ot,Ot,Ot]
  | true =>
   have hab:r9 (as++bs) y u=true:=by rw[Z6,ha,hb];rfl
   have h1:=h y u hab
   have h2:=h (-y) (-u) (Aa hab)
   have:T9 l y u=true:=by
    rw[B2];constructor<;>grind
   rw[this];rfl
structure L28(l:T3):Prop extends LnOk l where
 p6:sz l.1≤548
 q6:sz l.2.1≤548
 r6:sz l.2.2≤200
 b6:sX 640 (g5 l 0)
theorem Ax{l:T3}{m:Nat}(h1:sz l.1≤m)(h2:sz l.2.1≤m)(h3:sz l.2.2≤m):sX (3*m) (g5 l 0):=by
 have e:cbL l≤l.1.den*l.2.1.den*l.2.2.den:=by
  have a:=G2 (B3 (B3 1 l.1.den) l.2.1.den) l.2.2.den
  have b:=G2 (B3 1 l.1.den) l.2.1.den
  have c:=G2 1 l.1.den
  rw[Qm]at c
  exact LB a (Mo _ (LB b (Mo _ c)))
 have d1:=o9 _ h1
 have d2:=o9 _ h2
 have d3:=o9 _ h3
 have key:∀{q:Rat} {u v:Nat},sz q≤m→l.1.den*l.2.1.den*l.2.2.den=q.den*(u*v)→u<2 ^ m→v<2 ^ m→(L8 q (cbL l)).natAbs<2 ^ (3*m):=fun{q u v} hq eq hu hv=>by
  unfold L8
  have hd:cbL l / q.den≤u*v:=by
   rw[eq]at e
   exact NY e
  rw[Mc,Lu,show 3*m=m+(m+m)by omega,My,My]
  refine MI (D4 q hq) (LB hd (ME (MZ hu hv))) (Pj (OC (by decide)) (OC (by decide)))
 exact⟨key h1 (Pw _ _ _) d2 d3,key h2 (by rw[Nj l.1.den,Pw]) d1 d3,key h3 (Nj _ _) d1 d2⟩
theorem xB{n:Nat}{l:T3}(h:sX n (g5 l 0))(hn:n≤1200):SzS (g5 l 0):=⟨C7 h.1 hn,C7 h.2.1 hn,C7 h.2.2 hn⟩
theorem L28.mk3{l:T3}(ok:LineOk l)(h1:sz l.1≤200)(h2:sz l.2.1≤200)(h3:sz l.2.2≤200):L28 l:=by
 have b:=Ax h1 h2 h3
 have b6:sX 640 (g5 l 0):=⟨C7 b.1 (by decide),C7 b.2.1 (by decide),C7 b.2.2 (by decide)⟩
 exact{ ne:=ok.ne,pos:=ok.pos,p:=by omega,q:=by omega,r:=by omega,s:=xB b6 (by decide),p6:=by omega,q6:=by omega,r6:=by omega,b6:=b6 }
theorem L28.bench{bs:List (Str × Rat)}(hl:bs.length≤12)(hok:∀ x∈bs,F3 x):∀ l∈J4 bs bs.length,L28 l:=fun l h=>by
 have hs:l∈vc bs 0:=by
  have:vc bs 0=J4 bs bs.length:=by
   show(J4 bs bs.length).map _=_
   conv=>rhs;rw[← List.map_id (J4 bs bs.length)]
   refine List.map_congr_left fun m _=>?_
   obtain⟨a,b,c⟩:=m
   show(a,a*0+b,c)=(a,b,c)
   rw[Oi,Rat.zero_add]
  rw[this];exact h
 obtain⟨ok,ls,b⟩:=uZ (x:=0) hl hok (by rw[RM.ak];decide) l hs
 have h1:=ls.p
 have h2:=ls.q
 have h3:=ls.r
 exact{ ok with p6:=by omega,q6:=by omega,r6:=by omega,b6:=⟨C7 b.1 (by decide),C7 b.2.1 (by decide),C7 b.2.2 (by decide)⟩ }
def K0(ls:List T3):Prop:=ls.length≤12∧∀ l∈ls,L28 l
theorem K0.ok{ls:List T3}(h:K0 ls):sW ls:=⟨h.1,fun l hl=>(h.2 l hl).toLnOk⟩
theorem K0.lo{ls:List T3}(h:K0 ls):∀ l∈ls,LineOk l:=fun l hl=>(h.2 l hl).toLnOk.toLineOk
theorem K0.bits{ls:List T3}(h:K0 ls):∀ s∈e7 ls,sX 640 s:=fun s hs=>by
 obtain⟨l,hl,j,e⟩:=B8 hs
 obtain⟨a,b,c⟩:=(h.2 l hl).b6
 rcases e with rfl|rfl
 ·exact⟨a,b,c⟩
 ·exact⟨by show(-(g5 l j).1).natAbs<_;rw[Ml];exact a,by show(-(g5 l j).2.1).natAbs<_;rw[Ml];exact b,c⟩
theorem K0.szs{ls:List T3}(h:K0 ls):∀ s∈e7 ls,SzS s:=fun s hs=>by
 obtain⟨a,b,c⟩:=h.bits s hs
 exact⟨C7 a (by decide),C7 b (by decide),C7 c (by decide)⟩
theorem Ip{l:T3}(h:L28 l):cbL l<2 ^ 1400:=by
 have e:cbL l≤l.1.den*l.2.1.den*l.2.2.den:=by
  have a:=G2 (B3 (B3 1 l.1.den) l.2.1.den) l.2.2.den
  have b:=G2 (B3 1 l.1.den) l.2.1.den
  have c:=G2 1 l.1.den
  rw[Qm]at c
  exact LB a (Mo _ (LB b (Mo _ c)))
 have d1:=o9 _ h.p6
 have d2:=o9 _ h.q6
 have d3:=o9 _ h.r6
 refine LO e ?_
 refine Lw (MZ (MZ d1 d2) d3) ?_
 rw[← My,← My]
 exact LX (by decide) (by decide)
theorem K0.scale{ls:List T3}(h:K0 ls):∀ s∈e7 ls,s.2.2.2.2.natAbs<2 ^ 1400:=fun s hs=>by
 obtain⟨l,hl,j,e⟩:=B8 hs
 have:=Ip (h.2 l hl)
 rcases e with rfl|rfl
 ·show((cbL l:Nat):Int).natAbs<_;rw[Lu];exact this
 ·show(-((cbL l:Nat):Int)).natAbs<_;rw[Ml,Lu];exact this
def Wz(x y:Int):Prop:=x.natAbs<2 ^ 2200∧y.natAbs<2 ^ 2200
theorem xr(p q:Rat):cb2 p q≤p.den*q.den:=by
 have b:=G2 (B3 1 p.den) q.den
 have c:=G2 1 p.den
 rw[Qm]at c
 exact LB b (Mo _ c)
theorem xq{p q:Rat}(h1:sz p≤1100)(h2:sz q≤1100):cb2 p q<2 ^ 2200:=by
 refine LO (xr p q) ?_
 rw[show 2200=1100+1100 from rfl,My]
 exact MZ (o9 _ h1) (o9 _ h2)
theorem Hu{p q:Rat}(h1:sz p≤1100)(h2:sz q≤1100):Wz (wtF p q).1 (wtF p q).2:=by
 have e:=xr p q
 have d1:=o9 _ h1
 have d2:=o9 _ h2
 refine⟨?_,?_⟩
 ·show(L8 p (cb2 p q)).natAbs<_
  unfold L8
  rw[Mc,Lu,show 2200=1100+1100 from rfl,My]
  exact MI (D4 p h1) (LB (NY e) (ME d2)) (OC (by decide))
 ·show(L8 q (cb2 p q)).natAbs<_
  unfold L8
  rw[Mc,Lu,show 2200=1100+1100 from rfl,My]
  exact MI (D4 q h2) (LB (NY (by rw[Nj];exact e)) (ME d1)) (OC (by decide))
noncomputable def zJ:Option (Sd × Sd)→D
 | none=>.non
 | some ab=>.tup [sdD ab.1,sdD ab.2]
local macro_rules|`(tactic| walk_at "inj")=>`(tactic| (rename_i e h;simp only[List.cons.injEq,GM.P1,GM.O3,GM.Z1,GM.W1,and_true,true_and,GM.i4,GM.j4,GM.i5,GM.j5,GM.i6,D.tup.injEq,D.ref.injEq,D.int.injEq,D.str.injEq,D.bl.injEq,D.vl.injEq,Me,and_assoc]at e;(repeat(obtain⟨e1,e⟩:=e;subst e1));subst e;exact h))
local macro_rules|`(tactic| walk_at "injs")=>`(tactic| (rename_i e o h;rcases o with o|o<;>(subst o;first|(exfalso;simp only[D.tup.injEq,List.cons.injEq,reduceCtorEq,false_and,and_false]at e;done)|(simp only[List.cons.injEq,GM.P1,GM.O3,GM.Z1,GM.W1,and_true,true_and,GM.i4,GM.j4,GM.i5,GM.j5,GM.i6,D.tup.injEq,D.ref.injEq,D.int.injEq,D.str.injEq,D.bl.injEq,D.vl.injEq,Me,and_assoc]at e;(repeat(obtain⟨e1,e⟩:=e;subst e1));subst e;exact h))))
abbrev cF(p q y u:Rat)(M:Mem)(R:DK)(Y:DXK):Prop:=(sz p+sz q+sz y+sz u≤8000)∧R (f6 (p*y+q*u)) M
def qq:DSp:=fun ds M R Y=>∃(p q y u:Rat),ds=[f6 p,f6 q,v6 y u]∧cF p q y u M R Y
theorem oZ{p q y u:Rat}{M:Mem}{R:DK}{Y:DXK}:qq [f6 p,f6 q,v6 y u] M R Y=(cF p q y u M R Y):=propext ⟨fun z=>by obtain⟨_,_,_,_,_,_⟩:=z;walk_at "inj",fun h=>⟨p,q,y,u,rfl,h⟩⟩
abbrev ax(a:Sd)(x y:Int)(M:Mem)(R:DK)(Y:DXK):Prop:=(SzS a∧Wz x y)∧R (.int (veW a (x,y))) M
def jf:DSp:=fun ds M R Y=>∃(a:Sd) (x y:Int),ds=[sdD a,.vl [.int x,.int y]]∧ax a x y M R Y
theorem kP{a:Sd}{x y:Int}{M:Mem}{R:DK}{Y:DXK}:jf [sdD a,.vl [.int x,.int y]] M R Y=(ax a x y M R Y):=propext ⟨fun z=>by obtain⟨_,_,_,_,_⟩:=z;walk_at "inj",fun h=>⟨a,x,y,rfl,h⟩⟩
abbrev aw(x y:Int)(b:Sd)(M:Mem)(R:DK)(Y:DXK):Prop:=(SzS b∧Wz x y)∧R (.int (wVe (x,y) b)) M
def je:DSp:=fun ds M R Y=>∃(x y:Int) (b:Sd),ds=[.vl [.int x,.int y],sdD b]∧aw x y b M R Y
theorem kO{x y:Int}{b:Sd}{M:Mem}{R:DK}{Y:DXK}:je [.vl [.int x,.int y],sdD b] M R Y=(aw x y b M R Y):=propext ⟨fun z=>by obtain⟨_,_,_,_,_⟩:=z;walk_at "inj",fun h=>⟨x,y,b,rfl,h⟩⟩
abbrev jw(p q:Rat)(M:Mem)(R:DK)(Y:DXK):Prop:=(sz p≤1100∧sz q≤1100)∧R (.int ((cb2 p q:Nat):Int)) M
def Dd:DSp:=fun ds M R Y=>∃(p q:Rat),ds=[v6 p q]∧jw p q M R Y
theorem tL{p q:Rat}{M:Mem}{R:DK}{Y:DXK}:Dd [v6 p q] M R Y=(jw p q M R Y):=propext ⟨fun z=>by obtain⟨_,_,_,_⟩:=z;walk_at "inj",fun h=>⟨p,q,rfl,h⟩⟩
abbrev az(p q:Rat)(c:Int)(M:Mem)(R:DK)(Y:DXK):Prop:=((sz p≤1100∧sz q≤1100)∧c=((cb2 p q:Nat):Int))∧R (.vl [.int (wtF p q).1,.int (wtF p q).2]) M
def nX:DSp:=fun ds M R Y=>∃(p q:Rat) (c:Int),ds=[v6 p q,.int c]∧az p q c M R Y
theorem kR{p q:Rat}{c:Int}{M:Mem}{R:DK}{Y:DXK}:nX [v6 p q,.int c] M R Y=(az p q c M R Y):=propext ⟨fun z=>by obtain⟨_,_,_,_,_⟩:=z;walk_at "inj",fun h=>⟨p,q,c,rfl,h⟩⟩
abbrev jz(half:List Sd)(x y:Int)(M:Mem)(R:DK)(Y:DXK):Prop:=(half.length≤30∧(∀ s∈half,SzS s)∧Wz x y)∧R (zJ (kA half (x,y))) M
def De:DSp:=fun ds M R Y=>∃(half:List Sd) (x y:Int),ds=[.vl (half.map sdD),.vl [.int x,.int y]]∧jz half x y M R Y
theorem tM{half:List Sd}{x y:Int}{M:Mem}{R:DK}{Y:DXK}:De [.vl (half.map sdD),.vl [.int x,.int y]] M R Y=(jz half x y M R Y):=propext ⟨fun z=>by obtain⟨_,_,_,_,_⟩:=z;walk_at "inj",fun h=>⟨half,x,y,rfl,h⟩⟩
abbrev cL(half:List Sd)(p q:Rat)(M:Mem)(R:DK)(Y:DXK):Prop:=((half.length≤30∧(∀ s∈half,SzS s))∧(sz p≤1100∧sz q≤1100)∧∃ a b,kA half (wtF p q)=some (a,b)∧(SzS a∧SzS b)∧0<veZ a b∧a.2.2.2.1≠b.2.2.2.1∧(a.2.2.2.2.natAbs<2 ^ 1400∧b.2.2.2.2.natAbs<2 ^ 1400))∧R (ix half p q).toD M
def vt:DSp:=fun ds M R Y=>∃(half:List Sd) (p q:Rat),ds=[.vl (half.map sdD),f6 p,f6 q]∧cL half p q M R Y
theorem pk{half:List Sd}{p q:Rat}{M:Mem}{R:DK}{Y:DXK}:vt [.vl (half.map sdD),f6 p,f6 q] M R Y=(cL half p q M R Y):=propext ⟨fun z=>by obtain⟨_,_,_,_,_⟩:=z;walk_at "inj",fun h=>⟨half,p,q,rfl,h⟩⟩
abbrev cK(ls:List T3)(n:Int)(p q:Rat)(M:Mem)(R:DK)(Y:DXK):Prop:=(∃(l:T3) (j:Nat),n=(j:Int)∧ls[j]? = some l∧L28 l∧¬ (p=0∧q=0)∧(sz p≤1100∧sz q≤1100)∧R (F0 l n p q).toD M)
def qr:DSp:=fun ds M R Y=>∃(ls:List T3) (n:Int) (p q:Rat),ds=[.vl (ls.map f8),.int n,f6 p,f6 q]∧cK ls n p q M R Y
theorem pj{ls:List T3}{n:Int}{p q:Rat}{M:Mem}{R:DK}{Y:DXK}:qr [.vl (ls.map f8),.int n,f6 p,f6 q] M R Y=(cK ls n p q M R Y):=propext ⟨fun z=>by obtain⟨_,_,_,_,_,_⟩:=z;walk_at "inj",fun h=>⟨ls,n,p,q,rfl,h⟩⟩
abbrev cM(ls:List T3)(p q:Rat)(M:Mem)(R:DK)(Y:DXK):Prop:=(K0 ls∧sz p≤1100∧sz q≤1100)∧R (K7 ls p q).toD M
def qs:DSp:=fun ds M R Y=>∃(ls:List T3) (p q:Rat),ds=[.vl (ls.map f8),f6 p,f6 q]∧cM ls p q M R Y
theorem pq{ls:List T3}{p q:Rat}{M:Mem}{R:DK}{Y:DXK}:qs [.vl (ls.map f8),f6 p,f6 q] M R Y=(cM ls p q M R Y):=propext ⟨fun z=>by obtain⟨_,_,_,_,_⟩:=z;walk_at "inj",fun h=>⟨ls,p,q,rfl,h⟩⟩
abbrev aF(y u k:Rat)(M:Mem)(R:DK)(Y:DXK):Prop:=(sz y+sz k≤8900∧sz u+sz k≤8900)∧R (v6 (y*k) (u*k)) M
def jr:DSp:=fun ds M R Y=>∃(y u k:Rat),ds=[v6 y u,f6 k]∧aF y u k M R Y
theorem kX{y u k:Rat}{M:Mem}{R:DK}{Y:DXK}:jr [v6 y u,f6 k] M R Y=(aF y u k M R Y):=propext ⟨fun z=>by obtain⟨_,_,_,_,_⟩:=z;walk_at "inj",fun h=>⟨y,u,k,rfl,h⟩⟩
abbrev V7(y u z w:Rat)(M:Mem)(R:DK)(Y:DXK):Prop:=(sz y+sz w+sz z+sz u≤8000)∧R (f6 (y*w - z*u)) M
def jt:DSp:=fun ds M R Y=>∃(y u z w:Rat),ds=[v6 y u,v6 z w]∧V7 y u z w M R Y
theorem gm{y u z w:Rat}{M:Mem}{R:DK}{Y:DXK}:jt [v6 y u,v6 z w] M R Y=(V7 y u z w M R Y):=propext ⟨fun z=>by obtain⟨_,_,_,_,_,_⟩:=z;walk_at "inj",fun h=>⟨y,u,z,w,rfl,h⟩⟩
inductive cy
 | needed (z:Zr)
 | idle (sh:List (Int × Rat))
noncomputable def cy.toD:cy→D
 | .needed z=>.tup [.str "needed",rD z]
 | .idle sh=>.tup [.str "idle",.vl (sh.map shD)]
noncomputable def bZ(ls:List T3)(k:Nat):List T3:=ls.take k++ls.drop (k+1)
noncomputable def grZ(z:Zr)(k:Rat):Zr:=(z.1*k,z.2*k)
noncomputable def wL(ls:List T3)(k:Nat)(l:T3):cy:=match K7 (bZ ls k) l.1 l.2.1 with
 | .free z=>.needed (grZ z ((l.2.2+l.2.2) / (l.1*z.1+l.2.1*z.2)))
 | .most v z sh=>if l.2.2<v then .needed z else .idle (sh.map fun s=>(if s.1<(k:Int)then s.1 else s.1+1,s.2))
abbrev ji(ls:List T3)(k:Nat)(M:Mem)(R:DK)(Y:DXK):Prop:=ls.length≤12∧R (.vl ((bZ ls k).map f8)) M
def CU:DSp:=fun ds M R Y=>∃(ls:List T3) (k:Nat),ds=[.vl (ls.map f8),.int (k:Int)]∧ji ls k M R Y
theorem tD{ls:List T3}{k:Nat}{M:Mem}{R:DK}{Y:DXK}:CU [.vl (ls.map f8),.int (k:Int)] M R Y=(ji ls k M R Y):=propext ⟨fun z=>by obtain⟨_,_,_,_⟩:=z;walk_at "inj",fun h=>⟨ls,k,rfl,h⟩⟩
abbrev cQ(ls:List T3)(k:Nat)(M:Mem)(R:DK)(Y:DXK):Prop:=(K0 ls∧∃ l,ls[k]? = some l∧R (wL ls k l).toD M)
def vz:DSp:=fun ds M R Y=>∃(ls:List T3) (k:Nat),ds=[.vl (ls.map f8),.int (k:Int)]∧cQ ls k M R Y
theorem pA{ls:List T3}{k:Nat}{M:Mem}{R:DK}{Y:DXK}:vz [.vl (ls.map f8),.int (k:Int)] M R Y=(cQ ls k M R Y):=propext ⟨fun z=>by obtain⟨_,_,_,_⟩:=z;walk_at "inj",fun h=>⟨ls,k,rfl,h⟩⟩
abbrev aD(ls:List T3)(y u:Rat)(M:Mem)(R:DK)(Y:DXK):Prop:=(ls.length≤12∧(∀ l∈ls,LSz 600 l)∧sz y≤5000∧sz u≤5000)∧R (.bl (r9 ls y u)) M
def bu:DSp:=fun ds M R Y=>∃(ls:List T3) (y u:Rat),ds=[.vl (ls.map f8),v6 y u]∧aD ls y u M R Y
theorem kW{ls:List T3}{y u:Rat}{M:Mem}{R:DK}{Y:DXK}:bu [.vl (ls.map f8),v6 y u] M R Y=(aD ls y u M R Y):=propext ⟨fun z=>by obtain⟨_,_,_,_,_⟩:=z;walk_at "inj",fun h=>⟨ls,y,u,rfl,h⟩⟩
abbrev Q0(l:T3)(y u:Rat)(M:Mem)(R:DK)(Y:DXK):Prop:=(LSz 600 l∧sz y≤5000∧sz u≤5000)∧R (.bl (T9 l y u)) M
def eF:DSp:=fun ds M R Y=>∃(l:T3) (y u:Rat),ds=[f8 l,v6 y u]∧Q0 l y u M R Y
theorem dm{l:T3}{y u:Rat}{M:Mem}{R:DK}{Y:DXK}:eF [f8 l,v6 y u] M R Y=(Q0 l y u M R Y):=propext ⟨fun z=>by obtain⟨_,_,_,_,_⟩:=z;walk_at "inj",fun h=>⟨l,y,u,rfl,h⟩⟩
abbrev V4(p q y u:Rat)(M:Mem)(R:DK)(Y:DXK):Prop:=(sz p+sz q+sz y+sz u≤20000)∧R (.tup [.int (fF p q y u),.int (aV p q y u)]) M
def cH:DSp:=fun ds M R Y=>∃(p q y u:Rat),ds=[f6 p,f6 q,v6 y u]∧V4 p q y u M R Y
theorem gh{p q y u:Rat}{M:Mem}{R:DK}{Y:DXK}:cH [f6 p,f6 q,v6 y u] M R Y=(V4 p q y u M R Y):=propext ⟨fun z=>by obtain⟨_,_,_,_,_,_⟩:=z;walk_at "inj",fun h=>⟨p,q,y,u,rfl,h⟩⟩
theorem Ez(p q y u:Rat):aV p q y u≠0:=by
 unfold aV
 exact Mj (Mj (Mj (RM.t7 p) (RM.t7 y)) (RM.t7 q)) (RM.t7 u)
theorem yN(p q y u:Rat):Mf (fF p q y u) (aV p q y u)=p*y+q*u:=by
 have e:∀ r:Rat,r=(r.num:Rat) / (r.den:Rat):=fun r=>by
  have:=C3 r
  have h0:(r.den:Rat)≠0:=fun z=>MF r.den_pos (by exact_mod_cast z)
  grind
 have h1:(p.den:Rat)≠0:=fun z=>MF p.den_pos (by exact_mod_cast z)
 have h2:(q.den:Rat)≠0:=fun z=>MF q.den_pos (by exact_mod_cast z)
 have h3:(y.den:Rat)≠0:=fun z=>MF y.den_pos (by exact_mod_cast z)
 have h4:(u.den:Rat)≠0:=fun z=>MF u.den_pos (by exact_mod_cast z)
 have e1:=C3 p
 have e2:=C3 q
 have e3:=C3 y
 have e4:=C3 u
 rw[G6]
 unfold fF aV
 simp only[ND,LI,LZ]
 rw[← e1,← e2,← e3,← e4]
 generalize (p.den:Rat)=a at *
 generalize (q.den:Rat)=b at *
 generalize (y.den:Rat)=c at *
 generalize (u.den:Rat)=d at *
 have hd:a*c*b*d≠0:=fun z=>by grind
 have:p*a*(y*c)*b*d+q*b*(u*d)*a*c=(p*y+q*u)*(a*c*b*d):=by grind
 rw[this,PB hd]
theorem xP{h0:Sd}{l:List Sd}{i:Nat}(h:i<l.length):((h0 :: l)[i]'(by rw[LA];omega),l[i])∈(h0 :: l).zip (l++[g9 h0]):=by
 have hz:i<((h0 :: l).zip (l++[g9 h0])).length:=by rw[MU,LA,LQ];show i<min _ (l.length+1);omega
 have e:((h0 :: l).zip (l++[g9 h0]))[i]=((h0 :: l)[i]'(by rw[LA];omega),l[i]):=by
  rw[Nt,MW h]
 rw[← e]
 exact Na _
theorem Al{ls:List T3}(hok:∀ l∈ls,LineOk l):∀ s∈t9 (e7 ls),s∈e7 ls:=by
 by_cases hne:ls=[]
 ·subst hne;intro s hs;cases hs
 obtain⟨h0,l,e,m0,h⟩:=C6 hok hne
 rw[e]
 intro s hs
 rcases Lz.mp hs with rfl|hs
 ·exact m0
 ·rcases h with⟨rfl,_⟩|⟨_,_,hE⟩
  ·cases hs
  ·obtain⟨i,hi,rfl⟩:=NX.mp hs
   have:=hE _ (xP hi)
   exact this.2.1
theorem wg{q:Rat}:0<q.num↔0<q:=by
 have h1:=T7 (-q)
 rw[OA]at h1
 constructor
 ·intro h;have:=h1.mp (by omega);grind
 ·intro h;have:=h1.mpr (by grind);omega
theorem kH(k:Nat):∀(ls:List T3) (n:Nat),k<n→((ls.zipIdx n).filter fun x=>decide (x.2≠k)).map (·.1)=ls
 | [],_,_=>rfl
 | a :: r,n,h=>by
  rw[Nq,Mb (by simp;omega),LY,kH k r (n+1) (by omega)]
theorem oT:∀(ls:List T3) (n k:Nat),((ls.zipIdx n).filter fun x=>decide (x.2≠n+k)).map (·.1)=ls.take k++ls.drop (k+1)
 | [],_,_=>by simp
 | a :: r,n,0=>by
  rw[Nq,Mk (by simp),Nat.add_zero,kH n r (n+1) (by omega)];simp
 | a :: r,n,k+1=>by
  rw[Nq,Mb (by simp),LY]
  have:=oT r (n+1) k
  rw[show n+1+k=n+(k+1)by omega]at this
  rw[this];simp
theorem Ap(ls:List T3):O7 (ls.map f8)=ls.zipIdx.map fun x=>.tup [.int (x.2:Int),f8 x.1]:=by
 unfold O7
 rw[List.mapIdx_eq_zipIdx_map,List.zipIdx_map,Ms]
 rfl
theorem ze(half:List Sd):half.map sdD++(half.map g9).map sdD=(bY half).map sdD:=by unfold bY;rw[LH]
theorem BF{ls:List T3}(h:K0 ls){a b:Sd}(ha:a∈e7 ls)(hb:b∈e7 ls)(hv:veZ a b≠0):sz (ry (tri a) (tri b)).1≤1281∧sz (ry (tri a) (tri b)).2≤1281:=BE (n:=640) (h.bits a ha) (h.bits b hb) hv
theorem jP{ls:List T3}(h:K0 ls){p q:Rat}{N:Nat}(hp:sz p≤N)(hq:sz q≤N)(hN:600≤N)(hN2:N≤1100) :
  (∀ z,K7 ls p q = .free z→sz z.1≤N∧sz z.2≤N)∧∀ v z sh,K7 ls p q = .most v z sh→sz v≤4800∧(N≤600→sz z.1≤5000∧sz z.2≤5000):=by
 have s1:=RM.uS
 have s0:=RM.ak
 unfold K7
 by_cases c:p=0∧q=0
 ·rw[if_pos c]
  refine⟨fun z hz=>(by cases hz),fun v z sh hz=>?_⟩
  cases hz
  exact⟨by show sz 0≤_;omega,fun _=>⟨by show sz 0≤_;omega,by show sz 0≤_;omega⟩⟩
 rw[if_neg c]
 by_cases hne:ls=[]
 ·subst hne
  refine⟨fun z hz=>?_,fun v z sh hz=>by cases hz⟩
  cases hz
  exact⟨hp,hq⟩
 obtain⟨h0,l,e,m0,hh⟩:=C6 h.lo hne
 rw[e]
 cases l with
 | nil =>
  obtain⟨m,j,em,en,eq⟩:=dW m0
  have hm:=h.2 m (LK em)
  have z1:=hm.p6
  have z2:=hm.q6
  have z3:=hm.r6
  have mn:=hm.ne
  have e2:∀ o:R1,(match [h0]with|[]=>R1.free (p,q)|[h]=>F0 (ls.getD h.2.2.2.1.toNat (0,0,0)) h.2.2.2.1 p q|half=>ix half p q)=o↔F0 m (j:Int) p q=o:=fun o=>by
   show F0 (ls.getD h0.2.2.2.1.toNat (0,0,0)) h0.2.2.2.1 p q=o↔_
   rw[en,Nk,LF,em];rfl
  refine⟨fun z hz=>?_,fun v z sh hz=>?_⟩
  ·have hz:=(e2 _).mp hz
   unfold F0 at hz
   split at hz
   ·cases hz
    exact⟨by show sz m.2.1≤_;omega,by show sz (-m.1)≤_;rw[RM.K2];omega⟩
   ·split at hz
    ·cases hz
     exact⟨by show sz (-m.2.1)≤_;rw[RM.K2];omega,by show sz m.1≤_;omega⟩
    ·cases hz
  ·have hz:=(e2 _).mp hz
   unfold F0 at hz
   split at hz
   ·cases hz
   ·split at hz
    ·cases hz
    ·have sh:sz (if m.1=0 then q / m.2.1 else p / m.1)≤N+600:=by
      split
      ·rename_i w
       have:=RM.P0 q m.2.1 (fun w2=>mn ⟨w,w2⟩)
       omega
      ·rename_i w
       have:=RM.P0 p m.1 w
       omega
     generalize (if m.1=0 then q / m.2.1 else p / m.1)=s at *
     cases hz
     have a1:=dR s
     have a2:=RM.m9 (j8 s) m.2.2
     have sq:=iE c
     have a3:=RM.m9 p p
     have a4:=RM.m9 q q
     have a5:sz (sqZ p q)≤sz (p*p)+sz (q*q)+1:=RM.G8 (p*p) (q*q)
     have a6:=RM.P0 (j8 s*m.2.2) (sqZ p q) (t6 sq)
     have a7:=RM.m9 p (j8 s*m.2.2 / sqZ p q)
     have a8:=RM.m9 q (j8 s*m.2.2 / sqZ p q)
     exact⟨by omega,fun hN=>⟨by show sz (p*_)≤_;omega,by show sz (q*_)≤_;omega⟩⟩
 | cons x l =>
  obtain⟨a,b,ea,A⟩:=fo h.lo e (uF c)
  obtain⟨v1,_⟩:=rC A
  obtain⟨r1,r2⟩:=BF h A.ma A.mb (by have:=A.ve;omega)
  have e2:∀ o:R1,(match h0 :: x :: l with|[]=>R1.free (p,q)|[h]=>F0 (ls.getD h.2.2.2.1.toNat (0,0,0)) h.2.2.2.1 p q|half=>ix half p q)=o↔R1.most (vlF a b (wtF p q) (cb2 p q)) (ry (tri a) (tri b)) (shF a b (wtF p q) (cb2 p q))=o:=fun o=>by
   show(match kA (h0 :: x :: l) (wtF p q)with|none=>R1.free (0,0)|some (a,b)=>.most (vlF a b (wtF p q) (cb2 p q)) (ry (tri a) (tri b)) (shF a b (wtF p q) (cb2 p q)))=o↔_
   rw[ea]
  refine⟨fun z hz=>(by have hz:=(e2 _).mp hz;cases hz),fun v z sh hz=>?_⟩
  have hz:=(e2 _).mp hz
  cases hz
  rw[v1]
  have m1:=RM.m9 p (ry (tri a) (tri b)).1
  have m2:=RM.m9 q (ry (tri a) (tri b)).2
  have m3:=RM.G8 (p*(ry (tri a) (tri b)).1) (q*(ry (tri a) (tri b)).2)
  exact⟨by omega,fun _=>⟨by omega,by omega⟩⟩
theorem K0.oth{ls:List T3}(h:K0 ls)(k:Nat):K0 (bZ ls k):=by
 refine⟨?_,fun l hl=>?_⟩
 ·unfold bZ
  rw[LQ,Ma,Mi]
  have:=h.1;omega
 ·rcases LR.mp hl with hl|hl
  ·exact h.2 l (Mv hl)
  ·exact h.2 l (Pa hl)
theorem uU(l:List (Int × Rat)):(uV l).length=l.length:=by
 unfold uV
 split
 ·split<;>rfl
 ·rfl
theorem zY{ls:List T3}{p q:Rat}{v:Rat}{z:Zr}{sh:List (Int × Rat)}(e:K7 ls p q = .most v z sh):sh.length≤2:=by
 unfold K7 at e
 split at e
 ·cases e;exact Mn _
 ·split at e
  ·cases e
  ·unfold F0 at e
   split at e
   ·cases e
   ·split at e
    ·cases e
    ·cases e;show 1≤2;decide
  ·unfold ix at e
   split at e
   ·cases e
   ·cases e
    unfold shF
    rw[uU]
    exact LB (Ni _ _) (by show 2≤2;decide)
end GM
namespace GM
open PySem PySem.Spec L2 DL
open RM (sz)
noncomputable def fg(v w z:Zr):Rat:=(w.1 - v.1)*(z.2 - v.2) - (w.2 - v.2)*(z.1 - v.1)
theorem Eh{b:T3}{v w z:Zr}(h1:dt b v=b.2.2)(h2:dt b w=b.2.2):b.2.2*fg v w z=cr v w*(b.2.2 - dt b z):=by
 unfold fg cr
 unfold dt at *
 have e:b.1*(w.1 - v.1)+b.2.1*(w.2 - v.2)=0:=by grind
 rw[← h1]
 grind
theorem qJ{b:T3}(rb:0<b.2.2){v w z:Zr}(h1:dt b v=b.2.2)(h2:dt b w=b.2.2)(hc:0<cr v w):0≤fg v w z↔dt b z≤b.2.2:=by
 have e:=Eh (z:=z) h1 h2
 constructor
 ·intro h
  have:0≤cr v w*(b.2.2 - dt b z):=by rw[← e];exact LC (G0 rb) h
  have:=C8 hc this
  grind
 ·intro h
  have:0≤b.2.2*fg v w z:=by rw[e];exact LC (G0 hc) (by grind)
  exact C8 rb this
theorem L0.all{ss:List T3}{A:Nat→T3}{k:Nat}(R:L0 ss A k)(around:∀ w:T3,¬ (w.1=0∧w.2.1=0)→∃ i,i<k∧((0≤GM.ve (A i) w∧0<GM.ve w (A (i+1)))∨(0≤GM.ve (ng (A i)) w∧0<GM.ve w (ng (A (i+1))))))(nz:∀ s∈ss,¬ (s.1=0∧s.2.1=0)){z:Zr}(h:∀ i,1≤i→i≤k→dt (A i) z≤(A i).2.2∧dt (ng (A i)) z≤(A i).2.2):Sup ss z:=fun s hs=>by
 have h':∀ i,i≤k→dt (A i) z≤(A i).2.2∧dt (ng (A i)) z≤(A i).2.2:=fun i hi=>by
  by_cases c:i=0
  ·have:=h k (by have:=R.two;omega) (LM _)
   rw[R.lst,wo]at this
   have e:(ng (A 0)).2.2=(A 0).2.2:=rfl
   rw[e]at this
   rw[c];exact⟨this.2,this.1⟩
  ·exact h i (by omega) hi
 obtain⟨i,hi,c⟩:=around s (nz s hs)
 have key:∀{a b:T3},0<GM.ve a b→Sup ss (ry a b)→0≤GM.ve a s→0<GM.ve s b→dt a z≤a.2.2→dt b z≤b.2.2→dt s z≤s.2.2:=fun{a b} hv su k1 k2 d1 d2=>by
  have e1:=G4 (w:=s) hv z
  have e2:=G4 (w:=s) hv (ry a b)
  rw[fQ (t6 hv),eG (t6 hv)]at e2
  have q1:0≤GM.ve s b*(a.2.2 - dt a z):=LC (G0 k2) (by grind)
  have q2:0≤GM.ve a s*(b.2.2 - dt b z):=LC k1 (by grind)
  have q3:0≤GM.ve a b*(dt s (ry a b) - dt s z):=by grind
  have:=C8 hv q3
  have:=su s hs
  grind
 have v:=R.ve i (by omega)
 have su:=R.sup i (by omega)
 obtain⟨a1,a2⟩:=h' i (by omega)
 obtain⟨b1,b2⟩:=h' (i+1) (by omega)
 rcases c with⟨k1,k2⟩|⟨k1,k2⟩
 ·exact key v su k1 k2 a1 b1
 ·refine key (a:=ng (A i)) (b:=ng (A (i+1))) ?_ ?_ k1 k2 a2 b2
  ·have:GM.ve (ng (A i)) (ng (A (i+1)))=GM.ve (A i) (A (i+1)):=by unfold GM.ve ng;grind
   rw[this];exact v
  ·rw[gN];exact bg R.sy su
theorem yZ{ss:List T3}{A:Nat→T3}{k:Nat}(R:L0 ss A k)(around:∀ w:T3,¬ (w.1=0∧w.2.1=0)→∃ i,i<k∧((0≤GM.ve (A i) w∧0<GM.ve w (A (i+1)))∨(0≤GM.ve (ng (A i)) w∧0<GM.ve w (ng (A (i+1))))))(nz:∀ s∈ss,¬ (s.1=0∧s.2.1=0))(z:Zr):(∀ i,0≤fg (nth (F8 A k) i) (nth (F8 A k) (i+1)) z)↔Sup ss z:=by
 have h2:=R.two
 have st:∀ i,nth (F8 A k) (i+1)=if i % (2*k)<k then rA A (i % (2*k)+1)else ngZ (rA A (i % (2*k)+1 - k)):=fun i=>by
  rw[E3 (by omega),mJ (by omega),R.v1 (MM _ (by omega))]
 have on1:∀ j,j<k→dt (A (j+1)) (rA A j)=(A (j+1)).2.2∧dt (A (j+1)) (rA A (j+1))=(A (j+1)).2.2:=fun j hj=>⟨eG (t6 (R.ve j (by omega))),fQ (t6 (R.ve (j+1) (by omega)))⟩
 have rp:∀ j,j≤k→0<(A j).2.2:=fun j hj=>R.pos _ (R.mem j (by omega))
 have dn:∀(b:T3) (y:Zr),dt (ng b) (ngZ y)=dt b y:=fun b y=>by unfold dt ng ngZ;grind
 have eq1:∀ j,j<k→(0≤fg (rA A j) (rA A (j+1)) z↔dt (A (j+1)) z≤(A (j+1)).2.2):=fun j hj=>qJ (rp (j+1) (by omega)) (on1 j hj).1 (on1 j hj).2 (R.cr hj)
 have eq2:∀ j,j<k→(0≤fg (ngZ (rA A j)) (ngZ (rA A (j+1))) z↔dt (ng (A (j+1))) z≤(A (j+1)).2.2):=fun j hj=>by
  have:=qJ (b:=ng (A (j+1))) (z:=z) (rp (j+1) (by omega)) (v:=ngZ (rA A j)) (w:=ngZ (rA A (j+1))) (by rw[dn];exact(on1 j hj).1) (by rw[dn];exact(on1 j hj).2) (by rw[Cd];exact R.cr hj)
  exact this
 constructor
 ·intro h
  refine R.all around nz fun i h1 hi=>?_
  obtain⟨j,rfl⟩:∃ j,i=j+1:=⟨i - 1,by omega⟩
  have a:=h j
  have b:=h (j+k)
  rw[E3 (by omega),st,Mr (show j<2*k by omega),if_pos (show j<k by omega)]at a
  rw[E3 (by omega),st,Mr (show j+k<2*k by omega),if_neg (show ¬ j+k<k by omega),show j+k+1 - k=j+1 by omega]at b
  unfold vA at a b
  rw[if_pos (show j<k by omega)]at a
  rw[if_neg (show ¬ j+k<k by omega),show j+k - k=j by omega]at b
  exact⟨(eq1 j (by omega)).mp a,(eq2 j (by omega)).mp b⟩
 ·intro h i
  rw[E3 (by omega),st]
  have hi:i % (2*k)<2*k:=MM _ (by omega)
  generalize i % (2*k)=j at *
  unfold vA
  by_cases c:j<k
  ·rw[if_pos c,if_pos c]
   exact(eq1 j c).mpr (h _ (R.mem _ (by omega)))
  ·rw[if_neg c,if_neg c,show j+1 - k=j - k+1 by omega]
   exact(eq2 (j - k) (by omega)).mpr (h _ (R.sy _ (R.mem _ (by omega))))
theorem Eu{ls:List T3}(hok:∀ l∈ls,LineOk l){cs:List Zr}(e:G7 ls=some cs)(y u:Rat):(∀ i,0≤fg (nth cs i) (nth cs (i+1)) (y,u))↔r9 ls y u=true:=by
 rw[← L3 ls (y,u)]
 unfold G7 at e
 cases eh:t9 (e7 ls)with
 | nil=>rw[eh]at e;cases e
 | cons h0 t =>
  cases t with
  | nil=>rw[eh]at e;cases e
  | cons x l =>
   rw[eh]at e
   obtain⟨RC,er⟩:=BG hok eh
   have e:some (aJ (B0 h0 (x :: l)++(B0 h0 (x :: l)).map ngZ))=some cs:=e
   rw[er]at e
   cases e
   have hl:(F8 (fA h0 (x :: l)) ((x :: l).length+1)).length=2*((x :: l).length+1):=aK
   have nn:F8 (fA h0 (x :: l)) ((x :: l).length+1)≠[]:=fun z=>by rw[z]at hl;simp at hl
   have hp:=eK nn _ (LM _)
   have hne:ls≠[]:=fun z=>by rw[z]at eh;cases eh
   have R:Rim ((e7 ls).map tri) (tri h0) ((x :: l).map tri):=by
    obtain⟨g0,m,e',m0,h⟩:=C6 hok hne
    rw[eh]at e'
    cases e'
    rcases h with⟨z,_⟩|⟨_,R,_⟩
    ·cases z
    ·exact R
   have around:∀ w:T3,¬ (w.1=0∧w.2.1=0)→∃ i,i<(x :: l).length+1∧((0≤ve (fA h0 (x :: l) i) w∧0<ve w (fA h0 (x :: l) (i+1)))∨(0≤ve (ng (fA h0 (x :: l) i)) w∧0<ve w (ng (fA h0 (x :: l) (i+1))))):=fun w hw=>by
    obtain⟨ab,hm,hc⟩:=R.arnd w hw
    unfold cj at hm
    have e2:∀ L:List Sd,(tri h0 :: L.map tri).zip (L.map tri++[ng (tri h0)])=((h0 :: L).zip (L++[g9 h0])).map fun ab=>(tri ab.1,tri ab.2):=fun L=>by
     rw[← D8,LY,LH,LY,MP,u6]
    rw[e2 (x :: l)]at hm
    obtain⟨cd,hcd,rfl⟩:=Lv.mp hm
    obtain⟨i,hi,ei⟩:=NX.mp hcd
    have hi2:i<(x :: l).length+1:=by
     rw[MU,LA,LQ]at hi
     exact Lw hi (Qe _ _)
    refine⟨i,hi2,?_⟩
    have g1:=J7 (h0:=h0) (l:=x :: l) hi2
    rw[Nt]at ei
    have f1:fA h0 (x :: l) i=tri cd.1:=by unfold fA;rw[g1,← ei]
    have f2:fA h0 (x :: l) (i+1)=tri cd.2:=by
     unfold fA
     rw[← ei]
     congr 1
     by_cases c:i<(x :: l).length
     ·rw[J7 (show i+1<(x :: l).length+1 by omega),MH,MW c]
     ·obtain rfl:i=(x :: l).length:=by omega
      rw[aa,Nn (LM _)]
      simp
    rw[f1,f2];exact hc
   rw[← yZ RC around (R9 hok)]
   unfold aJ
   constructor
   ·intro h i
    have:=h (i+(F8 (fA h0 (x :: l)) ((x :: l).length+1)).length - G5 (F8 (fA h0 (x :: l)) ((x :: l).length+1)) (F8 (fA h0 (x :: l)) ((x :: l).length+1)).length)
    rw[E5 _ hp,E5 _ hp]at this
    generalize F8 (fA h0 (x :: l)) ((x :: l).length+1)=L at *
    have per:∀ j,nth L (j+L.length)=nth L j:=fun j=>by unfold nth;rw[Nat.add_mod_right]
    rw[show i+L.length - G5 L L.length+G5 L L.length=i+L.length by omega,show i+L.length - G5 L L.length+1+G5 L L.length=i+1+L.length by omega,per,per]at this
    exact this
   ·intro h i
    rw[E5 _ hp,E5 _ hp,show i+1+G5 (F8 (fA h0 (x :: l)) ((x :: l).length+1)) (F8 (fA h0 (x :: l)) ((x :: l).length+1)).length=i+G5 (F8 (fA h0 (x :: l)) ((x :: l).length+1)) (F8 (fA h0 (x :: l)) ((x :: l).length+1)).length+1 by omega]
    exact h _
structure CP(k:Nat)(ls:List T3):Prop where
 cols:R3 k ls
 pos:∀ l∈ls,0<l.2.2
theorem CP.nil:CP 0 []:=⟨R3.nil,fun _ h=>nomatch h⟩
theorem CP.app{k:Nat}{ls:List T3}{l:T3}(h:CP k ls)(c:R3 (k+1) (ls++[l]))(hp:0<l.2.2):CP (k+1) (ls++[l]):=⟨c,fun m hm=>by
 rcases LR.mp hm with hm|hm
 ·exact h.pos m hm
 ·rw[Mh.mp hm];exact hp⟩
theorem kj{k:Nat}{xs:List Rat}(h:Col k xs)(hk:k≤3){x:Rat}(hx:x∈xs):sz x≤200:=by
 obtain⟨B,b0,b1,h⟩:=h
 have:=(h x hx).sz b0 b1
 omega
theorem CP.l28{k:Nat}{ls:List T3}(h:CP k ls)(hk:k≤3):∀ l∈ls,L28 l:=fun l hl =>
 L28.mk3 ⟨(h.cols.ok (by omega) l hl).ne,h.pos l hl⟩ (kj h.cols.p hk (Lv.mpr ⟨l,hl,rfl⟩)) (kj h.cols.q hk (Lv.mpr ⟨l,hl,rfl⟩)) (kj h.cols.r hk (Lv.mpr ⟨l,hl,rfl⟩))
theorem mP{a b:Int}(ha:0<a)(hb:0<b):0<Mf a b:=by
 rw[G6]
 have h1:(0:Rat)<(a:Rat):=t5.mpr ha
 have h2:(0:Rat)<(b:Rat):=t5.mpr hb
 exact Q1 h2 (by rw[NM,Mm (t6 h2)];exact h1)
theorem qZ{ls:List T3}(h:K0 ls){cs:List Zr}(c:iA ls cs):∀ z∈cs,sz z.1≤1281∧sz z.2≤1281:=fun z hz=>by
 obtain⟨_,s,t,ms,mt,hv,es,et⟩:=(c.mem z).mp hz
 obtain⟨a,ha,rfl⟩:=Lv.mp ms
 obtain⟨b,hb,rfl⟩:=Lv.mp mt
 rw[aI hv es et]
 refine BF h ha hb fun e=>hv ?_
 rw[u5,e];rfl
theorem rf{ls:List T3}(h:K0 ls){cs:List Zr}(e:G7 ls=some cs):cs.length≤60:=by
 have hl:=fh h.lo
 have h12:=h.1
 unfold G7 at e
 cases eh:t9 (e7 ls)with
 | nil=>rw[eh]at e;cases e
 | cons h0 t =>
  cases t with
  | nil=>rw[eh]at e;cases e
  | cons x l =>
   rw[eh]at e hl
   have e:some (aJ (B0 h0 (x :: l)++(B0 h0 (x :: l)).map ngZ))=some cs:=e
   cases e
   have rl:=lY h0 (x :: l)
   unfold aJ
   rw[LQ,Mi,Ma,LQ,Lr,rl]
   rw[LA]at hl
   omega
local macro_rules|`(tactic| walk_at "inj")=>`(tactic| (rename_i e h;simp only[List.cons.injEq,GM.P1,GM.O3,GM.Z1,GM.W1,and_true,true_and,GM.i4,GM.j4,GM.i5,GM.j5,GM.i6,D.tup.injEq,D.ref.injEq,D.int.injEq,D.str.injEq,D.bl.injEq,D.vl.injEq,Me,and_assoc]at e;(repeat(obtain⟨e1,e⟩:=e;subst e1));subst e;exact h))
local macro_rules|`(tactic| walk_at "injs")=>`(tactic| (rename_i e o h;rcases o with o|o<;>(subst o;first|(exfalso;simp only[D.tup.injEq,List.cons.injEq,reduceCtorEq,false_and,and_false]at e;done)|(simp only[List.cons.injEq,GM.P1,GM.O3,GM.Z1,GM.W1,and_true,true_and,GM.i4,GM.j4,GM.i5,GM.j5,GM.i6,D.tup.injEq,D.ref.injEq,D.int.injEq,D.str.injEq,D.bl.injEq,D.vl.injEq,Me,and_assoc]at e;(repeat(obtain⟨e1,e⟩:=e;subst e1));subst e;exact h))))
abbrev V8(xs:List D)(M:Mem)(R:DK)(Y:DXK):Prop:=∃ ns:List Int,xs=ns.map D.int∧ns.length≤63∧∀ ms:List Int,ms.length≤3→R (.vl (ms.map D.int)) M
def ju:DSp:=fun ds M R Y=>∃(xs:List D),ds=[.vl xs,.int 3]∧V8 xs M R Y
theorem gp{xs:List D}{M:Mem}{R:DK}{Y:DXK}:ju [.vl xs,.int 3] M R Y=(V8 xs M R Y):=propext ⟨fun z=>by obtain⟨_,_,_⟩:=z;walk_at "inj",fun h=>⟨xs,rfl,h⟩⟩
abbrev aC(p:Addr)(M:Mem)(R:DK)(Y:DXK):Prop:=A1 M p∧∀(l:T3) M',LOk 41 l→0<l.2.2→j9 p M M'→R (f8 l) M'
def nZ:DSp:=fun ds M R Y=>∃(p:Addr),ds=[.ref p]∧aC p M R Y
theorem kU{p:Addr}{M:Mem}{R:DK}{Y:DXK}:nZ [.ref p] M R Y=(aC p M R Y):=propext ⟨fun z=>by obtain⟨_,_,_⟩:=z;walk_at "inj",fun h=>⟨p,rfl,h⟩⟩
abbrev V6(p:Addr)(M:Mem)(R:DK)(Y:DXK):Prop:=A1 M p∧∀(ls:List T3) M',ls.length≤3→(∀ l∈ls,L28 l)→j9 p M M'→R (.vl (ls.map f8)) M'
def jl:DSp:=fun ds M R Y=>∃(p:Addr),ds=[.ref p,.int 3]∧V6 p M R Y
theorem gj{p:Addr}{M:Mem}{R:DK}{Y:DXK}:jl [.ref p,.int 3] M R Y=(V6 p M R Y):=propext ⟨fun z=>by obtain⟨_,_,_⟩:=z;walk_at "inj",fun h=>⟨p,rfl,h⟩⟩
abbrev V5(p:Addr)(M:Mem)(R:DK)(Y:DXK):Prop:=A1 M p∧∀ x M',F3 x→j9 p M M'→R (A3 x) M'
def jh:DSp:=fun ds M R Y=>∃(p:Addr),ds=[.ref p]∧V5 p M R Y
theorem gi{p:Addr}{M:Mem}{R:DK}{Y:DXK}:jh [.ref p] M R Y=(V5 p M R Y):=propext ⟨fun z=>by obtain⟨_,_,_⟩:=z;walk_at "inj",fun h=>⟨p,rfl,h⟩⟩
abbrev cS(p:Addr)(ls:List T3)(M:Mem)(R:DK)(Y:DXK):Prop:=(A1 M p∧K0 ls)∧∀(a b:Rat) M',sz a≤1100→sz b≤1100→j9 p M M'→R (v6 a b) M'
def vD:DSp:=fun ds M R Y=>∃(p:Addr) (ls:List T3),ds=[.ref p,.vl (ls.map f8)]∧cS p ls M R Y
theorem pE{p:Addr}{ls:List T3}{M:Mem}{R:DK}{Y:DXK}:vD [.ref p,.vl (ls.map f8)] M R Y=(cS p ls M R Y):=propext ⟨fun z=>by obtain⟨_,_,_,_⟩:=z;walk_at "inj",fun h=>⟨p,ls,rfl,h⟩⟩
abbrev jo(y u z w:Rat)(M:Mem)(R:DK)(Y:DXK):Prop:=(sz y+sz w+sz u+sz z≤8000)∧R (f6 (y*w - u*z)) M
def CW:DSp:=fun ds M R Y=>∃(y u z w:Rat),ds=[v6 y u,v6 z w]∧jo y u z w M R Y
theorem tH{y u z w:Rat}{M:Mem}{R:DK}{Y:DXK}:CW [v6 y u,v6 z w] M R Y=(jo y u z w M R Y):=propext ⟨fun z=>by obtain⟨_,_,_,_,_,_⟩:=z;walk_at "inj",fun h=>⟨y,u,z,w,rfl,h⟩⟩
abbrev cO(l:T3)(p q:Rat)(M:Mem)(R:DK)(Y:DXK):Prop:=(sz l.1+sz q+sz l.2.1+sz p≤8000)∧R (f6 (l.1*q - l.2.1*p)) M
def vx:DSp:=fun ds M R Y=>∃(l:T3) (p q:Rat),ds=[f8 l,v6 p q]∧cO l p q M R Y
theorem pw{l:T3}{p q:Rat}{M:Mem}{R:DK}{Y:DXK}:vx [f8 l,v6 p q] M R Y=(cO l p q M R Y):=propext ⟨fun z=>by obtain⟨_,_,_,_,_⟩:=z;walk_at "inj",fun h=>⟨l,p,q,rfl,h⟩⟩
abbrev jq(rs:List Zr)(y u:Rat)(M:Mem)(R:DK)(Y:DXK):Prop:=((rs≠[]∧rs.length≤60∧∀ z∈rs,sz z.1≤1281∧sz z.2≤1281)∧sz y≤41∧sz u≤41)∧∃ b:Bool,((∀ i,0≤fg (nth rs i) (nth rs (i+1)) (y,u))↔b=true)∧R (.bl b) M
def CZ:DSp:=fun ds M R Y=>∃(rs:List Zr) (y u:Rat),ds=[.vl (rs.map rD),v6 y u]∧jq rs y u M R Y
theorem tI{rs:List Zr}{y u:Rat}{M:Mem}{R:DK}{Y:DXK}:CZ [.vl (rs.map rD),v6 y u] M R Y=(jq rs y u M R Y):=propext ⟨fun z=>by obtain⟨_,_,_,_,_⟩:=z;walk_at "inj",fun h=>⟨rs,y,u,rfl,h⟩⟩
abbrev cJ(ls:List T3)(x:D)(p q:Rat)(M:Mem)(R:DK)(Y:DXK):Prop:=(K0 ls∧x=eM (G7 ls)∧sz p≤1100∧sz q≤1100)∧R (.bl true) M
def vq:DSp:=fun ds M R Y=>∃(ls:List T3) (x:D) (p q:Rat),ds=[.vl (ls.map f8),x,f6 p,f6 q]∧cJ ls x p q M R Y
theorem pf{ls:List T3}{x:D}{p q:Rat}{M:Mem}{R:DK}{Y:DXK}:vq [.vl (ls.map f8),x,f6 p,f6 q] M R Y=(cJ ls x p q M R Y):=propext ⟨fun z=>by obtain⟨_,_,_,_,_,_⟩:=z;walk_at "inj",fun h=>⟨ls,x,p,q,rfl,h⟩⟩
abbrev cR(ls:List T3)(x:D)(k:Nat)(M:Mem)(R:DK)(Y:DXK):Prop:=(K0 ls∧x=eM (G7 ls)∧k<ls.length)∧R (.bl true) M
def vB:DSp:=fun ds M R Y=>∃(ls:List T3) (x:D) (k:Nat),ds=[.vl (ls.map f8),x,.int (k:Int)]∧cR ls x k M R Y
theorem pB{ls:List T3}{x:D}{k:Nat}{M:Mem}{R:DK}{Y:DXK}:vB [.vl (ls.map f8),x,.int (k:Int)] M R Y=(cR ls x k M R Y):=propext ⟨fun z=>by obtain⟨_,_,_,_,_⟩:=z;walk_at "inj",fun h=>⟨ls,x,k,rfl,h⟩⟩
abbrev V9(q r:Rat)(M:Mem)(R:DK)(Y:DXK):Prop:=sz q+sz r≤20000∧R (.bl (decide (q<r))) M
def jy:DSp:=fun ds M R Y=>∃(q r:Rat),ds=[f6 q,f6 r]∧V9 q r M R Y
theorem gq{q r:Rat}{M:Mem}{R:DK}{Y:DXK}:jy [f6 q,f6 r] M R Y=(V9 q r M R Y):=propext ⟨fun z=>by obtain⟨_,_,_,_⟩:=z;walk_at "inj",fun h=>⟨q,r,rfl,h⟩⟩
theorem Hf{ls:List T3}(al:D1 ls){z:Zr}(h:Cn2 ((e7 ls).map tri) z):False:=by
 obtain⟨s,t,ms,mt,hv,_,_⟩:=h.two
 obtain⟨s,hs,rfl⟩:=Lv.mp ms
 obtain⟨t,ht,rfl⟩:=Lv.mp mt
 obtain⟨a,ha,i,ea⟩:=B8 hs
 obtain⟨b,hb,j,eb⟩:=B8 ht
 have z0:ve (tri (g5 a i)) (tri (g5 b j))=0:=by rw[ai,al a ha b hb];grind
 refine hv ?_
 have ea':tri s=tri (g5 a i)∨tri s=ng (tri (g5 a i)):=by
  rcases ea with h|h
  ·left;rw[h]
  ·right;rw[h,u6]
 have eb':tri t=tri (g5 b j)∨tri t=ng (tri (g5 b j)):=by
  rcases eb with h|h
  ·left;rw[h]
  ·right;rw[h,u6]
 rcases ea' with h|h<;>rcases eb' with h'|h'<;>(rw[h,h'];clear hv h h';generalize tri (g5 a i)=A at *;generalize tri (g5 b j)=B at *;unfold ve at *;first|exact z0|(unfold ng;grind))
theorem qA(o:Option (List Zr)):cl 60 (eM o)=true:=by
 cases o with
 | none=>rfl
 | some cs=>exact km (k:=59) fun x hx=>(by obtain⟨z,hz,rfl⟩:=Lv.mp hx;rfl)
theorem sO{a b:D}(h:a=b){i:Decidable (a=b)}:@decide (a=b) i=true:=decide_eq_true h
theorem wK{α:Type}(f:α→Bool):∀ xs:List α,inV (.bl true) (xs.map fun x=>V.bl (f x))=xs.any f
 | []=>rfl
 | x :: xs=>by
  have ih:=wK f xs
  rw[LY,Oz,← ih]
  cases h:f x<;>rfl
theorem Cq{α:Type}{xs:List α}{f:α→Bool}{M:Mem}{R:DK}(r:R (.bl (xs.any f)) M):gIn false (.bl true) (.vl (xs.map fun x=>D.bl (f x))) M R :=
 ⟨.bl true,xs.map fun x=>D.bl (f x),xs.map fun x=>V.bl (f x),rfl,by simp only[i9],by rw[Ms,Ms];rfl,by rw[if_neg (by decide),wK];exact r⟩
end GM
namespace K28
open PySem PySem.Spec L2 DL GM
open RM (sz)
open PyProof.Rows hiding St
local macro_rules|`(tactic| walk_at "sim")=>do
 let f:=fun(b:Bool) (p:String) (s:String)=>((s.splitOn " ").mapM (fun s=>(let i:=Lean.mkIdent (p++s).toName;if b then `(Lean.Parser.Tactic.simpLemma| ↓$i:ident)else `(Lean.Parser.Tactic.simpLemma| $i:ident))):Lean.MacroM _)
 let a := "z_C Fu Fs Fp Fq Fo Fm Fl uh By BA Ft Bk uD Bj uq Fw Br Bl uz Be Bo uB Fx ur Bg uy Bh qd pR ug pS dO lb Bz Bi uo Bp BB Bn Bm Bq Bt Bs uu uA Bf lA um qc qe lh gK lj pQ ux uf pP Bu Bw qi Bd pU uj ui lu qh qg pT pZ pW pY pX pV uk lr qb Bv Bx uv uw Fv uE uC bL dz gx dA gw bK dq gv du gu bO dG gD dH gC bN dE gB dF gA bM dB gz dD gy bQ dM gJ dN gH bP dI gG dJ gE EY EW EV EU ET ES ER EO EN EM AN AM AL Fj Fi Fh Fg Ff Fe Fd Fc Fb EZ Bc Bb Ba X4 X3 iB ue ud uc ua tZ tY tX tW tV tU tT tS tR AZ AY AX AW AV AU AS AR AQ AO"
 let b := "kZ gr pF tQ tP tO tN pI pH pG pJ pO pN pK tM pE gq tL tK gp pD gn gm tJ kY kX pC gk pB pA tI pz tH pw pv kW dm kU gj dk ah kT tF pq pk pj pf tE tD pe gi tw tu tm tj sZ kS di gh kR kQ pd oZ oY kP kO kN oX bJ kM oW gg kL dh oV kK kJ kI oU gf jz cS V9 jw jv V8 aH V7 js aG aF aE cR cQ jq cP cO jo cN aD Q0 aC V6 K4 aA jk cM cL cK cJ jj ji cI V5 T5 V4 az ay cG cF ax aw cE av"
 let xs:=((← f true "DL." a)++(← f true "GM." b)++(← f false "GM." b)++(← f false "DL." a)++(← f false "" "DL.yE DL.yy DL.yn DL.yg DL.yF DL.yz DL.yo DL.yh DL.yG DL.yA DL.yp DL.yi DL.yH DL.yB DL.yq DL.yj DL.yI DL.yC DL.yr DL.yk DL.yJ DL.yD DL.yt DL.ym DL.xU DL.ya DL.xV DL.yb DL.xW DL.yc DL.xX DL.yd DL.xY DL.ye DL.xZ DL.yf GM.yu GM.yv GM.yw GM.yx DL.CH DL.CG DL.CF DL.CC DL.CA DL.Cz DL.Cy DL.Cw DL.Cv DL.xT DL.xS DL.xR Nat.reduceAdd Nat.reduceLT Nat.reduceLeDiff Oj Int.reduceLT Int.reduceLE Int.reduceEq eq_self decide_true decide_false D.int.injEq D.str.injEq beq_self_eq_true and_self true_and and_true not_true_eq_false not_false_eq_true false_implies true_implies forall_const U5 LY MP List.cons_append Qj Ng LA List.length_nil Nc nc List.getElem?_cons_zero List.getElem?_cons_succ Option.getD_some decide_eq_true_eq decide_eq_false_iff_not Bool.not_eq_true' Bool.not_eq_false' Bool.and_self Pr Bool.and_true Bool.xor_false Bool.false_xor Bool.true_xor Bool.not_true Bool.not_false Nz Bool.true_eq_false reduceIte GM.r0 GM.r1 GM.r2 GM.r4 GM.rm1 GM.rm2 GM.i4 GM.Di GM.FN GM.BH GM.Dh")).toArray
 `(tactic| try simp only[$xs,*])
local macro_rules|`(tactic| walk_at "fn")=>do
 let i:=fun(s:String)=>Lean.mkIdent s.toName
 let x:=(("f cdv A outer s H E ds M R Y hr h".splitOn " ").map i).toArray
 `(tactic| (refine $(i "h7") $(i "d") $(i "sc") (by walk_at "len") (fun $x*=>?_);have $(i "hu"):ident:=$(i "hr.units")))
local macro_rules|`(tactic| walk_at "len")=>`(tactic| (intro ds M R Y h;repeat(first|exact congrArg Pc h.1|(obtain⟨_,h⟩:=h))))
local macro_rules|`(tactic| walk_at "size")=>`(tactic| first|omega|grind only[RM.m9,RM.G8,RM.dQ,RM.K2,RM.uS,RM.ak,GM.dR])
local macro_rules|`(tactic| walk_at "sc")=>`(tactic| exact⟨rfl,rfl,rfl,by decide +kernel,rfl,by decide +kernel,by decide +kernel⟩)
noncomputable def top(i:Nat):Stmt:=PySem.Challenge.pw_roundglass_k28_whole_corners_and_most.main.body.getD i (.Pass ⟨0,0,0,0⟩)
noncomputable abbrev P7:Stmt:=top 55
noncomputable abbrev eB:Stmt:=top 40
noncomputable abbrev bj:Stmt:=top 41
noncomputable abbrev nS:Stmt:=top 42
noncomputable abbrev nT:Stmt:=top 16
noncomputable abbrev Y6:Stmt:=top 28
noncomputable abbrev N5:Stmt:=top 29
noncomputable abbrev Y3:Stmt:=top 8
noncomputable abbrev eD:Stmt:=top 18
noncomputable abbrev bo:Stmt:=top 6
noncomputable abbrev Y5:Stmt:=top 5
noncomputable abbrev iZ:Stmt:=top 7
noncomputable abbrev eA:Stmt:=top 20
noncomputable abbrev eC:Stmt:=top 26
noncomputable abbrev nO:Stmt:=top 21
noncomputable abbrev S2:Stmt:=top 24
noncomputable abbrev S3:Stmt:=top 22
noncomputable abbrev S0:Stmt:=top 23
noncomputable abbrev L5:Stmt:=top 15
noncomputable abbrev D3:Stmt:=top 14
noncomputable abbrev Y2:Stmt:=top 19
noncomputable abbrev Y7:Stmt:=top 25
noncomputable abbrev br:Stmt:=top 30
noncomputable abbrev iY:Stmt:=top 12
noncomputable abbrev jb:Stmt:=top 35
noncomputable abbrev nQ:Stmt:=top 13
noncomputable abbrev X9:Stmt:=top 44
noncomputable abbrev nP:Stmt:=top 10
noncomputable abbrev K3:Stmt:=top 45
noncomputable abbrev N3:Stmt:=top 46
noncomputable abbrev Y1:Stmt:=top 9
noncomputable abbrev ja:Stmt:=top 11
noncomputable abbrev jd:Stmt:=top 34
noncomputable abbrev P2:Stmt:=top 47
noncomputable abbrev nR:Stmt:=top 48
noncomputable abbrev S1:Stmt:=top 50
noncomputable abbrev nU:Stmt:=top 51
noncomputable abbrev E2:Stmt:=top 75
noncomputable abbrev Z0:Stmt:=top 57
noncomputable abbrev S7:Stmt:=top 54
noncomputable abbrev S4:Stmt:=top 56
noncomputable abbrev N6:Stmt:=top 62
noncomputable abbrev Y9:Stmt:=top 63
noncomputable abbrev Y8:Stmt:=top 58
noncomputable abbrev T1:Stmt:=top 60
noncomputable abbrev S9:Stmt:=top 71
noncomputable abbrev P5:Stmt:=top 59
noncomputable abbrev J2:Stmt:=top 72
noncomputable abbrev N7:Stmt:=top 73
noncomputable abbrev P8:Stmt:=top 61
noncomputable abbrev P4:Stmt:=top 66
noncomputable abbrev E1:Stmt:=top 74
noncomputable abbrev P9:Stmt:=top 70
noncomputable abbrev S8:Stmt:=top 64
noncomputable abbrev P6:Stmt:=top 65
noncomputable abbrev N4:Stmt:=top 37
noncomputable abbrev Y4:Stmt:=top 39
noncomputable abbrev T0:Stmt:=top 67
noncomputable abbrev S6:Stmt:=top 69
noncomputable abbrev S5:Stmt:=top 53
noncomputable abbrev vm:Stmt:=top 76
theorem fN:f7 ["script","bound","found","k"] ["script","bound"] (e6 P7):=by walk_at "sc"
theorem rN:f7 ["p","q","ray","y","u","top"] ["p","q","ray"] (e6 eB):=by walk_at "sc"
theorem nJ:f7 ["line","ray","p","q","r","top","bottom"] ["line","ray"] (e6 bj):=by walk_at "sc"
theorem yU:f7 ["lines","ray"] ["lines","ray"] (e6 nS):=by walk_at "sc"
theorem yV:f7 ["one","other"] ["one","other"] (e6 nT):=by walk_at "sc"
theorem lQ:f7 ["one","other"] ["one","other"] (e6 Y6):=by walk_at "sc"
theorem ee:f7 ["rays","place","number","ray"] ["rays"] (e6 N5):=by walk_at "sc"
theorem lN:f7 ["one"] ["one"] (e6 Y3):=by walk_at "sc"
theorem rP:f7 ["side","p","q","r","number","scale"] ["side"] (e6 eD):=by walk_at "sc"
theorem nK:f7 ["one","other"] ["one","other"] (e6 bo):=by walk_at "sc"
theorem lP:f7 ["thing"] ["thing"] (e6 Y5):=by walk_at "sc"
theorem vg:f7 ["top","bottom","share"] ["top","bottom"] (e6 iZ):=by walk_at "sc"
theorem iK:f7 ["one","other"] ["one","other"] (e6 eA):=by walk_at "sc"
theorem rO:f7 ["one","other","bottom","y","u"] ["one","other"] (e6 eC):=by walk_at "sc"
theorem yQ:f7 ["one","other","third"] ["one","other","third"] (e6 nO):=by walk_at "sc"
theorem iN:f7 ["sides","here","found","side","bend"] ["sides","here"] (e6 S2):=by walk_at "sc"
theorem iP:f7 ["one","other","more"] ["one","other"] (e6 S3):=by walk_at "sc"
theorem iL:f7 ["sides","found","side"] ["sides"] (e6 S0):=by walk_at "sc"
theorem au:f7 ["ratios","bottom"] ["ratios","bottom"] (e6 L5):=by walk_at "sc"
theorem O4:f7 ["ratios","bottom","one"] ["ratios"] (e6 D3):=by walk_at "sc"
theorem lM:f7 ["lines","sides","number","line","scale","p","q","r","side"] ["lines"] (e6 Y2):=by walk_at "sc"
theorem lR:f7 ["lines","sides","half","here"] ["lines"] (e6 Y7):=by walk_at "sc"
theorem nN:f7 ["lines","half","rays"] ["lines"] (e6 br):=by walk_at "sc"
theorem vd:f7 ["one","other"] ["one","other"] (e6 iY):=by walk_at "sc"
theorem vj:f7 ["ray","share"] ["ray","share"] (e6 jb):=by walk_at "sc"
theorem yS:f7 ["one","other"] ["one","other"] (e6 nQ):=by walk_at "sc"
theorem lK:f7 ["p","q","ray","top","bottom"] ["p","q","ray"] (e6 X9):=by walk_at "sc"
theorem yR:f7 ["one","other"] ["one","other"] (e6 nP):=by walk_at "sc"
theorem bX:f7 ["half","wanted","rim","found","one","other"] ["half","wanted"] (e6 K3):=by walk_at "sc"
theorem dY:f7 ["half","p","q","bottom","wanted","one","other","of_one","of_other","whole","value","shares"] ["half","p","q"] (e6 N3):=by walk_at "sc"
theorem lL:f7 ["one"] ["one"] (e6 Y1):=by walk_at "sc"
theorem vh:f7 ["one","other"] ["one","other"] (e6 ja):=by walk_at "sc"
theorem vk:f7 ["one","other","y","u","z","w"] ["one","other"] (e6 jd):=by walk_at "sc"
theorem fJ:f7 ["lines","number","p","q","own_p","own_q","r","bend","share","value","ray"] ["lines","number","p","q"] (e6 P2):=by walk_at "sc"
theorem yT:f7 ["lines","p","q","half"] ["lines","p","q"] (e6 nR):=by walk_at "sc"
theorem iM:f7 ["lines","k"] ["lines","k"] (e6 S1):=by walk_at "sc"
theorem yW:f7 ["lines","k","p","q","r","told","ray","word","value","shares"] ["lines","k"] (e6 nU):=by walk_at "sc"
theorem X7:f7 ["lines","rays","k","found","others"] ["lines","rays","k"] (e6 E2):=by walk_at "sc"
theorem lU:f7 ["top","bottom","one","other"] ["top","bottom"] (e6 Z0):=by walk_at "sc"
theorem iT:f7 ["pool","base","digit","near","stir"] ["pool","base"] (e6 S7):=by walk_at "sc"
theorem iQ:f7 ["pool","base","number","turn_v"] ["pool","base"] (e6 S4):=by walk_at "sc"
theorem eu:f7 ["pool","pick","far"] ["pool"] (e6 N6):=by walk_at "sc"
theorem lT:f7 ["pool"] ["pool"] (e6 Y9):=by walk_at "sc"
theorem lS:f7 ["one","other"] ["one","other"] (e6 Y8):=by walk_at "sc"
theorem iX:f7 ["one"] ["one"] (e6 T1):=by walk_at "sc"
theorem iV:f7 ["one","other"] ["one","other"] (e6 S9):=by walk_at "sc"
theorem fL:f7 ["one","other"] ["one","other"] (e6 P5):=by walk_at "sc"
theorem X0:f7 ["one","other"] ["one","other"] (e6 J2):=by walk_at "sc"
theorem ey:f7 ["rays","ray","k","one","other","along","to"] ["rays","ray"] (e6 N7):=by walk_at "sc"
theorem fO:f7 ["one","other"] ["one","other"] (e6 P8):=by walk_at "sc"
theorem fK:f7 ["p","q","ray"] ["p","q","ray"] (e6 P4):=by walk_at "sc"
theorem X6:f7 ["lines","rays","p","q","found","along","worths"] ["lines","rays","p","q"] (e6 E1):=by walk_at "sc"
theorem fP:f7 ["pool","lines","p","q","pick","one","by","other"] ["pool","lines"] (e6 P9):=by walk_at "sc"
theorem iU:f7 ["pool","p","q"] ["pool"] (e6 S8):=by walk_at "sc"
theorem fM:f7 ["pool","most_lines","found","k","line","pick","ahead","by","one","other"] ["pool","most_lines"] (e6 P6):=by walk_at "sc"
theorem dZ:f7 ["part","ray","word","number","y","u"] ["part","ray"] (e6 N4):=by walk_at "sc"
theorem lO:f7 ["bench","lines","level","axis","part"] ["bench"] (e6 Y4):=by walk_at "sc"
theorem iW:f7 ["one"] ["one"] (e6 T0):=by walk_at "sc"
theorem iS:f7 ["pool","pick"] ["pool"] (e6 S6):=by walk_at "sc"
theorem iR:f7 ["cell"] ["cell"] (e6 S5):=by walk_at "sc"
theorem CT:f7 ["script","cell","pool","bench","lines","rays","turn_v","p","q","ray","k"] ["script"] (e6 vm):=by walk_at "sc"
structure Txt(K:Lo)(mg:Str→Option Value):Prop where
 b_abs:mg "abs" = none
 b_all:mg "all" = none
 b_any:mg "any" = none
 b_bool:mg "bool" = none
 b_enumerate:mg "enumerate" = none
 b_int:mg "int" = none
 b_isinstance:mg "isinstance" = none
 b_len:mg "len" = none
 b_list:mg "list" = none
 b_max:mg "max" = none
 b_min:mg "min" = none
 b_range:mg "range" = none
 b_sorted:mg "sorted" = none
 b_zip:mg "zip" = none
 sub:xD K
 c_AXIS_RAY:GlD K mg "AXIS_RAY" (.tup [(.tup [(.int 0),(.int 1)]),(.tup [(.int 1),(.int 1)])])
 c_LEVEL_RAY:GlD K mg "LEVEL_RAY" (.tup [(.tup [(.int 1),(.int 1)]),(.tup [(.int 0),(.int 1)])])
 c_NOUGHT:GlD K mg "NOUGHT" (.tup [(.int 0),(.int 1)])
section
variable {P:Program} {w:World} {K:Lo} {mg:Str→Option Value} {base:Heap}
theorem fX(T:Txt K mg)(d:Df K mg "_law_cells" P7 ["script","bound"]):Fn P w K mg base "_law_cells" 1 ["script","bound"] ju:=by
 have sc:=fN
 walk_at "fn"
 obtain⟨xs,rfl,ns,rfl,hl,k⟩:=h
 refine⟨_,(d7 (jst 2 sc.nd (wG (L7 (wH rfl T.b_list Av (a9 (C4 (d4 0) B6 (B5 (d4 1))) d5)) (C5 (a9 d6 d5))) B6 (B5 (p8 (Ck rfl) rfl T.b_max xx (a9 d6 (a9 (p8 (Cj rfl) rfl T.b_min xw (a9 (d4 1) (a9 (p8 U8 rfl T.b_len K9 (a9 (d4 0) d5)) d5))) d5)))))) (d7 (t8 PassesOwn.never rfl (wC rfl T.b_range (a9 (d4 1) (a9 (p8 U8 rfl T.b_len K9 (a9 (d4 0) d5)) d5))) (jn 3 sc.nd) (d8 (v8 (e8 B1 (e8 h9 (jx (d4 2) (e8 R4 (d4 3) (d4 1))) d6) (jx (d4 0) (d4 3))) (jS (d4 2) (e8 R4 (d4 3) (d4 1)))))) (d8 (d9 (bD (bC (d4 2))))))),?_⟩
 walk_at "sim"
 unfold dSl
 walk_at "sim"
 have l1:(ns.map D.int).length=ns.length:=Lr ..
 have e3:DL.R5 (ns.map D.int) none (some 3)=(ns.take 3).map D.int:=by rw[show(3:Int)=((3:Nat):Int)from rfl,bG,NH]
 obtain⟨m,hm,hm1,hm2⟩:∃ m:Nat,max 1 (min 3 ((ns.map D.int).length:Int))=(m:Int)∧m≤3∧(3<ns.length→m=3):=⟨max 1 (min 3 ns.length),by rw[l1];omega,by omega,by omega⟩
 rw[e3,hm,show(ns.take 3).map D.int++[D.int 0]=(ns.take 3++[0]).map D.int by rw[LH];rfl]
 refine⟨LB (show _≤4 by rw[Lr,Ma];omega) (by decide),?_⟩
 have hz:((ns.take 3++[0]).take m).length≤3∧(3<ns.length→((ns.take 3++[0]).take m).length=3):=by
  rw[Ma,LQ,Ma]
  show min m (min 3 ns.length+1)≤3∧_
  exact⟨by omega,fun h=>by show min m (min 3 ns.length+1)=3;have:=hm2 h;omega⟩
 refine⟨_,rfl,fun p hp=>?_⟩
 rw[bG,← NH]
 generalize (ns.take 3++[0]).take m=ms0 at *
 refine⟨by omega,?_⟩
 refine R6.by (fun i e M'=>(∃ z3:Option D,e=[some (D.vl (ns.map D.int)),some (D.int 3),some (D.ref p),z3])∧∃ ms:List Int,ms.length=ms0.length∧M'=B9 M p (.lst (ms.map D.int))) ⟨⟨_,rfl⟩,ms0,rfl,rfl⟩ (fun i e M' _ _=>trivial) ?_ ?_
 ·rintro i dd e M' hd ⟨⟨z3,rfl⟩,ms,hml,rfl⟩
  obtain⟨hi,rfl⟩:=W0 hd
  have h3:ms.length=3:=by rw[hml];exact hz.2 (by omega)
  have hj:∃ j:Nat,((3:Int)+(i:Int)) % 3=(j:Int)∧j<3:=⟨((3+i) % 3),by omega,by omega⟩
  obtain⟨j,ej,hj⟩:=hj
  have hgj:ms[j]? = some (ms[j]'(by omega)):=LJ (by omega)
  generalize ms[j]'(by omega)=v at hgj
  have hgi:ns[3+i]? = some (ns[3+i]'(by omega)):=LJ (by omega)
  generalize ns[3+i]'(by omega)=w at hgi
  walk_at "sim"
  rw[ej]
  refine⟨_,E9 h8 (q9 (n:=j) (by rw[LS,hgj];rfl)),?_⟩
  walk_at "sim"
  refine⟨IntMulOk.of_right (by decide),?_⟩
  rw[show(3:Int)+(i:Int)=((3+i:Nat):Int)by omega]
  refine⟨_,(show ixD _ (D.vl (ns.map D.int)) _=some (D.int w)from q9 (n:=3+i) (by rw[LS,hgi];rfl)),?_⟩
  walk_at "sim"
  refine AF (j:=j) h8 (by rw[Lr];omega) ⟨⟨_,rfl⟩,ms.set j (v*31+w),by rw[Qb];exact hml,?_⟩
  rw[R8,List.map_set]
 ·rintro e M' ⟨⟨z3,rfl⟩,ms,hml,rfl⟩
  walk_at "sim"
  rw[dP h8,U6 hp]
  exact⟨_,fun _ _ h=>h,k ms (by omega)⟩
theorem si(T:Txt K mg)(d:Df K mg "sum_by" eB ["p","q","ray"]):Fn P w K mg base "sum_by" 1 ["p","q","ray"] cH:=by
 have sc:=rN
 walk_at "fn"
 obtain⟨p,q,y,u,rfl,hz,k⟩:=h
 refine⟨_,(d7 (v8 (d4 2) (p9 (n:=2) rfl (e9 (jn 3 sc.nd) (e9 (jn 4 sc.nd) j0)))) (d7 (jst 5 sc.nd (e8 B1 (e8 h9 (e8 h9 (e8 h9 (jx (d4 0) d6) (jx (d4 3) d6)) (jx (d4 1) d6)) (jx (d4 4) d6)) (e8 h9 (e8 h9 (e8 h9 (jx (d4 1) d6) (jx (d4 4) d6)) (jx (d4 0) d6)) (jx (d4 3) d6)))) (d8 (d9 (f9 (a9 (d4 5) (a9 (e8 h9 (e8 h9 (e8 h9 (jx (d4 0) d6) (jx (d4 3) d6)) (jx (d4 1) d6)) (jx (d4 4) d6)) d5))))))),?_⟩
 walk_at "sim"
 exact⟨j6 _ _ (v7 p) (v7 y) (by omega),j6 _ _ (F6 (v7 p) (v7 y)) (o8 q) (by omega),j6 _ _ (F6 (F6 (v7 p) (v7 y)) (o8 q)) (o8 u) (by omega),j6 _ _ (v7 q) (v7 u) (by omega),j6 _ _ (F6 (v7 q) (v7 u)) (o8 p) (by omega),j6 _ _ (F6 (F6 (v7 q) (v7 u)) (o8 p)) (o8 y) (by omega),j6 _ _ (o8 p) (o8 y) (by omega),j6 _ _ (F6 (o8 p) (o8 y)) (o8 q) (by omega),j6 _ _ (F6 (F6 (o8 p) (o8 y)) (o8 q)) (o8 u) (by omega),k⟩
theorem om(T:Txt K mg)(d:Df K mg "lets_by" bj ["line","ray"])(Jf:Fn P w K mg base "sum_by" 1 ["p","q","ray"] cH):Fn P w K mg base "lets_by" 2 ["line","ray"] eF:=by
 have sc:=nJ
 walk_at "fn"
 obtain⟨l,y,u,rfl,⟨⟨h1,h2,h3⟩,h4,h5⟩,k⟩:=h
 refine⟨_,(d7 (v8 (d4 0) (p9 (n:=3) rfl (e9 (jn 2 sc.nd) (e9 (jn 3 sc.nd) (e9 (jn 4 sc.nd) j0))))) (d7 (v8 (jc Jf hr (a9 (d4 2) (a9 (d4 3) (a9 (d4 1) d5)))) (p9 (n:=2) rfl (e9 (jn 5 sc.nd) (e9 (jn 6 sc.nd) j0)))) (d8 (d9 (jm HS (e8 h9 (p8 fm rfl T.b_abs af (a9 (d4 5) d5)) (jx (d4 4) d6)) (e8 h9 (jx (d4 4) d6) (d4 6))))))),?_⟩
 walk_at "sim"
 have e:decide (((fF l.1 l.2.1 y u).natAbs:Int)*(l.2.2.den:Int)≤l.2.2.num*aV l.1 l.2.1 y u)=T9 l y u:=by
  rw[Ny,decide_eq_true_iff];exact sE
 rw[e]
 exact⟨by omega,j6 _ _ (by rw[Lu];exact CJ _ _ _ _) (o8 _) (by omega),j6 _ _ (v7 _) (xy _ _ _ _) (by omega),k⟩
theorem zS(T:Txt K mg)(d:Df K mg "lets" nS ["lines","ray"])(JU:Fn P w K mg base "lets_by" 2 ["line","ray"] eF):Fn P w K mg base "lets" 3 ["lines","ray"] bu:=by
 have sc:=yU
 walk_at "fn"
 obtain⟨ls,y,u,rfl,⟨h1,h2,h3,h4⟩,k⟩:=h
 refine⟨_,(d8 (d9 (p8 (Hm rfl) rfl T.b_all Ey (a9 (E8 [1] ["line"] ["ray"] rfl (by decide +kernel) rfl (by decide +kernel) (by decide +kernel) rfl (aY ⟨rfl,rfl⟩) (aY (Or.inl rfl)) (y4 (d4 0)) (fun _ _ _ _ _ _=>(jn 0 (show(["line","ray"]:List Str).Nodup by decide +kernel))) (fun _ _ _ _ _ _=>A5) (fun _ _ _ _ _ _=>(jc JU hr (a9 (d4 0) (a9 (d4 1) d5))))) d5)))),?_⟩
 walk_at "sim"
 refine B7 (fun l=>D.bl (T9 l y u)) (by omega) (by simp only[i9,u7]) (fun l hl Q hQ=>?_) ?_
 ·walk_at "sim"
  exact⟨⟨h2 l hl,h3,h4⟩,hQ⟩
 ·rw[show ls.map (fun l=>D.bl (T9 l y u))=(ls.map fun l=>T9 l y u).map D.bl by rw[Ms];rfl]
  walk_at "sim"
  rw[show(ls.map fun l=>T9 l y u).all id=r9 ls y u by rw[List.all_map];rfl]
  exact k
theorem zT(T:Txt K mg)(d:Df K mg "less" nT ["one","other"]):Fn P w K mg base "less" 1 ["one","other"] iG:=by
 have sc:=yV
 refine h7 d sc (fun ds M R Y h=>?_) (fun f cdv A outer s H E ds M R Y hr h=>?_)
 ·obtain⟨q,r,rfl,_⟩:=h;rfl
 ·obtain⟨q,r,rfl,hz,k⟩:=h
  refine⟨_,(d8 (d9 (jm aM (e8 h9 (jx (d4 0) d6) (jx (d4 1) d6)) (e8 h9 (jx (d4 1) d6) (jx (d4 0) d6))))),?_⟩
  refine⟨_,rfl,_,rfl,_,rfl,_,rfl,_,_,rfl,rfl,mND hz,_,rfl,_,rfl,_,rfl,_,rfl,_,_,rfl,rfl,mND (by omega),_,rfl,?_⟩
  rw[← RM.BJ]at k
  exact k
theorem my(T:Txt K mg)(d:Df K mg "is_lower" Y6 ["one","other"])(JF:Fn P w K mg base "less" 1 ["one","other"] iG):Fn P w K mg base "is_lower" 2 ["one","other"] nY:=by
 have sc:=lQ
 walk_at "fn"
 obtain⟨a,b,rfl,⟨ha,hb⟩,k⟩:=h
 refine⟨_,(d7 (i0 (jtm (wd hu) (jx (d4 0) d6) (jx (d4 1) d6)) (d8 (d9 (jc JF hr (a9 (jx (d4 0) d6) (a9 (jx (d4 1) d6) d5))))) g6) (d8 (d9 (jc JF hr (a9 (jx (d4 0) d6) (a9 (jx (d4 1) d6) d5)))))),?_⟩
 walk_at "sim"
 unfold L1 at k
 obtain⟨a1,a2⟩:=ha
 obtain⟨b1,b2⟩:=hb
 refine⟨fun z=>⟨by omega,?_⟩,fun z=>⟨by omega,?_⟩⟩
 ·rw[if_neg z]at k;exact k
 ·rw[if_pos z]at k;exact k
theorem eP(T:Txt K mg)(d:Df K mg "from_lowest" N5 ["rays"])(JH:Fn P w K mg base "is_lower" 2 ["one","other"] nY):Fn P w K mg base "from_lowest" 3 ["rays"] og:=by
 have sc:=ee
 walk_at "fn"
 obtain⟨rs,rfl,⟨hne,hl,hz⟩,k⟩:=h
 refine⟨_,(d7 (jst 1 sc.nd d6) (d7 (t8 PassesOwn.never rfl (fb rfl T.b_enumerate (a9 (d4 0) d5)) (p9 (n:=2) rfl (e9 (jn 2 sc.nd) (e9 (jn 3 sc.nd) j0))) (d8 (i0 (Q4 (jc JH hr (a9 (d4 3) (a9 (jx (d4 0) (d4 1)) d5)))) (d8 (jst 1 sc.nd (d4 2))) g6))) (d8 (d9 (L7 (C4 (d4 0) (B5 (d4 1)) B6) (C4 (d4 0) B6 (B5 (d4 1)))))))),?_⟩
 walk_at "sim"
 refine R6.by (fun i e M'=>M'=M∧∃ z2 z3:Option D,e=[some (.vl (rs.map rD)),some (.int ((G5 rs i:Nat):Int)),z2,z3]) ⟨rfl,_,_,rfl⟩ (fun i e M' _ _=>by simp only[i9]) ?_ ?_
 ·rintro i dd e M' hd ⟨rfl,z2,z3,rfl⟩
  obtain⟨d,hd2,rfl⟩:=mN hd
  rw[LS]at hd2
  cases hq:rs[i]? with
  | none=>rw[hq]at hd2;cases hd2
  | some c =>
   rw[hq]at hd2
   obtain rfl:=Option.some.inj hd2
   have hi:=(LP.mp hq).1
   have hp:=eK hne i (by omega)
   have e1:rs[G5 rs i]? = some (rs.getD (G5 rs i) (0,0)):=by rw[LJ hp];simp[hp]
   have e2:rs.getD i (0,0)=c:=by simp[hq]
   have ex:atI (rs.map rD) ((G5 rs i:Nat):Int)=some (rD (rs.getD (G5 rs i) (0,0))):=q9 (by rw[LS,e1];rfl)
   walk_at "sim"
   refine⟨_,ex,?_⟩
   walk_at "sim"
   have es:G5 rs (i+1)=if L1 c (rs.getD (G5 rs i) (0,0))=true then i else G5 rs i:=by
    show(if L1 (rs.getD i (0,0)) _=true then _ else _)=_
    rw[e2]
   rw[es]
   refine⟨⟨hz c (LK hq),hz _ (LK e1)⟩,fun z=>⟨some (.int (i:Int)),some (rD c),?_⟩,fun z=>⟨some (.int (i:Int)),some (rD c),?_⟩⟩
   ·rw[if_pos z]
   ·rw[if_neg (by rw[z];decide)]
 ·rintro e M' ⟨rfl,z2,z3,rfl⟩
  rw[J8,Lr]
  walk_at "sim"
  rw[de,bG]
  refine⟨?_,?_⟩
  ·have h1:((rs.map rD).drop (G5 rs rs.length)).length≤rs.length:=by rw[Mi,Lr];omega
   have h2:((rs.map rD).take (G5 rs rs.length)).length≤rs.length:=by rw[Ma,Lr];omega
   exact LB (Nat.add_le_add h1 h2) (LB (by omega:rs.length+rs.length≤1000) (by decide))
  ·rw[← PC,← NH,← LH]
   exact k
theorem mv(T:Txt K mg)(d:Df K mg "opposite" Y3 ["one"]):Fn P w K mg base "opposite" 1 ["one"] dS:=by
 have sc:=lN
 refine h7 d sc (fun ds M R Y h=>?_) (fun f cdv A outer s H E ds M R Y hr h=>?_)
 ·obtain⟨q,rfl,_⟩:=h;rfl
 ·obtain⟨q,rfl,k⟩:=h
  refine⟨_,(d8 (d9 (f9 (a9 (U4 (jx (d4 0) d6)) (a9 (jx (d4 0) d6) d5))))),?_⟩
  refine⟨_,rfl,_,rfl,_,rfl,_,rfl,_,rfl,sl 2,?_⟩
  have e:f6 (-q) = .tup [.int (-q.num),.int (q.den:Int)]:=by unfold f6;rw[OA,Pf]
  rw[e]at k
  exact k
theorem sk(T:Txt K mg)(d:Df K mg "facing" eD ["side"]):Fn P w K mg base "facing" 1 ["side"] vC:=by
 have sc:=rP
 walk_at "fn"
 obtain⟨a,rfl,k⟩:=h
 unfold sdD
 refine⟨_,(d7 (v8 (d4 0) (p9 (n:=5) rfl (e9 (jn 1 sc.nd) (e9 (jn 2 sc.nd) (e9 (jn 3 sc.nd) (e9 (jn 4 sc.nd) (e9 (jn 5 sc.nd) j0))))))) (d8 (d9 (f9 (a9 (U4 (d4 1)) (a9 (U4 (d4 2)) (a9 (d4 3) (a9 (d4 4) (a9 (U4 (d4 5)) d5))))))))),?_⟩
 walk_at "sim"
 exact k
theorem oo(T:Txt K mg)(d:Df K mg "divisor" bo ["one","other"]):Fn P w K mg base "divisor" 1 ["one","other"] O2:=by
 have sc:=nK
 refine h7 d sc (fun ds M R Y h=>?_) (fun f cdv A outer s H E ds M R Y hr h=>?_)
 ·obtain⟨a,b,rfl,_⟩:=h;rfl
 ·obtain⟨a,b,rfl,k⟩:=h
  refine⟨_,(d7 (bB PassesOwn.never (jtm Gf (d4 1) d6) (d8 (W3 (i:=0) (j:=1) rfl sc.nd rfl rfl (by decide) rfl rfl (a9 (d4 1) (a9 (e8 R4 (d4 0) (d4 1)) d5))))) (d8 (d9 (d4 0)))),?_⟩
  refine⟨fun m e M'=>M'=M∧∃ u:Nat,e=[some (.int (u:Int)),some (.int (m:Int))]∧Mz u m=Mz a b,⟨b,rfl,a,rfl,rfl⟩,?_⟩
  rintro v e M' ⟨rfl,u,rfl,hg⟩
  refine⟨_,rfl,_,rfl,_,rfl,?_⟩
  refine Gu (fun h0=>?_) (fun h0=>?_)
  ·have hv:0<v:=by omega
   refine⟨_,rfl,_,rfl,_,rfl,_,_,rfl,rfl,by omega,_,_,rfl,?_⟩
   exact⟨u % v,MM _ hv,rfl,v,rfl,by rw[← RM.mM u v (by omega)];exact hg⟩
  ·have hv:v=0:=by omega
   subst hv
   rw[PD]at hg
   subst hg
   exact⟨_,rfl,k⟩
theorem mx(T:Txt K mg)(d:Df K mg "is_whole" Y5 ["thing"]):Fn P w K mg base "is_whole" 1 ["thing"] qm:=by
 have sc:=lP
 refine h7 d sc (fun ds M R Y h=>?_) (fun f cdv A outer s H E ds M R Y hr h=>?_)
 ·obtain⟨n,rfl,_⟩:=h;rfl
 ·obtain⟨n,rfl,k⟩:=h
  refine⟨_,(d8 (d9 (jU (p8 (Cm T.sub) rfl T.b_isinstance X2 (a9 (d4 0) (a9 (BL rfl T.b_int Ew) d5))) (cX (jT (p8 (Cm T.sub) rfl T.b_isinstance X2 (a9 (d4 0) (a9 (BL rfl T.b_bool Aw) d5)))))))),?_⟩
  refine⟨_,rfl,_,_,_,_,rfl,rfl,rfl,_,rfl,?_⟩
  refine Gs ?_
  exact⟨_,rfl,_,_,_,_,rfl,rfl,rfl,_,rfl,k⟩
theorem vY(T:Txt K mg)(d:Df K mg "ratio" iZ ["top","bottom"])(Jh:Fn P w K mg base "is_whole" 1 ["thing"] qm)(II:Fn P w K mg base "divisor" 1 ["one","other"] O2):Fn P w K mg base "ratio" 2 ["top","bottom"] D9:=by
 have sc:=vg
 refine h7 d sc (fun ds M R Y h=>?_) (fun f cdv A outer s H E ds M R Y hr h=>?_)
 ·obtain⟨p,b,rfl,_⟩:=h;rfl
 ·obtain⟨a,b,rfl,hb,hl,k⟩:=h
  refine⟨_,(d7 (i0 (L6 (gZ (jV (Q4 (jc Jh hr (a9 (d4 0) d5)))) (gZ (jV (Q4 (jc Jh hr (a9 (d4 1) d5)))) (fc (jtm D7 (d4 1) d6))))) (d8 sF) g6) (d7 (jst 2 sc.nd (jc II hr (a9 (p8 fm rfl T.b_abs af (a9 (d4 0) d5)) (a9 (p8 fm rfl T.b_abs af (a9 (d4 1) d5)) d5)))) (d7 (i0 (jtm aM (d4 1) d6) (d8 (jst 2 sc.nd (U4 (d4 2)))) g6) (d8 (d9 (f9 (a9 (e8 K6 (d4 0) (d4 2)) (a9 (e8 K6 (d4 1) (d4 2)) d5)))))))),?_⟩
  refine⟨_,rfl,_,rfl,true,rfl,?_⟩
  refine Gv ?_
  refine⟨_,rfl,_,rfl,true,rfl,?_⟩
  refine Gv ?_
  refine⟨_,rfl,_,rfl,_,rfl,?_⟩
  refine wJ (fun h=>absurd h hb) (fun _=>?_)
  refine⟨_,rfl,_,rfl,_,rfl,_,rfl,a.natAbs,b.natAbs,rfl,?_⟩
  have hn:=wQ (a:=a) hb
  have hlg:=qK (a:=a) hb hl
  refine⟨_,rfl,_,rfl,_,rfl,?_⟩
  refine wJ (fun h1=>?_) (fun h1=>?_)
  ·have c1:∀ i:Int,CFd i (-((Mz a.natAbs b.natAbs:Nat):Int)):=fun i=>⟨by omega,by rw[Ml];exact hlg⟩
   refine⟨_,rfl,_,rfl,_,rfl,_,rfl,_,_,rfl,rfl,c1 _,_,rfl,_,rfl,_,_,rfl,rfl,c1 _,sl 2,?_⟩
   exact cW hb (by rw[if_pos h1]) k
  ·have c1:∀ i:Int,CFd i ((Mz a.natAbs b.natAbs:Nat):Int):=fun i=>⟨hn,hlg⟩
   refine⟨_,rfl,_,rfl,_,_,rfl,rfl,c1 _,_,rfl,_,rfl,_,_,rfl,rfl,c1 _,sl 2,?_⟩
   exact cW hb (by rw[if_neg h1]) k
theorem zN(T:Txt K mg)(d:Df K mg "veer" eA ["one","other"]):Fn P w K mg base "veer" 1 ["one","other"] eE:=by
 have sc:=iK
 walk_at "fn"
 obtain⟨a,b,rfl,⟨ha,hb⟩,k⟩:=h
 unfold sdD
 refine⟨_,(d8 (d9 (e8 F5 (e8 h9 (jx (d4 0) d6) (jx (d4 1) d6)) (e8 h9 (jx (d4 0) d6) (jx (d4 1) d6))))),?_⟩
 walk_at "sim"
 exact⟨j6 _ _ ha.p hb.q (by decide),j6 _ _ ha.q hb.p (by decide),k⟩
theorem sj(T:Txt K mg)(d:Df K mg "met_at" eC ["one","other"])(IE:Fn P w K mg base "ratio" 2 ["top","bottom"] D9)(IH:Fn P w K mg base "veer" 1 ["one","other"] eE):Fn P w K mg base "met_at" 3 ["one","other"] yX:=by
 have sc:=rO
 walk_at "fn"
 obtain⟨a,b,rfl,⟨ha,hb,hv⟩,k⟩:=h
 refine⟨_,(d7 (jst 2 sc.nd (jc IH hr (a9 (d4 0) (a9 (d4 1) d5)))) (d7 (jst 3 sc.nd (jc IE hr (a9 (e8 F5 (e8 h9 (jx (d4 0) d6) (jx (d4 1) d6)) (e8 h9 (jx (d4 1) d6) (jx (d4 0) d6))) (a9 (d4 2) d5)))) (d7 (jst 4 sc.nd (jc IE hr (a9 (e8 F5 (e8 h9 (jx (d4 0) d6) (jx (d4 1) d6)) (e8 h9 (jx (d4 1) d6) (jx (d4 0) d6))) (a9 (d4 2) d5)))) (d8 (d9 (f9 (a9 (d4 3) (a9 (d4 4) d5)))))))),?_⟩
 walk_at "sim"
 have lv:(veZ a b).natAbs.log2<9000:=Lw (K8 (ha.ve hb) (by decide)) (by decide)
 refine⟨⟨ha,hb⟩,j6 _ _ ha.r hb.q (by decide),j6 _ _ hb.r ha.q (by decide),hv,lv,j6 _ _ ha.p hb.r (by decide),j6 _ _ hb.p ha.r (by decide),hv,lv,?_⟩
 rw[← vE]at k
 exact k
theorem zO(T:Txt K mg)(d:Df K mg "turn" nO ["one","other","third"])(IH:Fn P w K mg base "veer" 1 ["one","other"] eE):Fn P w K mg base "turn" 2 ["one","other","third"] vn:=by
 have sc:=yQ
 walk_at "fn"
 obtain⟨a,b,c,rfl,⟨ha,hb,hc⟩,k⟩:=h
 refine⟨_,(d8 (d9 (e8 B1 (e8 F5 (e8 h9 (jx (d4 0) d6) (jc IH hr (a9 (d4 1) (a9 (d4 2) d5)))) (e8 h9 (jx (d4 1) d6) (jc IH hr (a9 (d4 0) (a9 (d4 2) d5))))) (e8 h9 (jx (d4 2) d6) (jc IH hr (a9 (d4 0) (a9 (d4 1) d5))))))),?_⟩
 walk_at "sim"
 have v1:=ha.ve hb
 have v2:=ha.ve hc
 have v3:=hb.ve hc
 exact⟨⟨hb,hc⟩,j6 _ _ ha.r v3 (by decide),⟨ha,hc⟩,j6 _ _ hb.r v2 (by decide),⟨ha,hb⟩,j6 _ _ hc.r v1 (by decide),k⟩
theorem jE(T:Txt K mg)(d:Df K mg "next_side" S2 ["sides","here"])(IH:Fn P w K mg base "veer" 1 ["one","other"] eE)(Ky:Fn P w K mg base "turn" 2 ["one","other","third"] vn):Fn P w K mg base "next_side" 3 ["sides","here"] CV:=by
 have sc:=iN
 walk_at "fn"
 obtain⟨ss,g,rfl,⟨hg,hz⟩,k⟩:=h
 refine⟨_,(d7 (jst 2 sc.nd Z8) (d7 (t8 PassesOwn.never rfl (y4 (d4 0)) (jn 3 sc.nd) (d8 (i0 (jtm eU (jc IH hr (a9 (d4 1) (a9 (d4 3) d5))) d6) (d7 (jst 4 sc.nd (ff (jtm Gh (d4 2) Z8) (U4 d6) (jc Ky hr (a9 (d4 1) (a9 (d4 2) (a9 (d4 3) d5)))))) (d8 (i0 (L6 (gZ (jtm aM (d4 4) d6) (fc (L6 (Q5 (jtm D7 (d4 4) d6) (J6 (jtm eU (jc IH hr (a9 (d4 2) (a9 (d4 3) d5))) d6))))))) (d8 (jst 2 sc.nd (d4 3))) g6))) g6))) (d8 (d9 (d4 2))))),?_⟩
 walk_at "sim"
 refine R6.by (fun i e M'=>M'=M∧(∀ f,(ss.take i).foldl (Q2 g) none=some f→SzS f)∧∃ z3 z4:Option D,e=[some (.vl (ss.map sdD)),some (sdD g),some (mj ((ss.take i).foldl (Q2 g) none)),z3,z4]) ⟨rfl,fun f z=>(by cases z),_,_,rfl⟩ (fun i e M' _ h=>by rw[h.1];simp only[i9]) ?_ ?_
 ·rintro i dd e M' hd ⟨rfl,hf,z3,z4,rfl⟩
  rw[LS]at hd
  cases hq:ss[i]? with
  | none=>rw[hq]at hd;cases hd
  | some t =>
   rw[hq]at hd
   obtain rfl:=Option.some.inj hd
   have ht:=hz t (LK hq)
   have e1:(ss.take (i+1)).foldl (Q2 g) none=Q2 g ((ss.take i).foldl (Q2 g) none) t:=by
    rw[Nl,hq,MS];rfl
   rw[e1]
   generalize (ss.take i).foldl (Q2 g) none=f at *
   walk_at "sim"
   refine⟨⟨hg,ht⟩,fun z=>?_,fun z=>?_⟩
   ·cases f with
    | none =>
     have en:Q2 g none t=some t:=by unfold Q2;rw[if_pos z];rfl
     rw[en,show mj none=D.non from rfl,lB (b:=true) rfl]
     walk_at "sim"
     refine⟨fun f' hf'=>by cases hf';exact ht,_,_,rfl⟩
    | some f =>
     have hff:=hf f rfl
     rw[show mj (some f)=sdD f from rfl,lB (b:=false) rfl]
     walk_at "sim"
     refine⟨⟨hg,hff,ht⟩,?_⟩
     have en:∀ b:Bool,Az g (some f) t=b→Q2 g (some f) t=if b=true then some t else some f:=fun b hb=>by unfold Q2;rw[if_pos z,hb]
     have done:∀ b:Bool,Az g (some f) t=b→(∀ f',Q2 g (some f) t=some f'→SzS f')∧mj (Q2 g (some f) t)=if b=true then sdD t else sdD f:=fun b hb=>by
      rw[en b hb]
      cases b with
      | true=>exact⟨fun f' h=>by cases h;exact ht,rfl⟩
      | false=>exact⟨fun f' h=>by cases h;exact hff,rfl⟩
     refine⟨fun z1=>?_,fun z1=>⟨fun z2=>⟨⟨hff,ht⟩,fun z3=>?_,fun z3=>?_⟩,fun z2=>?_⟩⟩
     ·obtain⟨q1,q2⟩:=done true (by show(decide _ || _)=true;rw[decide_eq_true z1];rfl)
      exact⟨q1,some (sdD t),some (.int (tnZ g f t)),by rw[q2];rfl⟩
     ·obtain⟨q1,q2⟩:=done true (by show(decide _ || (decide _ && decide _))=true;rw[decide_eq_true z2,decide_eq_true z3,Bool.or_eq_true];exact .inr rfl)
      exact⟨q1,some (sdD t),some (.int (tnZ g f t)),by rw[q2];rfl⟩
     ·obtain⟨q1,q2⟩:=done false (by show(decide _ || (decide _ && decide _))=false;rw[decide_eq_false z1,decide_eq_false z3,Ot];rfl)
      exact⟨q1,some (sdD t),some (.int (tnZ g f t)),by rw[q2];rfl⟩
     ·obtain⟨q1,q2⟩:=done false (by show(decide _ || (decide _ && decide _))=false;rw[decide_eq_false z1,decide_eq_false z2];rfl)
      exact⟨q1,some (sdD t),some (.int (tnZ g f t)),by rw[q2];rfl⟩
   ·have en:Q2 g f t=f:=by unfold Q2;rw[if_neg z]
    rw[en]
    exact⟨hf,_,_,rfl⟩
 ·rintro e M' ⟨rfl,hf,z3,z4,rfl⟩
  walk_at "sim"
  rw[Lr,Nb]
  exact k
theorem jF(T:Txt K mg)(d:Df K mg "juts_more" S3 ["one","other"]):Fn P w K mg base "juts_more" 1 ["one","other"] vy:=by
 have sc:=iP
 walk_at "fn"
 obtain⟨a,b,rfl,⟨ha,hb⟩,k⟩:=h
 refine⟨_,(d7 (jst 2 sc.nd (e8 F5 (e8 h9 (jx (d4 0) d6) (jx (d4 1) d6)) (e8 h9 (jx (d4 1) d6) (jx (d4 0) d6)))) (d7 (i0 (jtm D7 (d4 2) d6) (d8 (jst 2 sc.nd (e8 F5 (e8 h9 (jx (d4 0) d6) (jx (d4 1) d6)) (e8 h9 (jx (d4 1) d6) (jx (d4 0) d6))))) g6) (d8 (d9 (jm eU (d4 2) d6))))),?_⟩
 walk_at "sim"
 refine⟨j6 _ _ ha.p hb.r (by decide),j6 _ _ hb.p ha.r (by decide),fun z=>⟨j6 _ _ ha.q hb.r (by decide),j6 _ _ hb.q ha.r (by decide),?_⟩,fun z=>?_⟩
 ·unfold E6 at k
  rw[if_pos z]at k
  exact k
 ·unfold E6 at k
  rw[if_neg z]at k
  exact k
theorem jC(T:Txt K mg)(d:Df K mg "outermost" S0 ["sides"])(Jr:Fn P w K mg base "juts_more" 1 ["one","other"] vy):Fn P w K mg base "outermost" 2 ["sides"] vp:=by
 have sc:=iL
 walk_at "fn"
 obtain⟨ss,rfl,⟨s,r,e⟩,hz,k⟩:=h
 have e0:ss.headD (0,0,0,0,0)=s:=by rw[e];rfl
 rw[e0]at k
 refine⟨_,(d7 (jst 1 sc.nd (jx (d4 0) d6)) (d7 (t8 PassesOwn.never rfl (y4 (d4 0)) (jn 2 sc.nd) (d8 (i0 (Q4 (jc Jr hr (a9 (d4 2) (a9 (d4 1) d5)))) (d8 (jst 1 sc.nd (d4 2))) g6))) (d8 (d9 (d4 1))))),?_⟩
 walk_at "sim"
 have ei:atI (ss.map sdD) 0=some (sdD s):=by rw[e];exact q9 (n:=0) rfl
 refine⟨_,ei,?_⟩
 have hs:SzS s:=hz s (by rw[e];exact Ly)
 refine R6.by (fun i e M'=>M'=M∧∃ z:Option D,e=[some (.vl (ss.map sdD)),some (sdD (A4 (ss.take i) s)),z]) ⟨rfl,_,rfl⟩ (fun i e M' _ h=>by rw[h.1];simp only[i9]) ?_ ?_
 ·rintro i dd e M' hd ⟨rfl,z,rfl⟩
  rw[LS]at hd
  cases hq:ss[i]? with
  | none=>rw[hq]at hd;cases hd
  | some t =>
   rw[hq]at hd
   obtain rfl:=Option.some.inj hd
   have ht:=hz t (LK hq)
   have ho:SzS (A4 (ss.take i) s):=by
    rcases aL (ss.take i) s with h|h
    ·rw[h];exact hs
    ·exact hz _ (Mv h)
   have e1:A4 (ss.take (i+1)) s=if E6 t (A4 (ss.take i) s)=true then t else A4 (ss.take i) s:=by
    unfold A4
    rw[Nl,hq,MS];rfl
   rw[e1]
   walk_at "sim"
   refine⟨⟨ht,ho⟩,fun z=>⟨some (sdD t),?_⟩,fun z=>⟨some (sdD t),?_⟩⟩
   ·rw[if_pos z]
   ·rw[if_neg (by rw[z];decide)]
 ·rintro e M' ⟨rfl,z,rfl⟩
  walk_at "sim"
  rw[Lr,Nb]
  exact k
theorem jB(T:Txt K mg)(d:Df K mg "tops_over" L5 ["ratios","bottom"]):Fn P w K mg base "tops_over" 1 ["ratios","bottom"] nW:=by
 have sc:=au
 walk_at "fn"
 obtain⟨l,c,rfl,⟨hl,rfl⟩,k⟩:=h
 refine⟨_,(d8 (d9 (E8 [1] ["one"] ["bottom"] rfl (by decide +kernel) rfl (by decide +kernel) (by decide +kernel) rfl (aY ⟨rfl,rfl⟩) (aY (Or.inl rfl)) (y4 (d4 0)) (fun _ _ _ _ _ _=>(jn 0 (show(["one","bottom"]:List Str).Nodup by decide +kernel))) (fun _ _ _ _ _ _=>A5) (fun _ _ _ _ _ _=>(e8 h9 (jx (d4 0) d6) (e8 K6 (d4 1) (jx (d4 0) d6))))))),?_⟩
 walk_at "sim"
 refine rF (ds:=[l.1,l.2.1,l.2.2].map f6) (by show u9 M (.tup _) _;rw[u7];rfl) ?_
 refine B7 (xs:=[l.1,l.2.1,l.2.2]) (enc:=f6) (fun q=>.int (L8 q (cbL l))) (by show 3≤1000;decide) (by show u9 M (.tup _) _;rw[u7];rfl) (fun q hq Q hQ=>?_) k
 have hqs:sz q≤1300:=by
  simp only[Lz,LU,or_false]at hq
  rcases hq with rfl|rfl|rfl
  ·exact hl.p
  ·exact hl.q
  ·exact hl.r
 have d0:=q.den_pos
 have hd:q.den<2 ^ 1300:=o9 q hqs
 have ef:((cbL l:Nat):Int).fdiv (q.den:Int)=((cbL l / q.den:Nat):Int):=by rw[aS (by omega) (by omega)];rfl
 walk_at "sim"
 rw[ef]
 refine⟨⟨by omega,Lw (K8 (by rw[Lu];exact hd) (by decide)) (by decide)⟩,j6 1300 3901 (D4 q hqs) (by rw[Lu];exact LO (Nh _ _) hl.cb) (by decide),hQ⟩
theorem bx(T:Txt K mg)(d:Df K mg "common_bottom" D3 ["ratios"])(II:Fn P w K mg base "divisor" 1 ["one","other"] O2):Fn P w K mg base "common_bottom" 2 ["ratios"] Dc:=by
 have sc:=O4
 walk_at "fn"
 obtain⟨l,rfl,hl,k⟩:=h
 refine⟨_,(d7 (jst 1 sc.nd d6) (d7 (t8 PassesOwn.never rfl (y4 (d4 0)) (jn 2 sc.nd) (d8 (jst 1 sc.nd (e8 h9 (e8 K6 (d4 1) (jc II hr (a9 (d4 1) (a9 (jx (d4 2) d6) d5)))) (jx (d4 2) d6))))) (d8 (d9 (d4 1))))),?_⟩
 walk_at "sim"
 refine rF (ds:=[l.1,l.2.1,l.2.2].map f6) (by show u9 M (.tup _) _;rw[u7];rfl) ?_
 refine R6.by (fun i e M'=>M'=M∧∃ z:Option D,e=[some (f8 l),some (.int ((([l.1,l.2.1,l.2.2].take i).foldl (fun c q=>B3 c q.den) 1:Nat):Int)),z]) ⟨rfl,_,rfl⟩ (fun i e M' _ h=>by rw[h.1];show u9 M (.tup _) _;rw[u7];rfl) ?_ ?_
 ·rintro i dd e M' hd ⟨rfl,z,rfl⟩
  rw[LS]at hd
  cases hq:[l.1,l.2.1,l.2.2][i]? with
  | none=>rw[hq]at hd;cases hd
  | some q =>
   rw[hq]at hd
   obtain rfl:=Option.some.inj hd
   have e1:([l.1,l.2.1,l.2.2].take (i+1)).foldl (fun c q=>B3 c q.den) 1=B3 (([l.1,l.2.1,l.2.2].take i).foldl (fun c q=>B3 c q.den) 1) q.den:=by
    rw[Nl,hq,MS];rfl
   have hi:=(LP.mp hq).1
   have hqs:sz q≤1300:=by
    have:=LK hq
    simp only[Lz,LU,or_false]at this
    rcases this with rfl|rfl|rfl
    ·exact hl.p
    ·exact hl.q
    ·exact hl.r
   have hc:0<([l.1,l.2.1,l.2.2].take i).foldl (fun c q=>B3 c q.den) 1:=by
    have:∀(xs:List Rat) (c:Nat),0<c→0<xs.foldl (fun c q=>B3 c q.den) c:=fun xs=>by
     induction xs with
     | nil=>exact fun c h=>h
     | cons x xs ih=>exact fun c h=>ih _ (by show 0<B3 c x.den;rw[Q3];exact OE h x.den_pos)
    exact this _ _ (by decide)
   have hd:q.den<2 ^ 1300:=o9 q hqs
   rw[e1]
   have hb:([l.1,l.2.1,l.2.2].take i).foldl (fun c q=>B3 c q.den) 1<2 ^ 4000:=by
    have:=kn ([l.1,l.2.1,l.2.2].take i) 1 1 (fun x hx=>hl.all x (Mv hx)) (by decide)
    refine Lw this (LX (by decide) ?_)
    have:([l.1,l.2.1,l.2.2].take i).length≤3:=by rw[Ma];exact NQ _ _
    omega
   generalize ([l.1,l.2.1,l.2.2].take i).foldl (fun c q=>B3 c q.den) 1=c at *
   have g0:0<Mz c q.den:=Nv _ q.den_pos
   have g1:Mz c q.den<2 ^ 1300:=LO (Nat.le_of_dvd q.den_pos (PK _ _)) hd
   have ef:(c:Int).fdiv (Mz c q.den:Nat)=((c / Mz c q.den:Nat):Int):=by rw[aS (by omega) (by omega)];rfl
   walk_at "sim"
   rw[ef]
   refine⟨⟨by omega,Lw (K8 (by rw[Lu];exact g1) (by decide)) (by decide)⟩,?_,some (f6 q),?_⟩
   ·exact j6 4000 1300 (by rw[Lu];exact LO (Nh _ _) hb) (by rw[Lu];exact hd) (by decide)
   ·unfold B3
    rw[NF]
 ·rintro e M' ⟨rfl,z,rfl⟩
  walk_at "sim"
  exact k
theorem mr(T:Txt K mg)(d:Df K mg "sides_of" Y2 ["lines"])(IK:Fn P w K mg base "facing" 1 ["side"] vC)(Js:Fn P w K mg base "tops_over" 1 ["ratios","bottom"] nW)(IT:Fn P w K mg base "common_bottom" 2 ["ratios"] Dc):Fn P w K mg base "sides_of" 3 ["lines"] jg:=by
 have sc:=lM
 walk_at "fn"
 obtain⟨x0,ls,rfl,hx0,hok,k⟩:=h
 rcases hx0 with rfl|rfl
 all_goals
  refine⟨_,(d7 (jst 1 sc.nd (fe d5)) (d7 (t8 PassesOwn.never rfl (fb rfl T.b_enumerate (a9 (d4 0) d5)) (p9 (n:=2) rfl (e9 (jn 2 sc.nd) (e9 (jn 3 sc.nd) j0))) (d7 (jst 4 sc.nd (jc IT hr (a9 (d4 3) d5))) (d7 (v8 (jc Js hr (a9 (d4 3) (a9 (d4 4) d5))) (wD (n:=3) rfl (e9 (jn 5 sc.nd) (e9 (jn 6 sc.nd) (e9 (jn 7 sc.nd) j0))))) (d7 (jst 8 sc.nd (f9 (a9 (d4 5) (a9 (d4 6) (a9 (d4 7) (a9 (d4 2) (a9 (d4 4) d5))))))) (d7 (U0 (mL PySem.F.slot_list_append PySem.F.type_list_append O8 (d4 1) (a9 (d4 8) d5))) (d8 (U0 (mL PySem.F.slot_list_append PySem.F.type_list_append O8 (d4 1) (a9 (jc IK hr (a9 (d4 8) d5)) d5))))))))) (d8 (d9 (bD (bC (d4 1))))))),?_⟩
  walk_at "sim"
  intro p hp
  refine R6.by (fun i e M'=>M'=B9 M p (.lst ((M0 0 (ls.take i)).map sdD))∧∃ z0 z2 z3 z4 z5 z6 z7 z8:Option D,e=[z0,some (.ref p),z2,z3,z4,z5,z6,z7,z8]) ⟨rfl,_,_,_,_,_,_,_,_,rfl⟩ (fun i e M' _ _=>by simp only[i9,u7]) ?_ ?_
  ·rintro i dd e M' hd ⟨rfl,z0,z2,z3,z4,z5,z6,z7,z8,rfl⟩
   obtain⟨d,hd2,rfl⟩:=mN hd
   obtain⟨l,hl,rfl⟩:=sC hd2
   have hm:=hok.2 l (LK hl)
   have h12:=hok.1
   have hi:=(LP.mp hl).1
   walk_at "sim"
   refine⟨hm,hm,?_⟩
   have es:D.tup [.int (g5 l 0).1,.int (g5 l 0).2.1,.int (g5 l 0).2.2.1,.int (i:Int),.int ((cbL l:Nat):Int)]=sdD (g5 l i):=rfl
   have hln:((M0 0 (ls.take i)).map sdD).length≤24:=by
    rw[Lr,cA,Ma];omega
   rw[es]
   refine fu h8 (fE h8 (by omega) ?_)
   rw[R8]
   refine fu h8 ?_
   walk_at "sim"
   refine fE h8 (by rw[LQ];show _+1<1000;omega) ⟨?_,_,_,_,_,_,_,_,_,rfl⟩
   rw[R8,lJ ls 0 i l hl,Oj,LH,Ox]
   rfl
  ·rintro e M' ⟨rfl,z0,z2,z3,z4,z5,z6,z7,z8,rfl⟩
   walk_at "sim"
   rw[dP h8,U6 hp]
   walk_at "sim"
   rw[J8,Lr,Nb]
   exact⟨_,fun _ _ h=>h,k⟩
theorem mz(T:Txt K mg)(d:Df K mg "half_rim" Y7 ["lines"])(IH:Fn P w K mg base "veer" 1 ["one","other"] eE)(Ja:Fn P w K mg base "next_side" 3 ["sides","here"] CV)(Jt:Fn P w K mg base "outermost" 2 ["sides"] vp)(JJ:Fn P w K mg base "sides_of" 3 ["lines"] jg):Fn P w K mg base "half_rim" 4 ["lines"] lV:=by
 have sc:=lR
 walk_at "fn"
 obtain⟨x0,ls,rfl,hx0,hok,k⟩:=h
 have hlo:∀ l∈ls,LineOk l:=fun l hl=>(hok.2 l hl).toLineOk
 rcases hx0 with rfl|rfl
 all_goals
  refine⟨_,(d7 (i0 (jtm D7 (p8 U8 rfl T.b_len K9 (a9 (d4 0) d5)) d6) (d8 (d9 (bD (C5 d5)))) g6) (d7 (jst 1 sc.nd (jc JJ hr (a9 (d4 0) d5))) (d7 (jst 2 sc.nd (fe (a9 (jc Jt hr (a9 (d4 1) d5)) d5))) (d7 (jst 3 sc.nd (jc Ja hr (a9 (d4 1) (a9 (jx (d4 2) d6) d5)))) (d7 (bB PassesOwn.never (L6 (Q5 (jtm qC (d4 3) Z8) (J6 (jtm eU (jc IH hr (a9 (jx (d4 2) d6) (a9 (d4 3) d5))) d6)))) (d7 (U0 (mL PySem.F.slot_list_append PySem.F.type_list_append O8 (d4 2) (a9 (d4 3) d5))) (d8 (jst 3 sc.nd (jc Ja hr (a9 (d4 1) (a9 (d4 3) d5))))))) (d8 (d9 (bD (bC (d4 2)))))))))),?_⟩
  walk_at "sim"
  refine⟨fun h0=>?_,fun h0=>?_⟩
  ·have e:ls=[]:=by
    cases ls with
    | nil=>rfl
    | cons a b=>rw[Lr,LA]at h0;omega
   subst e
   exact xI (fun _ _ h=>h) k
  ·have hp:∀ s∈e7 ls,0<s.2.2.1:=ar hlo (i:=0)
   have hz:∀ s∈e7 ls,SzS s:=bf hok
   have hln:=cA ls 0
   have h12:=hok.1
   obtain⟨s1,r,es⟩:∃ s r,e7 ls=s :: r:=by
    cases ls with
    | nil=>exact absurd rfl h0
    | cons a b=>exact⟨_,_,rfl⟩
   have hln:(e7 ls).length≤24:=by show(M0 0 ls).length≤24;omega
   refine⟨hok,⟨s1,r,es⟩,hz,fun p hpn=>?_⟩
   have eh:(e7 ls).headD (0,0,0,0,0)=s1:=by rw[es];rfl
   rw[eh]
   have ek:t9 (e7 ls)=A4 (e7 ls) s1 :: F4 (A4 (e7 ls) s1) (e7 ls) (e7 ls).length (C1 (A4 (e7 ls) s1) (e7 ls)):=by rw[es];rfl
   have m0:A4 (e7 ls) s1∈e7 ls:=by
    rcases aL (e7 ls) s1 with h|h
    ·rw[h,es];exact Ly
    ·exact h
   rw[ek]at k
   generalize A4 (e7 ls) s1=h0 at *
   generalize e7 ls=ss at *
   refine⟨_,E9 h8 rfl,?_⟩
   walk_at "sim"
   refine⟨⟨hz _ m0,hz⟩,?_⟩
   refine rE (fun m e M'=>∃(pre:List Sd) (o:Option Sd) (z0:Option D),e=[z0,some (.vl (ss.map sdD)),some (.ref p),some (mj o)]∧M'=B9 M p (.lst ((h0 :: pre).map sdD))∧pre++F4 h0 ss m o=F4 h0 ss ss.length (C1 h0 ss)∧pre.length+m≤24∧(∀ f,o=some f→f∈ss)∧∀ f,o=some f→0<veZ h0 f→sP h0 ss f<m) ss.length ⟨[],C1 h0 ss,_,rfl,rfl,rfl,by simpa using hln,fun f hf=>(K1 hp hf).1,fun f hf hv=>Lw (aU hp hf (.inl rfl) hv) (xp h0 ss h0)⟩ ?_
   rintro m e M' ⟨pre,o,z0,rfl,rfl,hr,hlm,ho,hc⟩
   have fin:F4 h0 ss m o=[]→xG (D.ref p) (B9 M p (.lst ((h0 :: pre).map sdD))) (fun x M1=>EJ x M1 R):=fun hn=>by
    rw[hn,Ng]at hr
    rw[dP h8,U6 hpn,hr]
    exact xI (fun _ _ h=>h) k
   cases o with
   | none =>
    rw[show mj none=D.non from rfl]
    walk_at "sim"
    rw[lB (b:=true) rfl]
    walk_at "sim"
    exact fin (by cases m<;>rfl)
   | some f =>
    have hf:=ho f rfl
    rw[show mj (some f)=sdD f from rfl]
    walk_at "sim"
    rw[lB (b:=false) rfl]
    walk_at "sim"
    refine⟨_,E9 h8 (q9 (n:=0) rfl),?_⟩
    walk_at "sim"
    refine⟨⟨hz _ m0,hz _ hf⟩,fun hv=>?_,fun hv=>?_⟩
    ·have hcm:=hc f rfl hv
     obtain⟨m,rfl⟩:∃ m',m=m'+1:=⟨m - 1,by omega⟩
     have er:F4 h0 ss (m+1) (some f)=f :: F4 h0 ss m (C1 f ss):=if_pos hv
     rw[er]at hr
     refine fu h8 (fE h8 (by rw[LA,Lr];omega) ⟨⟨hz _ hf,hz⟩,m,Nat.lt_succ_self _,pre++[f],C1 f ss,_,rfl,?_,by rw[Ox];exact hr,by rw[LQ];show pre.length+1+m≤24;omega,fun g hg=>(K1 hp hg).1,fun g hg hg2=>?_⟩)
     ·rw[R8]
      congr 2
      rw[LH];rfl
     ·have:=aU hp hg (.inr hv) hg2
      omega
    ·refine fin ?_
     cases m with
     | zero=>rfl
     | succ m=>exact if_neg hv
theorem oq(T:Txt K mg)(d:Df K mg "corners" br ["lines"])(Jc:Fn P w K mg base "from_lowest" 3 ["rays"] og)(IF:Fn P w K mg base "opposite" 1 ["one"] dS)(IK:Fn P w K mg base "facing" 1 ["side"] vC)(Jg:Fn P w K mg base "met_at" 3 ["one","other"] yX)(IP:Fn P w K mg base "half_rim" 4 ["lines"] lV):Fn P w K mg base "corners" 5 ["lines"] lW:=by
 have sc:=nN
 walk_at "fn"
 obtain⟨x0,ls,rfl,hx0,hok,k⟩:=h
 have hlo:∀ l∈ls,LineOk l:=fun l hl=>(hok.2 l hl).toLineOk
 have hlen:=fh hlo
 rcases hx0 with rfl|rfl
 all_goals
  refine⟨_,(d7 (jst 1 sc.nd (jc IP hr (a9 (d4 0) d5))) (d7 (i0 (jtm aM (p8 U8 rfl T.b_len K9 (a9 (d4 1) d5)) d6) (d8 (d9 Z8)) g6) (d7 (J5 (i:=2) [] ["one","other"] [] sc.nd rfl (Or.inl rfl) rfl (by decide +kernel) rfl (by decide +kernel) (by decide +kernel) rfl fq fq (qG rfl T.b_zip (a9 (d4 1) (a9 (L7 (C4 (d4 1) (B5 d6) B6) (C5 (a9 (jc IK hr (a9 (jx (d4 1) d6) d5)) d5))) d5))) (fun _ _ _ _ _ _=>(p9 (n:=2) rfl (e9 (jn 0 (show(["one","other"]:List Str).Nodup by decide +kernel)) (e9 (jn 1 (show(["one","other"]:List Str).Nodup by decide +kernel)) j0)))) (fun _ _ _ _ _ _=>A5) (fun _ _ _ _ _ _=>(jc Jg hr (a9 (d4 0) (a9 (d4 1) d5))))) (d8 (d9 (jc Jc hr (a9 (L7 (d4 2) (E8 [] ["y","u"] [] rfl (by decide +kernel) rfl (by decide +kernel) (by decide +kernel) rfl fq fq (y4 (d4 2)) (fun _ _ _ _ _ _=>(p9 (n:=2) rfl (e9 (jn 0 (show(["y","u"]:List Str).Nodup by decide +kernel)) (e9 (jn 1 (show(["y","u"]:List Str).Nodup by decide +kernel)) j0)))) (fun _ _ _ _ _ _=>A5) (fun _ _ _ _ _ _=>(f9 (a9 (jc IF hr (a9 (d4 0) d5)) (a9 (jc IF hr (a9 (d4 1) d5)) d5)))))) d5))))))),?_⟩
  walk_at "sim"
  refine⟨hok,fun hlt=>?_,fun hge=>?_⟩
  ·have e:G7 ls=none:=by
    unfold G7
    cases e:t9 (e7 ls)with
    | nil=>rfl
    | cons a r =>
     cases r with
     | nil=>rfl
     | cons b r=>rw[e,Lr,LA,LA]at hlt;omega
   rw[e]at k
   exact k
  ·obtain⟨h0,x,l,e⟩:∃ h0 x l,t9 (e7 ls)=h0 :: x :: l:=by
    cases e:t9 (e7 ls)with
    | nil=>rw[e]at hge;exact absurd (by decide) hge
    | cons a r =>
     cases r with
     | nil=>rw[e]at hge;exact absurd (by show(1:Int)<2;decide) hge
     | cons b r=>exact⟨a,b,r,rfl⟩
   have hne:ls≠[]:=fun z=>by rw[z]at e;cases e
   obtain⟨g0,g,eg,m0,hg⟩:=C6 hlo hne
   rw[e]at eg
   injection eg with q1 q2
   subst q1;subst q2
   have hall:∀ ab∈(h0 :: x :: l).zip (x :: l++[g9 h0]),SzS ab.1∧SzS ab.2∧veZ ab.1 ab.2≠0:=fun ab hab=>by
    rcases hg with⟨z,_⟩|⟨_,_,hg⟩
    ·cases z
    ·obtain⟨a1,a2,a3⟩:=hg ab hab
     exact⟨bf hok _ a1,bf hok _ a2,by omega⟩
   have ec:G7 ls=some (aJ (B0 h0 (x :: l)++(B0 h0 (x :: l)).map ngZ)):=by unfold G7;rw[e]
   rw[ec]at k
   have rl:=lY h0 (x :: l)
   have h12:=hok.1
   have hrs:∀ z∈B0 h0 (x :: l),AH z:=fun z hz=>by
    obtain⟨ab,hab,rfl⟩:=Lv.mp hz
    obtain⟨a1,a2,a3⟩:=hall ab hab
    have:=BE ⟨a1.p,a1.q,a1.r⟩ ⟨a2.p,a2.q,a2.r⟩ a3
    exact⟨by have:=this.1;omega,by have:=this.2;omega⟩
   rw[e]at hlen ⊢
   rw[LA,LA]at hlen
   rw[LY]
   walk_at "sim"
   rw[Et,← LY,show[sdD (g9 h0)]=[g9 h0].map sdD from rfl,← LH,show sdD h0 :: (x :: l).map sdD=(h0 :: x :: l).map sdD from rfl,nu]
   refine⟨by rw[Lr];exact LB (by rw[LA];omega:(x :: l).length+1≤1000) (by decide),?_⟩
   refine B7 (xs:=(h0 :: x :: l).zip (x :: l++[g9 h0])) (enc:=fun ab=>D.tup [sdD ab.1,sdD ab.2]) (fun ab=>rD (ry (tri ab.1) (tri ab.2))) ?_ (by simp only[i9,and_self]) (fun ab hab Q hQ=>?_) ?_
   ·rw[MU,LA,LA];omega
   ·walk_at "sim"
    exact⟨hall ab hab,hQ⟩
   ·have er:((h0 :: x :: l).zip (x :: l++[g9 h0])).map (fun ab=>rD (ry (tri ab.1) (tri ab.2)))=(B0 h0 (x :: l)).map rD:=by unfold B0;rw[Ms];rfl
    rw[er]
    walk_at "sim"
    refine B7 (xs:=B0 h0 (x :: l)) (enc:=rD) (fun z=>rD (ngZ z)) ?_ (by simp only[i9]) (fun z hz Q hQ=>?_) ?_
    ·rw[rl,LA];omega
    ·rw[show rD z=D.tup [f6 z.1,f6 z.2]from rfl]
     walk_at "sim"
     exact hQ
    ·have er2:(B0 h0 (x :: l)).map (fun z=>rD (ngZ z))=((B0 h0 (x :: l)).map ngZ).map rD:=by rw[Ms];rfl
     rw[er2]
     walk_at "sim"
     rw[← LH]
     refine⟨?_,?_⟩
     ·rw[Lr,Lr,Lr,rl]
      exact LB (by rw[LA];omega:(x :: l).length+1+((x :: l).length+1)≤1000) (by decide)
     ·walk_at "sim"
      refine⟨⟨?_,?_,fun z hz=>?_⟩,k⟩
      ·intro z
       have:=congrArg Pc z
       rw[LQ,rl]at this
       simp at this
      ·rw[LQ,Lr,rl,LA];omega
      ·rcases LR.mp hz with hz|hz
       ·exact hrs z hz
       ·obtain⟨y,hy,rfl⟩:=Lv.mp hz
        obtain⟨y1,y2⟩:=hrs y hy
        exact⟨by show sz (-y.1)≤_;rw[RM.K2];exact y1,by show sz (-y.2)≤_;rw[RM.K2];exact y2⟩
theorem vX(T:Txt K mg)(d:Df K mg "times" iY ["one","other"])(IE:Fn P w K mg base "ratio" 2 ["top","bottom"] D9):Fn P w K mg base "times" 3 ["one","other"] D2:=by
 have sc:=vd
 refine h7 d sc (fun ds M R Y h=>?_) (fun f cdv A outer s H E ds M R Y hr h=>?_)
 ·obtain⟨q,r,rfl,_⟩:=h;rfl
 ·obtain⟨q,r,rfl,hz,k⟩:=h
  refine⟨_,(d8 (d9 (jc IE hr (a9 (e8 h9 (jx (d4 0) d6) (jx (d4 1) d6)) (a9 (e8 h9 (jx (d4 0) d6) (jx (d4 1) d6)) d5))))),?_⟩
  refine⟨_,rfl,_,rfl,_,rfl,_,rfl,_,_,rfl,rfl,mNN hz,_,rfl,_,rfl,_,rfl,_,rfl,_,_,rfl,rfl,mDD hz,_,_,rfl,Mj (RM.t7 q) (RM.t7 r),lDD hz,?_⟩
  rw[RM.ou]at k
  exact k
theorem wa(T:Txt K mg)(d:Df K mg "grown" jb ["ray","share"])(IG:Fn P w K mg base "times" 3 ["one","other"] D2):Fn P w K mg base "grown" 4 ["ray","share"] jr:=by
 have sc:=vj
 walk_at "fn"
 obtain⟨y,u,g,rfl,⟨h1,h2⟩,k⟩:=h
 refine⟨_,(d8 (d9 (f9 (a9 (jc IG hr (a9 (jx (d4 0) d6) (a9 (d4 1) d5))) (a9 (jc IG hr (a9 (jx (d4 0) d6) (a9 (d4 1) d5))) d5))))),?_⟩
 walk_at "sim"
 exact⟨h1,h2,k⟩
theorem zQ(T:Txt K mg)(d:Df K mg "over" nQ ["one","other"])(IE:Fn P w K mg base "ratio" 2 ["top","bottom"] D9):Fn P w K mg base "over" 3 ["one","other"] iF:=by
 have sc:=yS
 refine h7 d sc (fun ds M R Y h=>?_) (fun f cdv A outer s H E ds M R Y hr h=>?_)
 ·obtain⟨q,r,rfl,_⟩:=h;rfl
 ·obtain⟨q,r,rfl,h0,hz,k⟩:=h
  refine⟨_,(d8 (d9 (jc IE hr (a9 (e8 h9 (jx (d4 0) d6) (jx (d4 1) d6)) (a9 (e8 h9 (jx (d4 0) d6) (jx (d4 1) d6)) d5))))),?_⟩
  refine⟨_,rfl,_,rfl,_,rfl,_,rfl,_,_,rfl,rfl,mND hz,_,rfl,_,rfl,_,rfl,_,rfl,_,_,rfl,rfl,mDN hz,_,_,rfl,Mj (RM.t7 q) (DR h0),lDN hz,?_⟩
  rw[RM.xf]at k
  exact k
theorem ml(T:Txt K mg)(d:Df K mg "value_of" X9 ["p","q","ray"])(IE:Fn P w K mg base "ratio" 2 ["top","bottom"] D9)(Jf:Fn P w K mg base "sum_by" 1 ["p","q","ray"] cH):Fn P w K mg base "value_of" 3 ["p","q","ray"] qq:=by
 have sc:=lK
 walk_at "fn"
 obtain⟨p,q,y,u,rfl,hz,k⟩:=h
 refine⟨_,(d7 (v8 (jc Jf hr (a9 (d4 0) (a9 (d4 1) (a9 (d4 2) d5)))) (p9 (n:=2) rfl (e9 (jn 3 sc.nd) (e9 (jn 4 sc.nd) j0)))) (d8 (d9 (jc IE hr (a9 (d4 3) (a9 (d4 4) d5)))))),?_⟩
 walk_at "sim"
 have b:=xy p q y u
 refine⟨by omega,Ez p q y u,Lw (K8 (C7 b (show _≤8001 by omega)) (by decide)) (by decide),?_⟩
 rw[yN]
 exact k
theorem zP(T:Txt K mg)(d:Df K mg "plus" nP ["one","other"])(IE:Fn P w K mg base "ratio" 2 ["top","bottom"] D9):Fn P w K mg base "plus" 3 ["one","other"] L9:=by
 have sc:=yR
 refine h7 d sc (fun ds M R Y h=>?_) (fun f cdv A outer s H E ds M R Y hr h=>?_)
 ·obtain⟨q,r,rfl,_⟩:=h;rfl
 ·obtain⟨q,r,rfl,hz,k⟩:=h
  refine⟨_,(d8 (d9 (jc IE hr (a9 (e8 B1 (e8 h9 (jx (d4 0) d6) (jx (d4 1) d6)) (e8 h9 (jx (d4 1) d6) (jx (d4 0) d6))) (a9 (e8 h9 (jx (d4 0) d6) (jx (d4 1) d6)) d5))))),?_⟩
  refine⟨_,rfl,_,rfl,_,rfl,_,rfl,_,_,rfl,rfl,mND hz,_,rfl,_,rfl,_,rfl,_,rfl,_,_,rfl,rfl,mND (by omega),_,rfl,_,rfl,_,rfl,_,rfl,_,rfl,_,_,rfl,rfl,mDD hz,_,_,rfl,Mj (RM.t7 q) (RM.t7 r),lDD hz,?_⟩
  rw[RM.oP]at k
  exact k
theorem oj(T:Txt K mg)(d:Df K mg "veer" eA ["one","other"]):Fn P w K mg base "veer" 1 ["one","other"] jf:=by
 have sc:=iK
 walk_at "fn"
 obtain⟨a,x,y,rfl,⟨ha,hw⟩,k⟩:=h
 unfold sdD
 refine⟨_,(d8 (d9 (e8 F5 (e8 h9 (jx (d4 0) d6) (jx (d4 1) d6)) (e8 h9 (jx (d4 0) d6) (jx (d4 1) d6))))),?_⟩
 walk_at "sim"
 exact⟨j6 _ _ ha.p hw.2 (by decide),j6 _ _ ha.q hw.1 (by decide),k⟩
theorem oi(T:Txt K mg)(d:Df K mg "veer" eA ["one","other"]):Fn P w K mg base "veer" 1 ["one","other"] je:=by
 have sc:=iK
 walk_at "fn"
 obtain⟨x,y,b,rfl,⟨hb,hw⟩,k⟩:=h
 unfold sdD
 refine⟨_,(d8 (d9 (e8 F5 (e8 h9 (jx (d4 0) d6) (jx (d4 1) d6)) (e8 h9 (jx (d4 0) d6) (jx (d4 1) d6))))),?_⟩
 walk_at "sim"
 exact⟨j6 _ _ hw.1 hb.q (by decide),j6 _ _ hw.2 hb.p (by decide),k⟩
theorem cf(T:Txt K mg)(d:Df K mg "sides_around" K3 ["half","wanted"])(IV:Fn P w K mg base "veer" 1 ["one","other"] je)(IW:Fn P w K mg base "veer" 1 ["one","other"] jf)(IK:Fn P w K mg base "facing" 1 ["side"] vC):Fn P w K mg base "sides_around" 2 ["half","wanted"] De:=by
 have sc:=bX
 walk_at "fn"
 obtain⟨half,x,y,rfl,⟨hl,hs,hw⟩,k⟩:=h
 refine⟨_,(d7 (jst 2 sc.nd (L7 (d4 0) (E8 [] ["side"] [] rfl (by decide +kernel) rfl (by decide +kernel) (by decide +kernel) rfl fq fq (y4 (d4 0)) (fun _ _ _ _ _ _=>(jn 0 (show(["side"]:List Str).Nodup by decide +kernel))) (fun _ _ _ _ _ _=>A5) (fun _ _ _ _ _ _=>(jc IK hr (a9 (d4 0) d5)))))) (d7 (jst 3 sc.nd Z8) (d7 (t8 PassesOwn.never rfl (qG rfl T.b_zip (a9 (d4 2) (a9 (L7 (C4 (d4 2) (B5 d6) B6) (C4 (d4 2) B6 (B5 d6))) d5))) (p9 (n:=2) rfl (e9 (jn 4 sc.nd) (e9 (jn 5 sc.nd) j0))) (d8 (i0 (L6 (Q5 (jtm HV (jc IW hr (a9 (d4 4) (a9 (d4 1) d5))) d6) (J6 (jtm eU (jc IV hr (a9 (d4 1) (a9 (d4 5) d5))) d6)))) (d8 (jst 3 sc.nd (f9 (a9 (d4 4) (a9 (d4 5) d5))))) g6))) (d8 (d9 (d4 3)))))),?_⟩
 walk_at "sim"
 refine B7 (fun s=>sdD (g9 s)) (by omega) (by simp only[i9]) (fun s hm Q hQ=>?_) ?_
 ·walk_at "sim"
  exact hQ
 have em:half.map (fun s=>sdD (g9 s))=(half.map g9).map sdD:=by rw[Ms];rfl
 rw[em]
 walk_at "sim"
 have hrl:(bY half).length≤60:=by unfold bY;rw[LQ,Lr];omega
 have hrs:∀ s∈bY half,SzS s:=fun s hm=>by
  rcases LR.mp hm with hm|hm
  ·exact hs s hm
  ·obtain⟨t,ht,rfl⟩:=Lv.mp hm
   obtain⟨a,b,c⟩:=hs t ht
   exact⟨by show(-t.1).natAbs<_;rw[Ml];exact a,by show(-t.2.1).natAbs<_;rw[Ml];exact b,c⟩
 have l1:(MB sdD half).length+(MB sdD (MB g9 half)).length≤60:=by rw[Lr,Lr,Lr];omega
 have k:R (zJ ((cq (bY half)).foldl (aX (x,y)) none)) M:=k
 rw[A7 (by omega),ze]
 generalize bY half=rm at *
 have c1:DL.R5 (rm.map sdD) (some 1) none=(rm.drop 1).map sdD:=by rw[show(1:Int)=((1:Nat):Int)from rfl,de,PC]
 have c2:DL.R5 (rm.map sdD) none (some 1)=(rm.take 1).map sdD:=by rw[show(1:Int)=((1:Nat):Int)from rfl,bG,NH]
 rw[c1,c2,A7 (by rw[Lr,Lr,Mi,Ma];omega),← LH,nu]
 have ez:rm.zip (rm.drop 1++rm.take 1)=cq rm:=rfl
 rw[ez]
 refine R6.by (fun i e M'=>M'=M∧∃ z4 z5:Option D,e=[some (D.vl (MB sdD half)),some (D.vl [D.int x,D.int y]),some (D.vl (rm.map sdD)),some (zJ (((cq rm).take i).foldl (aX (x,y)) none)),z4,z5]) ⟨rfl,_,_,rfl⟩ (fun i e M' _ _=>by simp only[i9,and_self]) ?_ ?_
 ·rintro i dd e M' hd ⟨rfl,z4,z5,rfl⟩
  rw[LS]at hd
  cases hq:(cq rm)[i]? with
  | none=>rw[hq]at hd;cases hd
  | some ab =>
   rw[hq]at hd
   obtain rfl:=Option.some.inj hd
   have e1:((cq rm).take (i+1)).foldl (aX (x,y)) none=aX (x,y) (((cq rm).take i).foldl (aX (x,y)) none) ab:=by
    rw[Nl,hq,MS];rfl
   have hm:=LK hq
   obtain⟨ha,hb⟩:ab.1∈rm∧ab.2∈rm:=by
    have hz:=Ob (show(ab.1,ab.2)∈rm.zip (rm.drop 1++rm.take 1)from hm)
    refine⟨hz.1,?_⟩
    rcases LR.mp hz.2 with h|h
    ·exact Pa h
    ·exact Mv h
   rw[e1]
   generalize ((cq rm).take i).foldl (aX (x,y)) none=f at *
   walk_at "sim"
   unfold aX
   refine⟨⟨hrs _ ha,hw⟩,fun h1=>⟨⟨hrs _ hb,hw⟩,fun h2=>⟨some (sdD ab.1),some (sdD ab.2),?_⟩,fun h2=>⟨some (sdD ab.1),some (sdD ab.2),?_⟩⟩,fun h1=>⟨some (sdD ab.1),some (sdD ab.2),?_⟩⟩
   ·rw[if_pos ⟨h1,h2⟩];rfl
   ·rw[if_neg (fun z=>h2 z.2)]
   ·rw[if_neg (fun z=>h1 z.1)]
 ·rw[Lr,Nb]
  rintro e M' ⟨rfl,z4,z5,rfl⟩
  walk_at "sim"
  exact k
theorem cc(T:Txt K mg)(d:Df K mg "tops_over" L5 ["ratios","bottom"]):Fn P w K mg base "tops_over" 1 ["ratios","bottom"] nX:=by
 have sc:=au
 walk_at "fn"
 obtain⟨p,q,c,rfl,⟨⟨h1,h2⟩,rfl⟩,k⟩:=h
 refine⟨_,(d8 (d9 (E8 [1] ["one"] ["bottom"] rfl (by decide +kernel) rfl (by decide +kernel) (by decide +kernel) rfl (aY ⟨rfl,rfl⟩) (aY (Or.inl rfl)) (y4 (d4 0)) (fun _ _ _ _ _ _=>(jn 0 (show(["one","bottom"]:List Str).Nodup by decide +kernel))) (fun _ _ _ _ _ _=>A5) (fun _ _ _ _ _ _=>(e8 h9 (jx (d4 0) d6) (e8 K6 (d4 1) (jx (d4 0) d6))))))),?_⟩
 walk_at "sim"
 refine B7 (xs:=[p,q]) (enc:=f6) (fun r=>.int (L8 r (cb2 p q))) (by show 2≤1000;decide) (by simp only[u7]) (fun r hr Q hQ=>?_) k
 have hrz:sz r≤1100:=by
  simp only[Lz,LU,or_false]at hr
  rcases hr with rfl|rfl
  ·exact h1
  ·exact h2
 have d0:=r.den_pos
 have hd:r.den<2 ^ 1100:=o9 r hrz
 have ef:((cb2 p q:Nat):Int).fdiv (r.den:Int)=((cb2 p q / r.den:Nat):Int):=by rw[aS (by omega) (by omega)];rfl
 walk_at "sim"
 rw[ef]
 exact⟨⟨by omega,Lw (K8 (by rw[Lu];exact hd) (by decide)) (by decide)⟩,j6 1100 2200 (D4 r hrz) (by rw[Lu];exact LO (Nh _ _) (xq h1 h2)) (by decide),hQ⟩
theorem W8(T:Txt K mg)(d:Df K mg "common_bottom" D3 ["ratios"])(II:Fn P w K mg base "divisor" 1 ["one","other"] O2):Fn P w K mg base "common_bottom" 2 ["ratios"] Dd:=by
 have sc:=O4
 walk_at "fn"
 obtain⟨p,q,rfl,⟨h1,h2⟩,k⟩:=h
 refine⟨_,(d7 (jst 1 sc.nd d6) (d7 (t8 PassesOwn.never rfl (y4 (d4 0)) (jn 2 sc.nd) (d8 (jst 1 sc.nd (e8 h9 (e8 K6 (d4 1) (jc II hr (a9 (d4 1) (a9 (jx (d4 2) d6) d5)))) (jx (d4 2) d6))))) (d8 (d9 (d4 1))))),?_⟩
 walk_at "sim"
 refine R6.by (fun i e M'=>M'=M∧∃ z:Option D,e=[some (v6 p q),some (.int ((([p,q].take i).foldl (fun c q=>B3 c q.den) 1:Nat):Int)),z]) ⟨rfl,_,rfl⟩ (fun i e M' _ h=>by rw[h.1];simp only[u7]) ?_ ?_
 ·rintro i dd e M' hd ⟨rfl,z,rfl⟩
  obtain⟨r,hr,hrz,hi,rfl⟩:∃ r:Rat,[p,q][i]? = some r∧sz r≤1100∧i<2∧dd=f6 r:=by
   have hi:i<2:=(LP.mp hd).1
   rcases(show i=0∨i=1 by omega)with rfl|rfl
   ·cases hd;exact⟨p,rfl,h1,hi,rfl⟩
   ·cases hd;exact⟨q,rfl,h2,hi,rfl⟩
  have e1:([p,q].take (i+1)).foldl (fun c q=>B3 c q.den) 1=B3 (([p,q].take i).foldl (fun c q=>B3 c q.den) 1) r.den:=by
   rw[Nl,hr,MS];rfl
  have hc:0<([p,q].take i).foldl (fun c q=>B3 c q.den) 1∧([p,q].take i).foldl (fun c q=>B3 c q.den) 1<2 ^ 1101:=by
   rcases(show i=0∨i=1 by omega)with rfl|rfl
   ·exact⟨Nat.one_pos,Pu (by decide)⟩
   ·refine⟨by show 0<B3 1 p.den;rw[Q3];exact OE (by decide) p.den_pos,?_⟩
    show B3 1 p.den<_
    have:=G2 1 p.den
    exact LO (by omega) (C7 (o9 p h1) (by decide))
  have hd2:r.den<2 ^ 1100:=o9 r hrz
  rw[e1]
  obtain⟨hc0,hb⟩:=hc
  generalize ([p,q].take i).foldl (fun c q=>B3 c q.den) 1=c at *
  have g0:0<Mz c r.den:=Nv _ r.den_pos
  have g1:Mz c r.den<2 ^ 1100:=LO (Nat.le_of_dvd r.den_pos (PK _ _)) hd2
  have ef:(c:Int).fdiv (Mz c r.den:Nat)=((c / Mz c r.den:Nat):Int):=by rw[aS (by omega) (by omega)];rfl
  walk_at "sim"
  rw[ef]
  refine⟨⟨by omega,Lw (K8 (by rw[Lu];exact g1) (by decide)) (by decide)⟩,?_,some (f6 r),?_⟩
  ·exact j6 1101 1100 (by rw[Lu];exact LO (Nh _ _) hb) (by rw[Lu];exact hd2) (by decide)
  ·unfold B3
   rw[NF]
 ·rintro e M' ⟨rfl,z,rfl⟩
  walk_at "sim"
  exact k
theorem eN(T:Txt K mg)(d:Df K mg "most_around" N3 ["half","p","q"])(Jg:Fn P w K mg base "met_at" 3 ["one","other"] yX)(IE:Fn P w K mg base "ratio" 2 ["top","bottom"] D9)(IH:Fn P w K mg base "veer" 1 ["one","other"] eE)(IW:Fn P w K mg base "veer" 1 ["one","other"] jf)(IV:Fn P w K mg base "veer" 1 ["one","other"] je)(IY:Fn P w K mg base "sides_around" 2 ["half","wanted"] De)(IZ:Fn P w K mg base "tops_over" 1 ["ratios","bottom"] nX)(IJ:Fn P w K mg base "common_bottom" 2 ["ratios"] Dd):Fn P w K mg base "most_around" 4 ["half","p","q"] vt:=by
 have sc:=dY
 walk_at "fn"
 obtain⟨half,p,q,rfl,⟨⟨hl,hs⟩,⟨hp,hq⟩,a,b,ea,⟨sa,sb⟩,hv,hn,ca,cb⟩,k⟩:=h
 have wz:=Hu hp hq
 refine⟨_,(d7 (jst 3 sc.nd (jc IJ hr (a9 (f9 (a9 (d4 1) (a9 (d4 2) d5))) d5))) (d7 (jst 4 sc.nd (jc IZ hr (a9 (f9 (a9 (d4 1) (a9 (d4 2) d5))) (a9 (d4 3) d5)))) (d7 (v8 (jc IY hr (a9 (d4 0) (a9 (d4 4) d5))) (p9 (n:=2) rfl (e9 (jn 5 sc.nd) (e9 (jn 6 sc.nd) j0)))) (d7 (jst 7 sc.nd (jc IV hr (a9 (d4 4) (a9 (d4 6) d5)))) (d7 (jst 8 sc.nd (jc IW hr (a9 (d4 5) (a9 (d4 4) d5)))) (d7 (jst 9 sc.nd (e8 h9 (d4 3) (jc IH hr (a9 (d4 5) (a9 (d4 6) d5))))) (d7 (jst 10 sc.nd (jc IE hr (a9 (e8 B1 (e8 h9 (d4 7) (jx (d4 5) d6)) (e8 h9 (d4 8) (jx (d4 6) d6))) (a9 (d4 9) d5)))) (d7 (jst 11 sc.nd (C5 (a9 (f9 (a9 (jx (d4 5) d6) (a9 (jc IE hr (a9 (e8 h9 (d4 7) (jx (d4 5) d6)) (a9 (d4 9) d5))) d5))) (a9 (f9 (a9 (jx (d4 6) d6) (a9 (jc IE hr (a9 (e8 h9 (d4 8) (jx (d4 6) d6)) (a9 (d4 9) d5))) d5))) d5)))) (d8 (d9 (f9 (a9 A8 (a9 (d4 10) (a9 (jc Jg hr (a9 (d4 5) (a9 (d4 6) d5))) (a9 (bC (p8 xv rfl T.b_sorted sU (a9 (E8 [] ["pair"] [] rfl (by decide +kernel) rfl (by decide +kernel) (by decide +kernel) rfl fq fq (y4 (d4 11)) (fun _ _ _ _ _ _=>(jn 0 (show(["pair"]:List Str).Nodup by decide +kernel))) (fun _ _ _ _ _ _=>(gY (jtm (wd hu) (jx (d4 0) d6) (E7 rfl T.c_NOUGHT)))) (fun _ _ _ _ _ _=>(d4 0))) d5))) d5))))))))))))))),?_⟩
 walk_at "sim"
 refine⟨⟨hp,hq⟩,⟨hp,hq⟩,⟨hl,hs,wz⟩,?_⟩
 have ea':kA half ((wtF p q).1,(wtF p q).2)=some (a,b):=ea
 rw[ea']
 unfold zJ
 walk_at "sim"
 have k:R (match kA half (wtF p q)with|none=>R1.free (0,0)|some (a,b)=>.most (vlF a b (wtF p q) (cb2 p q)) (ry (tri a) (tri b)) (shF a b (wtF p q) (cb2 p q)):R1).toD M:=k
 rw[ea]at k
 have c0:=ko p q
 have cl:=xq hp hq
 have vl:=sa.ve sb
 have w1:(wVe (wtF p q) b).natAbs<2 ^ 3401:=by
  have h1:=g7 wz.1 sb.q
  have h2:=g7 wz.2 sb.p
  unfold wVe
  have:=NJ ((wtF p q).1*b.2.1) ((wtF p q).2*b.1)
  rw[show 3401=2200+1200+1 from rfl,MX]
  omega
 have w2:(veW a (wtF p q)).natAbs<2 ^ 3401:=by
  have h1:=g7 sa.p wz.2
  have h2:=g7 sa.q wz.1
  unfold veW
  have:=NJ (a.1*(wtF p q).2) (a.2.1*(wtF p q).1)
  rw[show 3401=1200+2200+1 from rfl,MX]
  omega
 have wn:(((cb2 p q:Nat):Int)*veZ a b).natAbs<2 ^ 4601:=by
  have:=g7 (a:=((cb2 p q:Nat):Int)) (by rw[Lu];exact cl) vl
  exact this
 have w0:((cb2 p q:Nat):Int)*veZ a b≠0:=Mj (by omega) (by omega)
 have wl:(((cb2 p q:Nat):Int)*veZ a b).natAbs.log2<9000:=Lw (K8 wn (by decide)) (by decide)
 refine⟨⟨sb,wz⟩,⟨sa,wz⟩,⟨sa,sb⟩,j6 2200 2401 (by rw[Lu];exact cl) vl (by decide),j6 _ _ w1 sa.r (by decide),j6 _ _ w2 sb.r (by decide),w0,wl,?_⟩
 refine⟨.int a.2.2.2.1,rfl,.int a.2.2.2.2,rfl,_,_,rfl,rfl,j6 _ _ w1 ca (by decide),?_⟩
 show D9 [.int (wVe (wtF p q) b*a.2.2.2.2),.int (((cb2 p q:Nat):Int)*veZ a b)] M _ Y0
 walk_at "sim"
 refine⟨w0,wl,.int b.2.2.2.1,rfl,.int b.2.2.2.2,rfl,_,_,rfl,rfl,j6 _ _ w2 cb (by decide),?_⟩
 show D9 [.int (veW a (wtF p q)*b.2.2.2.2),.int (((cb2 p q:Nat):Int)*veZ a b)] M _ Y0
 walk_at "sim"
 refine⟨w0,wl,⟨sa,sb,by omega⟩,?_⟩
 have eS:∀(n:Int) (r:Rat),D.tup [.int n,f6 r]=shD (n,r):=fun _ _=>rfl
 refine aT (xs:=[(a.2.2.2.1,Mf (wVe (wtF p q) b*a.2.2.2.2) (((cb2 p q:Nat):Int)*veZ a b)),(b.2.2.2.1,Mf (veW a (wtF p q)*b.2.2.2.2) (((cb2 p q:Nat):Int)*veZ a b))]) (enc:=shD) (fun s=>decide (s.2≠0)) shD (by show 2≤1000;decide) (by simp only[i9]) (fun s hs Q N h1 h2=>?_) ?_
 ·unfold shD at h1 ⊢
  walk_at "sim"
  exact⟨fun h=>h1 (decide_eq_true h),fun h=>h2 (decide_eq_false fun z=>z h)⟩
 ·have k:R (.tup [.str "most",f6 (vlF a b (wtF p q) (cb2 p q)),rD (ry (tri a) (tri b)),.vl ((shF a b (wtF p q) (cb2 p q)).map shD)]) M:=k
  unfold shF at k
  have two:∀ fs:List (Int × Rat),(fs.length<2 ∨ ∃ x y,fs=[x,y]∧x.1≠y.1)→R (.tup [.str "most",f6 (vlF a b (wtF p q) (cb2 p q)),rD (ry (tri a) (tri b)),.vl ((uV fs).map shD)]) M→GB [.vl (fs.map shD)] M fun x M1=>xG x M1 fun x M1=>R (.tup [.str "most",f6 (vlF a b (wtF p q) (cb2 p q)),rD (ry (tri a) (tri b)),x]) M1:=fun fs hf kf=>by
   refine⟨_,fs.map shD,rfl,rfl,?_⟩
   rcases hf with hf|⟨x,y,rfl,hne⟩
   ·have es:uV fs=fs:=by
     match fs,hf with
     | [],_=>rfl
     | [_],_=>rfl
    rw[es]at kf
    exact .inl ⟨by rw[Lr];exact hf,fun ad had=>xF had kf⟩
   ·refine .inr ⟨x.1,y.1,[f6 x.2],[f6 y.2],rfl,hne,fun ad had=>xF had ?_⟩
    have kf:R (.tup [.str "most",f6 (vlF a b (wtF p q) (cb2 p q)),rD (ry (tri a) (tri b)),.vl ((if y.1<x.1 then[y,x]else[x,y]).map shD)]) M:=kf
    by_cases c:y.1<x.1
    ·rw[if_pos c]at kf ⊢;exact kf
    ·rw[if_neg c]at kf ⊢;exact kf
  refine two _ ?_ k
  generalize Mf (wVe (wtF p q) b*a.2.2.2.2) (((cb2 p q:Nat):Int)*veZ a b)=r1
  generalize Mf (veW a (wtF p q)*b.2.2.2.2) (((cb2 p q:Nat):Int)*veZ a b)=r2
  by_cases q1:r1=0
  ·left
   rw[Mk (by simp[q1])]
   exact LO (Ni _ _) (by show 1<2;decide)
  ·by_cases q2:r2=0
   ·left
    rw[Mb (by simp[q1]),Mk (by simp[q2])]
    show 1<2;decide
   ·right
    refine⟨(a.2.2.2.1,r1),(b.2.2.2.1,r2),?_,hn⟩
    rw[Mb (by simp[q1]),Mb (by simp[q2])];rfl
theorem mq(T:Txt K mg)(d:Df K mg "unsigned" Y1 ["one"]):Fn P w K mg base "unsigned" 1 ["one"] lI:=by
 have sc:=lL
 walk_at "fn"
 obtain⟨q,rfl,k⟩:=h
 refine⟨_,(d8 (d9 (f9 (a9 (p8 fm rfl T.b_abs af (a9 (jx (d4 0) d6) d5)) (a9 (jx (d4 0) d6) d5))))),?_⟩
 walk_at "sim"
 exact k
theorem vZ(T:Txt K mg)(d:Df K mg "minus" ja ["one","other"])(Ji:Fn P w K mg base "plus" 3 ["one","other"] L9)(IF:Fn P w K mg base "opposite" 1 ["one"] dS):Fn P w K mg base "minus" 4 ["one","other"] L4:=by
 have sc:=vh
 refine h7 d sc (fun ds M R Y h=>?_) (fun f cdv A outer s H E ds M R Y hr h=>?_)
 ·obtain⟨q,r,rfl,_⟩:=h;rfl
 ·obtain⟨q,r,rfl,hz,k⟩:=h
  refine⟨_,(d8 (d9 (jc Ji hr (a9 (d4 0) (a9 (jc IF hr (a9 (d4 1) d5)) d5))))),?_⟩
  refine⟨_,rfl,_,rfl,r,rfl,q,-r,rfl,by rw[RM.K2];exact hz,?_⟩
  rw[Pq]at k
  exact k
theorem wb(T:Txt K mg)(d:Df K mg "cross" jd ["one","other"])(JC:Fn P w K mg base "minus" 4 ["one","other"] L4)(IG:Fn P w K mg base "times" 3 ["one","other"] D2):Fn P w K mg base "cross" 5 ["one","other"] jt:=by
 have sc:=vk
 walk_at "fn"
 obtain⟨y,u,z,w,rfl,hz,k⟩:=h
 refine⟨_,(d7 (v8 (d4 0) (p9 (n:=2) rfl (e9 (jn 2 sc.nd) (e9 (jn 3 sc.nd) j0)))) (d7 (v8 (d4 1) (p9 (n:=2) rfl (e9 (jn 4 sc.nd) (e9 (jn 5 sc.nd) j0)))) (d8 (d9 (jc JC hr (a9 (jc IG hr (a9 (d4 2) (a9 (d4 5) d5))) (a9 (jc IG hr (a9 (d4 4) (a9 (d4 3) d5))) d5))))))),?_⟩
 walk_at "sim"
 have m1:=RM.m9 y w
 have m2:=RM.m9 z u
 exact⟨by omega,by omega,by omega,k⟩
theorem fR(T:Txt K mg)(d:Df K mg "most_along" P2 ["lines","number","p","q"])(JD:Fn P w K mg base "grown" 4 ["ray","share"] jr)(Ju:Fn P w K mg base "over" 3 ["one","other"] iF)(IQ:Fn P w K mg base "value_of" 3 ["p","q","ray"] qq)(IG:Fn P w K mg base "times" 3 ["one","other"] D2)(JK:Fn P w K mg base "unsigned" 1 ["one"] lI)(IF:Fn P w K mg base "opposite" 1 ["one"] dS)(Ke:Fn P w K mg base "cross" 5 ["one","other"] jt):Fn P w K mg base "most_along" 6 ["lines","number","p","q"] qr:=by
 have sc:=fJ
 walk_at "fn"
 obtain⟨ls,n,p,q,rfl,l,j,rfl,hj,ok,hpq,⟨hp,hq⟩,k⟩:=h
 have z1:=ok.p6
 have z2:=ok.q6
 have z3:=ok.r6
 have r0:=ok.pos
 have ne:=ok.ne
 refine⟨_,(d7 (v8 (jx (d4 0) (d4 1)) (p9 (n:=3) rfl (e9 (jn 4 sc.nd) (e9 (jn 5 sc.nd) (e9 (jn 6 sc.nd) j0))))) (d7 (jst 7 sc.nd (jc Ke hr (a9 (f9 (a9 (d4 4) (a9 (d4 5) d5))) (a9 (f9 (a9 (d4 2) (a9 (d4 3) d5))) d5)))) (d7 (i0 (jtm aM (jx (d4 7) d6) d6) (d8 (d9 (f9 (a9 A8 (a9 (f9 (a9 (d4 5) (a9 (jc IF hr (a9 (d4 4) d5)) d5))) d5))))) g6) (d7 (i0 (jtm eU (jx (d4 7) d6) d6) (d8 (d9 (f9 (a9 A8 (a9 (f9 (a9 (jc IF hr (a9 (d4 5) d5)) (a9 (d4 4) d5))) d5))))) g6) (d7 (jst 8 sc.nd (ff (jtm (mF hu) (d4 4) (E7 rfl T.c_NOUGHT)) (jc Ju hr (a9 (d4 3) (a9 (d4 5) d5))) (jc Ju hr (a9 (d4 2) (a9 (d4 4) d5))))) (d7 (jst 9 sc.nd (jc IG hr (a9 (jc JK hr (a9 (d4 8) d5)) (a9 (d4 6) d5)))) (d7 (jst 10 sc.nd (jc JD hr (a9 (f9 (a9 (d4 2) (a9 (d4 3) d5))) (a9 (jc Ju hr (a9 (d4 9) (a9 (jc IQ hr (a9 (d4 2) (a9 (d4 3) (a9 (f9 (a9 (d4 2) (a9 (d4 3) d5))) d5)))) d5))) d5)))) (d8 (d9 (f9 (a9 A8 (a9 (d4 9) (a9 (d4 10) (a9 (C5 (a9 (f9 (a9 (d4 1) (a9 (d4 8) d5))) d5)) d5)))))))))))))),?_⟩
 walk_at "sim"
 refine⟨f8 l,by show atI (ls.map f8) (j:Int)=_;rw[df (by rw[LS,hj];rfl)],?_⟩
 walk_at "sim"
 have sq:=iE hpq
 have a3:=RM.m9 p p
 have a4:=RM.m9 q q
 have a5:=RM.G8 (p*p) (q*q)
 rw[T7,wg]
 unfold F0 at k
 refine⟨by omega,fun c1=>?_,fun c1=>⟨fun c2=>?_,fun c2=>⟨fun c3=>?_,fun c3=>?_⟩⟩⟩
 ·rw[if_pos c1]at k;exact k
 ·rw[if_neg c1,if_pos c2]at k;exact k
 ·have n2:l.2.1≠0:=fun w=>ne ⟨c3,w⟩
  have a1:=RM.P0 q l.2.1 n2
  have a2:=dR (q / l.2.1)
  have a6:=RM.m9 (j8 (q / l.2.1)) l.2.2
  have a7:=RM.P0 (j8 (q / l.2.1)*l.2.2) (p*p+q*q) (t6 sq)
  rw[if_neg c1,if_neg c2,if_pos c3]at k
  exact⟨n2,by omega,by omega,by omega,t6 sq,by omega,⟨by omega,by omega⟩,k⟩
 ·have a1:=RM.P0 p l.1 c3
  have a2:=dR (p / l.1)
  have a6:=RM.m9 (j8 (p / l.1)) l.2.2
  have a7:=RM.P0 (j8 (p / l.1)*l.2.2) (p*p+q*q) (t6 sq)
  rw[if_neg c1,if_neg c2,if_neg c3]at k
  exact⟨c3,by omega,by omega,by omega,t6 sq,by omega,⟨by omega,by omega⟩,k⟩
theorem zR(T:Txt K mg)(d:Df K mg "most" nR ["lines","p","q"])(Jd:Fn P w K mg base "most_around" 4 ["half","p","q"] vt)(Jj:Fn P w K mg base "most_along" 6 ["lines","number","p","q"] qr)(IP:Fn P w K mg base "half_rim" 4 ["lines"] lV):Fn P w K mg base "most" 7 ["lines","p","q"] qs:=by
 have sc:=yT
 walk_at "fn"
 obtain⟨ls,p,q,rfl,⟨hls,hp,hq⟩,k⟩:=h
 have hlo:=hls.lo
 have hsz:=hls.szs
 have hsc:=hls.scale
 have hlen:=fh hlo
 have h12:=hls.1
 refine⟨_,(d7 (i0 (L6 (Q5 (jtm (mF hu) (d4 1) (E7 rfl T.c_NOUGHT)) (J6 (jtm (mF hu) (d4 2) (E7 rfl T.c_NOUGHT))))) (d8 (d9 (f9 (a9 A8 (a9 (E7 rfl T.c_NOUGHT) (a9 (f9 (a9 (E7 rfl T.c_NOUGHT) (a9 (E7 rfl T.c_NOUGHT) d5))) (a9 (C5 d5) d5))))))) g6) (d7 (jst 3 sc.nd (jc IP hr (a9 (d4 0) d5))) (d7 (i0 (jtm D7 (p8 U8 rfl T.b_len K9 (a9 (d4 3) d5)) d6) (d8 (d9 (f9 (a9 A8 (a9 (f9 (a9 (d4 1) (a9 (d4 2) d5))) d5))))) g6) (d7 (i0 (jtm D7 (p8 U8 rfl T.b_len K9 (a9 (d4 3) d5)) d6) (d8 (d9 (jc Jj hr (a9 (d4 0) (a9 (jx (jx (d4 3) d6) d6) (a9 (d4 1) (a9 (d4 2) d5))))))) g6) (d8 (d9 (jc Jd hr (a9 (d4 3) (a9 (d4 1) (a9 (d4 2) d5)))))))))),?_⟩
 walk_at "sim"
 have kz:p=0∧q=0→R (D.tup [D.str "most",f6 0,D.tup [f6 0,f6 0],D.vl []]) M:=fun c=>by
  have k:=k
  unfold K7 at k
  rw[if_pos c]at k
  exact k
 have fin:¬ (p=0∧q=0)→sW ls∧(((t9 (e7 ls)).map sdD).length=(0:Int)→R (D.tup [D.str "free",D.tup [f6 p,f6 q]]) M)∧(¬ ((((t9 (e7 ls)).map sdD).length:Nat):Int)=0→(((((t9 (e7 ls)).map sdD).length:Nat):Int)=1→gIx (D.vl (MB sdD (t9 (e7 ls)))) (D.int 0) M fun x M1=>gIx x (D.int 3) M1 fun x M1=>qr [D.vl (MB f8 ls),x,f6 p,f6 q] M1 R Y0)∧(¬ ((((t9 (e7 ls)).map sdD).length:Nat):Int)=1→(((t9 (e7 ls)).length≤30∧∀(s:Sd),s∈t9 (e7 ls)→SzS s)∧(sz p≤1100∧sz q≤1100)∧∃ a b,kA (t9 (e7 ls)) (wtF p q)=some (a,b)∧(SzS a∧SzS b)∧0<veZ a b∧a.2.2.2.1≠b.2.2.2.1∧a.2.2.2.2.natAbs<2 ^ 1400∧b.2.2.2.2.natAbs<2 ^ 1400)∧R (ix (t9 (e7 ls)) p q).toD M)):=fun c=>by
  have k:=k
  unfold K7 at k
  rw[if_neg c]at k
  refine⟨hls.ok,fun h0=>?_,fun h0=>⟨fun h1=>?_,fun h1=>?_⟩⟩
  ·have e:t9 (e7 ls)=[]:=by
    rw[Lr]at h0
    exact NT (by omega)
   rw[e]at k
   exact k
  ·obtain⟨h0',e⟩:∃ h,t9 (e7 ls)=[h]:=by
    rw[Lr]at h1
    exact List.length_eq_one_iff.mp (by omega)
   have hne:ls≠[]:=fun z=>by rw[z]at e;cases e
   obtain⟨g0,m,e',m0,_⟩:=C6 hlo hne
   rw[e]at e'
   cases e'
   obtain⟨l,j,el,en,_⟩:=dW m0
   rw[e]at k ⊢
   have k:R (F0 (ls.getD h0'.2.2.2.1.toNat (0,0,0)) h0'.2.2.2.1 p q).toD M:=k
   rw[en,Nk,LF,el]at k
   refine⟨sdD h0',rfl,.int h0'.2.2.2.1,rfl,ls,h0'.2.2.2.1,p,q,rfl,l,j,en,el,hls.2 l (LK el),c,⟨hp,hq⟩,?_⟩
   rw[en];exact k
  ·obtain⟨h0',x,l,e⟩:∃ h0 x l,t9 (e7 ls)=h0 :: x :: l:=by
    cases e:t9 (e7 ls)with
    | nil=>rw[e]at h0;exact absurd rfl h0
    | cons a r =>
     cases r with
     | nil=>rw[e]at h1;exact absurd rfl h1
     | cons b r=>exact⟨a,b,r,rfl⟩
   obtain⟨a,b,ea,A⟩:=fo hlo e (uF c)
   have hne:ls≠[]:=fun z=>by rw[z]at e;cases e
   have hin:∀ s∈t9 (e7 ls),s∈e7 ls:=Al hlo
   rw[e]at k hlen hin ⊢
   refine⟨⟨⟨by omega,fun s hs=>hsz s (hin s hs)⟩,⟨hp,hq⟩,a,b,ea,⟨hsz a A.ma,hsz b A.mb⟩,A.ve,zW A.ma A.mb (by have:=A.ve;omega),hsc a A.ma,hsc b A.mb⟩,k⟩
 exact⟨fun c1=>⟨fun c2=>kz ⟨c1,c2⟩,fun c2=>fin fun z=>c2 z.2⟩,fun c1=>fin fun z=>c1 z.1⟩
theorem jD(T:Txt K mg)(d:Df K mg "others_of" S1 ["lines","k"]):Fn P w K mg base "others_of" 1 ["lines","k"] CU:=by
 have sc:=iM
 walk_at "fn"
 obtain⟨ls,kk,rfl,hl,k⟩:=h
 refine⟨_,(d8 (d9 (E8 [1] ["number","line"] ["k"] rfl (by decide +kernel) rfl (by decide +kernel) (by decide +kernel) rfl (aY ⟨rfl,rfl⟩) (aY (Or.inl rfl)) (fb rfl T.b_enumerate (a9 (d4 0) d5)) (fun _ _ _ _ _ _=>(p9 (n:=2) rfl (e9 (jn 0 (show(["number","line","k"]:List Str).Nodup by decide +kernel)) (e9 (jn 1 (show(["number","line","k"]:List Str).Nodup by decide +kernel)) j0)))) (fun _ _ _ _ _ _=>(gY (jtm (wd hu) (d4 0) (d4 2)))) (fun _ _ _ _ _ _=>(d4 1))))),?_⟩
 walk_at "sim"
 rw[Ap]
 refine aT (fun x:T3 × Nat=>decide (x.2≠kk)) (fun x=>f8 x.1) (by rw[List.length_zipIdx];omega) (by simp only[i9]) (fun x hx Q N h1 h2=>?_) ?_
 ·walk_at "sim"
  exact⟨fun h=>h1 (decide_eq_true fun z=>h (by rw[z])),fun h=>h2 (decide_eq_false fun z=>z (by omega))⟩
 ·have e:=oT ls 0 kk
  rw[Oj]at e
  have e2:(List.filter (fun x:T3 × Nat=>decide (x.2≠kk)) ls.zipIdx).map (fun x=>f8 x.1)=(bZ ls kk).map f8:=by
   unfold bZ
   rw[← e,Ms];rfl
  rw[e2]
  exact k
theorem zU(T:Txt K mg)(d:Df K mg "idle" nU ["lines","k"])(JF:Fn P w K mg base "less" 1 ["one","other"] iG)(JD:Fn P w K mg base "grown" 4 ["ray","share"] jr)(Ju:Fn P w K mg base "over" 3 ["one","other"] iF)(IQ:Fn P w K mg base "value_of" 3 ["p","q","ray"] qq)(Ji:Fn P w K mg base "plus" 3 ["one","other"] L9)(JV:Fn P w K mg base "most" 7 ["lines","p","q"] qs)(Jv:Fn P w K mg base "others_of" 1 ["lines","k"] CU):Fn P w K mg base "idle" 8 ["lines","k"] vz:=by
 have sc:=yW
 walk_at "fn"
 obtain⟨ls,kk,rfl,hls,l,hk,k⟩:=h
 have hm:=LK hk
 have ok:=hls.2 l hm
 have z1:=ok.p6
 have z2:=ok.q6
 have z3:=ok.r6
 have r0:=ok.pos
 refine⟨_,(d7 (v8 (jx (d4 0) (d4 1)) (p9 (n:=3) rfl (e9 (jn 2 sc.nd) (e9 (jn 3 sc.nd) (e9 (jn 4 sc.nd) j0))))) (d7 (jst 5 sc.nd (jc JV hr (a9 (jc Jv hr (a9 (d4 0) (a9 (d4 1) d5))) (a9 (d4 2) (a9 (d4 3) d5))))) (d7 (i0 (jtm gT (jx (d4 5) d6) A8) (d7 (jst 6 sc.nd (jx (d4 5) d6)) (d8 (d9 (f9 (a9 A8 (a9 (jc JD hr (a9 (d4 6) (a9 (jc Ju hr (a9 (jc Ji hr (a9 (d4 4) (a9 (d4 4) d5))) (a9 (jc IQ hr (a9 (d4 2) (a9 (d4 3) (a9 (d4 6) d5)))) d5))) d5))) d5)))))) g6) (d7 (v8 (d4 5) (p9 (n:=4) rfl (e9 (jn 7 sc.nd) (e9 (jn 8 sc.nd) (e9 (jn 6 sc.nd) (e9 (jn 9 sc.nd) j0)))))) (d7 (i0 (Q4 (jc JF hr (a9 (d4 4) (a9 (d4 8) d5)))) (d8 (d9 (f9 (a9 A8 (a9 (d4 6) d5))))) g6) (d8 (d9 (f9 (a9 A8 (a9 (E8 [1] ["number","share"] ["k"] rfl (by decide +kernel) rfl (by decide +kernel) (by decide +kernel) rfl (aY ⟨rfl,rfl⟩) (aY (Or.inl rfl)) (y4 (d4 9)) (fun _ _ _ _ _ _=>(p9 (n:=2) rfl (e9 (jn 0 (show(["number","share","k"]:List Str).Nodup by decide +kernel)) (e9 (jn 1 (show(["number","share","k"]:List Str).Nodup by decide +kernel)) j0)))) (fun _ _ _ _ _ _=>A5) (fun _ _ _ _ _ _=>(f9 (a9 (ff (jtm aM (d4 0) (d4 2)) (d4 0) (e8 B1 (d4 0) d6)) (a9 (d4 1) d5))))) d5)))))))))),?_⟩
 walk_at "sim"
 refine⟨f8 l,by show atI (ls.map f8) (kk:Int)=_;rw[df (by rw[LS,hk];rfl)],?_⟩
 walk_at "sim"
 have mm:=bA (hls.oth kk).lo l.1 l.2.1
 obtain⟨s1,s2⟩:=jP (hls.oth kk) (p:=l.1) (q:=l.2.1) (N:=600) (by omega) (by omega) (LM _) (by decide)
 refine⟨hls.1,⟨hls.oth kk,by omega,by omega⟩,?_⟩
 unfold wL at k
 cases e:K7 (bZ ls kk) l.1 l.2.1 with
 | free z =>
  rw[e]at k
  obtain⟨y1,y2⟩:=s1 z e
  obtain⟨_,_,_,f4,_⟩:=mm.free z e
  have er:R1.toD (.free z) = .tup [.str "free",v6 z.1 z.2]:=rfl
  rw[er]
  walk_at "sim"
  have m1:=RM.m9 l.1 z.1
  have m2:=RM.m9 l.2.1 z.2
  have m3:=RM.G8 (l.1*z.1) (l.2.1*z.2)
  have m4:=RM.G8 l.2.2 l.2.2
  have m5:=RM.P0 (l.2.2+l.2.2) (l.1*z.1+l.2.1*z.2) (t6 f4)
  exact⟨by omega,by omega,t6 f4,by omega,⟨by omega,by omega⟩,k⟩
 | most v z sh =>
  rw[e]at k
  obtain⟨y1,y2⟩:=s2 v z sh e
  have hsl:=zY e
  have er:R1.toD (.most v z sh) = .tup [.str "most",f6 v,rD z,.vl (sh.map shD)]:=rfl
  rw[er]
  walk_at "sim"
  have k:R (if l.2.2<v then cy.needed z else .idle (sh.map fun s=>(if s.1<(kk:Int)then s.1 else s.1+1,s.2))).toD M:=k
  refine⟨fun z=>absurd z (by decide +kernel),fun _=>⟨by omega,fun c=>?_,fun c=>?_⟩⟩
  ·rw[if_pos c]at k;exact k
  ·rw[if_neg c]at k
   refine B7 (fun s:Int × Rat=>shD (if s.1<(kk:Int)then s.1 else s.1+1,s.2)) (by omega) (by simp only[i9]) (fun s hs Q hQ=>?_) ?_
   ·unfold shD at hQ ⊢
    walk_at "sim"
    by_cases c2:s.1<(kk:Int)
    ·rw[if_pos c2]at hQ
     exact⟨fun _=>hQ,fun z=>absurd c2 z⟩
    ·rw[if_neg c2]at hQ
     exact⟨fun z=>absurd z c2,fun _=>hQ⟩
   ·have k:R (.tup [.str "idle",.vl ((sh.map fun s=>(if s.1<(kk:Int)then s.1 else s.1+1,s.2)).map shD)]) M:=k
    rw[Ms]at k
    exact k
theorem Z3(T:Txt K mg)(d:Df K mg "_law_idle_right" E2 ["lines","rays","k"])(JL:Fn P w K mg base "lets" 3 ["lines","ray"] bu)(IX:Fn P w K mg base "corners" 5 ["lines"] lW)(Kz:Fn P w K mg base "idle" 8 ["lines","k"] vz):Fn P w K mg base "_law_idle_right" 9 ["lines","rays","k"] vB:=by
 have sc:=X7
 walk_at "fn"
 obtain⟨ls,x,kk,rfl,⟨hls,rfl,hk⟩,k⟩:=h
 have hx:=LJ hk
 generalize ls[kk]=l at hx
 have h12:=hls.1
 refine⟨_,(d7 (jst 3 sc.nd (jc Kz hr (a9 (d4 0) (a9 (d4 2) d5)))) (d7 (jst 4 sc.nd (L7 (C4 (d4 0) B6 (B5 (d4 2))) (C4 (d4 0) (B5 (e8 B1 (d4 2) d6)) B6))) (d7 (i0 (jtm gT (jx (d4 3) d6) A8) (d8 (d9 (jm (mF hu) (jc IX hr (a9 (d4 4) d5)) (d4 1)))) g6) (d8 (d9 (jU (jc JL hr (a9 (d4 4) (a9 (jx (d4 3) d6) d5))) (cX (jT (jc JL hr (a9 (d4 0) (a9 (jx (d4 3) d6) d5))))))))))),?_⟩
 walk_at "sim"
 refine⟨hls,l,hx,?_⟩
 have c1:DL.R5 (ls.map f8) none (some (kk:Int))=(ls.take kk).map f8:=by rw[bG,NH]
 have c2:DL.R5 (ls.map f8) (some ((kk:Int)+1)) none=(ls.drop (kk+1)).map f8:=by rw[show(kk:Int)+1=((kk+1:Nat):Int)by omega,de,PC]
 rw[c1,c2,A7 (by rw[Lr,Lr,Ma,Mi];omega),← LH]
 have eo:ls.take kk++ls.drop (kk+1)=bZ ls kk:=rfl
 rw[eo]
 have ho:=hls.oth kk
 have ok:=hls.2 l (LK hx)
 have z1:=ok.p6
 have z2:=ok.q6
 have z3:=ok.r6
 have r0:=ok.pos
 have mm:=bA ho.lo l.1 l.2.1
 obtain⟨s1,s2⟩:=jP ho (p:=l.1) (q:=l.2.1) (N:=600) (by omega) (by omega) (LM _) (by decide)
 have lsz:∀{ms:List T3},K0 ms→∀ m∈ms,LSz 600 m:=fun hm m hmm=>⟨by have:=(hm.2 m hmm).p6;omega,by have:=(hm.2 m hmm).q6;omega,by have:=(hm.2 m hmm).r6;omega⟩
 have esp:ls=ls.take kk++l :: ls.drop (kk+1):=by
  have:=NO kk ls
  rw[Oo hk]at this
  rw[← (LP.mp hx).2]
  exact this.symm
 have bad:∀(P:Mem→Prop) (z:Zr),r9 (bZ ls kk) z.1 z.2=true→l.2.2<l.1*z.1+l.2.1*z.2→sz z.1≤5000→sz z.2≤5000→gIx (cy.toD (.needed z)) (.int 0) M fun x M1=>gF (fS fun i j=>D.bl (decide (i=j))) x (.str (Str.ofString "idle")) M1 fun x M'=>BlK x M' fun c M1=>(c=true→P M1)∧(c=false→gIx (cy.toD (.needed z)) (.int 1) M1 fun x M1=>bu [D.vl (MB f8 (bZ ls kk)),x] M1 (fun x M1=>BlK x M1 fun c M1=>(c=true→gIx (cy.toD (.needed z)) (.int 1) M1 fun x M1=>bu [D.vl (MB f8 ls),x] M1 (fun x M1=>BlK x M1 fun c M1=>R (D.bl !c) M1) Y0)∧(c=false→R (D.bl false) M1)) Y0):=fun P z h1 h2 y1 y2=>by
  rw[show cy.toD (.needed z)=D.tup [.str "needed",v6 z.1 z.2]from rfl]
  walk_at "sim"
  have nl:r9 ls z.1 z.2=false:=by
   rw[Bool.eq_false_iff]
   intro hh
   unfold r9 at hh
   rw[ML]at hh
   have:=(B2 l z.1 z.2).mp (hh l (LK hx))
   grind
  rw[h1,nl]
  exact⟨fun z=>absurd z (by decide +kernel),fun _=>⟨⟨ho.1,lsz ho,y1,y2⟩,fun _=>⟨⟨hls.1,lsz hls,y1,y2⟩,k⟩,fun z=>PX z⟩⟩
 unfold wL
 cases em:K7 (bZ ls kk) l.1 l.2.1 with
 | free z =>
  obtain⟨_,_,f3,f4,_⟩:=mm.free z em
  obtain⟨y1,y2⟩:=s1 z em
  have m1:=RM.m9 l.1 z.1
  have m2:=RM.m9 l.2.1 z.2
  have m3:=RM.G8 (l.1*z.1) (l.2.1*z.2)
  have m4:=RM.G8 l.2.2 l.2.2
  have m5:=RM.P0 (l.2.2+l.2.2) (l.1*z.1+l.2.1*z.2) (t6 f4)
  have m6:=RM.m9 z.1 ((l.2.2+l.2.2) / (l.1*z.1+l.2.1*z.2))
  have m7:=RM.m9 z.2 ((l.2.2+l.2.2) / (l.1*z.1+l.2.1*z.2))
  have ek:(l.2.2+l.2.2) / (l.1*z.1+l.2.1*z.2)*(l.1*z.1+l.2.1*z.2)=l.2.2+l.2.2:=Mm (t6 f4)
  refine bad _ (grZ z ((l.2.2+l.2.2) / (l.1*z.1+l.2.1*z.2))) ?_ ?_ (by show sz (z.1*_)≤_;omega) (by show sz (z.2*_)≤_;omega)
  ·unfold r9
   rw[ML]
   intro m hm
   rw[B2]
   have e0:=f3 m hm
   have p0:=(ho.2 m hm).pos
   generalize (l.2.2+l.2.2) / (l.1*z.1+l.2.1*z.2)=g
   have e1:m.1*(grZ z g).1+m.2.1*(grZ z g).2=0:=by
    show m.1*(z.1*g)+m.2.1*(z.2*g)=0
    have:m.1*(z.1*g)+m.2.1*(z.2*g)=(m.1*z.1+m.2.1*z.2)*g:=by grind
    rw[this,e0];grind
   rw[e1]
   constructor<;>grind
  ·show l.2.2<l.1*(z.1*_)+l.2.1*(z.2*_)
   generalize (l.2.2+l.2.2) / (l.1*z.1+l.2.1*z.2)=g at *
   have:l.1*(z.1*g)+l.2.1*(z.2*g)=g*(l.1*z.1+l.2.1*z.2):=by grind
   rw[this,ek];grind
 | most v z sh =>
  obtain⟨f1,f2,f3,f4⟩:=mm.most v z sh em
  obtain⟨_,y2⟩:=s2 v z sh em
  obtain⟨y2,y3⟩:=y2 (LM _)
  show gIx (if l.2.2<v then cy.needed z else .idle (sh.map fun s=>(if s.1<(kk:Int)then s.1 else s.1+1,s.2))).toD (.int 0) M _
  by_cases c:l.2.2<v
  ·have eI:(if l.2.2<v then cy.needed z else .idle (sh.map fun s=>(if s.1<(kk:Int)then s.1 else s.1+1,s.2))) = .needed z:=if_pos c
   simp only[eI]
   exact bad _ z f1 (by rw[← f2];exact c) y2 y3
  ·have eI:(if l.2.2<v then cy.needed z else .idle (sh.map fun s=>(if s.1<(kk:Int)then s.1 else s.1+1,s.2))) = .idle (sh.map fun s=>(if s.1<(kk:Int)then s.1 else s.1+1,s.2)):=if_neg c
   simp only[eI]
   have same:G7 (bZ ls kk)=G7 ls:=by
    refine oI ho.lo hls.lo fun y u=>?_
    conv=>rhs;rw[esp]
    exact sH v f3 (by grind) y u
   rw[show ∀ s,cy.toD (.idle s)=D.tup [.str "idle",.vl (s.map shD)]from fun _=>rfl]
   walk_at "sim"
   rw[same]
   refine⟨ho.ok,qA _,qA _,?_⟩
   rw[sO rfl]
   exact k
theorem mD(T:Txt K mg)(d:Df K mg "_law_low" Z0 ["top","bottom"]):Fn P w K mg base "_law_low" 1 ["top","bottom"] D9:=by
 have sc:=lU
 walk_at "fn"
 obtain⟨a,b,rfl,hb,hl,k⟩:=h
 refine⟨_,(d7 (W3 (i:=2) (j:=3) rfl sc.nd rfl rfl (by decide) rfl rfl (a9 (p8 fm rfl T.b_abs af (a9 (d4 0) d5)) (a9 (p8 fm rfl T.b_abs af (a9 (d4 1) d5)) d5))) (d7 (bB PassesOwn.never (jtm eU (d4 3) d6) (d8 (W3 (i:=2) (j:=3) rfl sc.nd rfl rfl (by decide) rfl rfl (a9 (d4 3) (a9 (e8 R4 (d4 2) (d4 3)) d5))))) (d7 (i0 (jtm aM (d4 1) d6) (d8 (jst 2 sc.nd (e8 F5 d6 (d4 2)))) g6) (d8 (d9 (f9 (a9 (e8 K6 (d4 0) (d4 2)) (a9 (e8 K6 (d4 1) (d4 2)) d5)))))))),?_⟩
 walk_at "sim"
 refine rE (fun m e M2=>M2=M∧∃ v:Nat,e=[some (.int a),some (.int b),some (.int (v:Int)),some (.int (m:Int))]∧Mz v m=Mz a.natAbs b.natAbs) b.natAbs ⟨rfl,a.natAbs,rfl,rfl⟩ ?_
 rintro m e M2 ⟨rfl,v,rfl,hg⟩
 walk_at "sim"
 refine⟨fun h0=>⟨by omega,v % m,MM _ (by omega),m,by rw[PY],by rw[← hg];exact(RM.mM v m (by omega)).symm⟩,fun h0=>?_⟩
 have hm:m=0:=by omega
 subst hm
 rw[PD]at hg
 subst hg
 have hn:=wQ (a:=a) hb
 have hlg:=qK (a:=a) hb hl
 have c1:(0 - ((Mz a.natAbs b.natAbs:Nat):Int)).natAbs.log2<9000:=by rw[PQ,Ml];exact hlg
 refine⟨fun h1=>⟨⟨by omega,c1⟩,⟨by omega,c1⟩,cW hb (by rw[if_pos h1,PQ]) k⟩,fun h1=>⟨⟨hn,hlg⟩,⟨hn,hlg⟩,cW hb (by rw[if_neg h1]) k⟩⟩
theorem jJ(T:Txt K mg)(d:Df K mg "_law_next" S7 ["pool","base"]):Fn P w K mg base "_law_next" 1 ["pool","base"] G9:=by
 have sc:=iT
 refine h7 d sc (fun ds M R Y h=>?_) (fun f cdv A outer s H E ds M R Y hr h=>?_)
 ·obtain⟨p,b,rfl,_⟩:=h;rfl
 ·obtain⟨p,b,rfl,⟨x,y,z,hM⟩,hb,hl,k⟩:=h
  refine⟨_,(d7 (i0 (jtm eU (jx (d4 0) d6) d6) (d7 (jst 2 sc.nd (e8 R4 (jx (d4 0) d6) (d4 1))) (d7 (v8 (e8 K6 (jx (d4 0) d6) (d4 1)) (jS (d4 0) d6)) (d8 (d9 (d4 2))))) g6) (d7 (v8 (e8 B1 (jx (d4 0) d6) d6) (jS (d4 0) d6)) (d7 (jst 3 sc.nd (e8 R4 (e8 B1 (jx (d4 0) d6) (e8 h9 d6 (jx (d4 0) d6))) d6)) (d7 (jst 4 sc.nd (e8 R4 (e8 h9 (e8 B1 (d4 3) d6) (e8 B1 (d4 3) d6)) d6)) (d8 (d9 (e8 R4 (e8 K6 (e8 R4 (e8 h9 (d4 4) (d4 4)) d6) d6) (d4 1)))))))),?_⟩
  refine⟨_,rfl,_,E9 hM rfl,_,rfl,_,rfl,?_⟩
  refine wJ (fun h0=>?_) (fun h0=>?_)
  ·refine⟨_,rfl,_,E9 hM rfl,_,rfl,_,_,rfl,rfl,hb,?_⟩
   refine⟨_,rfl,_,E9 hM rfl,_,rfl,_,_,rfl,rfl,⟨by omega,hl⟩,_,rfl,_,_,_,_,rfl,rfl,hM,rfl,?_⟩
   exact⟨_,rfl,k _ _ (NA _ (by omega)) (Nf _ hb) (j9.upd _ _ _)⟩
  ·refine⟨_,rfl,_,E9 hM rfl,_,rfl,_,rfl,_,_,_,_,rfl,rfl,hM,rfl,?_⟩
   refine⟨_,rfl,_,E9 h8 rfl,_,rfl,_,E9 h8 rfl,_,_,rfl,rfl,zZ (by decide) (by decide),_,rfl,_,_,rfl,rfl,(by show(0:Int)<1000000007;decide),?_⟩
   refine⟨_,rfl,_,rfl,_,rfl,_,rfl,_,_,rfl,rfl,HX (by decide) (by decide) (by decide) (by decide),_,_,rfl,rfl,(by show(0:Int)<998244353;decide),?_⟩
   refine⟨_,rfl,_,rfl,_,_,rfl,rfl,Gm (by decide) (by decide),_,_,rfl,rfl,(by show(0:Int)<2147483647;decide),_,_,rfl,rfl,Il,_,rfl,_,_,rfl,rfl,hb,?_⟩
   exact k _ _ (NA _ (by omega)) (Nf _ hb) (j9.upd _ _ _)
theorem jG(T:Txt K mg)(d:Df K mg "_law_wide" S4 ["pool","base"])(Iy:Fn P w K mg base "_law_next" 1 ["pool","base"] G9):Fn P w K mg base "_law_wide" 2 ["pool","base"] G9:=by
 have sc:=iQ
 refine h7 d sc (fun ds M R Y h=>?_) (fun f cdv A outer s H E ds M R Y hr h=>?_)
 ·obtain⟨p,b,rfl,_⟩:=h;rfl
 ·obtain⟨p,b,rfl,⟨x,y,z,hM⟩,hb,hl,k⟩:=h
  refine⟨_,(d7 (i0 (L6 (gZ (jtm eU (jx (d4 0) d6) d6) (fc (jtm aM (d4 1) (e8 qB d6 d6))))) (d8 (d9 (jc Iy hr (a9 (d4 0) (a9 (d4 1) d5))))) g6) (d7 (jst 2 sc.nd d6) (d7 (t8 PassesOwn.never rfl (W2 rfl T.b_range (a9 (e8 B1 d6 (e8 K6 (Ah (d4 1)) d6)) d5)) (jn 3 sc.nd) (d8 (jst 2 sc.nd (e8 B1 (e8 h9 (d4 2) d6) (jc Iy hr (a9 (d4 0) (a9 d6 d5))))))) (d8 (d9 (e8 R4 (d4 2) (d4 1))))))),?_⟩
  refine⟨_,rfl,_,E9 hM rfl,_,rfl,_,rfl,?_⟩
  have again:Er (mR G9 [] Y0 (qX (W9 0) (qX (W9 1) Es))) { nx:=fun _ M'=>R .non M',rt:=R } (U5 ["pool","base","number","turn"] [.ref p,.int b]) M :=
   ⟨_,rfl,_,rfl,p,b,rfl,⟨x,y,z,hM⟩,hb,hl,k⟩
  refine wJ (fun h0=>?_) (fun h0=>?_)
  ·exact Gs again
  ·refine⟨_,rfl,_,_,rfl,rfl,cp6,_,rfl,_,rfl,?_⟩
   refine wJ (fun h1=>?_) (fun h1=>?_)
   ·exact again
   ·have hbits:=Ay hl
    have e20:((Builtin.Int.intBits b:Nat):Int).fdiv 20=((Builtin.Int.intBits b:Nat):Int) / 20:=aS (by omega) (by decide)
    refine⟨_,rfl,_,rfl,_,_,rfl,rfl,Hg,_,rfl,_,rfl,by rw[e20];omega,by rw[e20];omega,?_⟩
    refine⟨fun i e M'=>∃(n:Int) (t:Option D),e=[some (.ref p),some (.int b),some (.int n),t]∧j9 p M M',⟨0,none,rfl,j9.refl ⟨x,y,z,hM⟩⟩,fun _ _ _ _ _=>trivial,?_,?_⟩
    ·rintro i dd e M' hd ⟨n,t,rfl,st⟩
     refine⟨_,rfl,_,_,rfl,rfl,HY (by decide) (by decide),_,rfl,p,_,rfl,st.pool,by decide,by decide,fun r M2 h0 h1 st2=>?_⟩
     exact⟨_,rfl,_,_,rfl,st.trans st2⟩
    ·rintro e M' ⟨n,t,rfl,st⟩
     exact⟨_,rfl,_,rfl,_,_,rfl,rfl,hb,k _ _ (NA _ (by omega)) (Nf _ hb) st⟩
theorem eQ(T:Txt K mg)(d:Df K mg "_law_number" N6 ["pool"])(IA:Fn P w K mg base "_law_low" 1 ["top","bottom"] D9)(Jb:Fn P w K mg base "_law_wide" 2 ["pool","base"] G9)(Iy:Fn P w K mg base "_law_next" 1 ["pool","base"] G9):Fn P w K mg base "_law_number" 3 ["pool"] O1:=by
 have sc:=eu
 walk_at "fn"
 obtain⟨p,rfl,hp,k⟩:=h
 refine⟨_,(d7 (jst 1 sc.nd (jc Iy hr (a9 (d4 0) (a9 d6 d5)))) (d7 (i0 (jtm aM (d4 1) d6) (d8 (d9 (jc IA hr (a9 (e8 F5 (jc Iy hr (a9 (d4 0) (a9 d6 d5))) d6) (a9 (jx (C5 (a9 d6 (a9 d6 (a9 d6 (a9 d6 (a9 d6 (a9 d6 d5))))))) (jc Iy hr (a9 (d4 0) (a9 d6 d5)))) d5))))) g6) (d7 (i0 (jtm D7 (d4 1) d6) (d8 (d9 (jc IA hr (a9 (e8 F5 (jc Iy hr (a9 (d4 0) (a9 d6 d5))) d6) (a9 (e8 B1 d6 (jc Iy hr (a9 (d4 0) (a9 d6 d5)))) d5))))) g6) (d7 (i0 (jtm D7 (d4 1) d6) (d7 (jst 2 sc.nd (e8 F5 (e8 qB d6 d6) d6)) (d8 (d9 (jc IA hr (a9 (e8 F5 (jc Jb hr (a9 (d4 0) (a9 (e8 B1 (e8 h9 d6 (d4 2)) d6) d5))) (d4 2)) (a9 (e8 B1 d6 (jc Jb hr (a9 (d4 0) (a9 (d4 2) d5)))) d5)))))) g6) (d8 (d9 (f9 (a9 d6 (a9 d6 d5))))))))),?_⟩
 walk_at "sim"
 have e12:(10:Int) ^ Int.toNat 12=1000000000000:=by decide
 have lg:∀{b:Int},b.natAbs<2 ^ 41→b.natAbs.log2<9000:=fun{b} hb=>K8 (Lw hb (LX (by decide) (by decide))) (by decide)
 refine⟨hp,by decide,fun r M1 r0 r1 s1=>⟨fun h1=>⟨s1.pool,by decide,fun t M2 t0 t1 s2=>⟨s2.pool,by decide,fun v M3 v0 v1 s3=>?_⟩⟩,fun h1=>⟨fun h2=>⟨s1.pool,by decide,fun t M2 t0 t1 s2=>⟨s2.pool,by decide,fun v M3 v0 v1 s3=>⟨by omega,lg (by omega),k _ _ (N8 (by decide) (by omega) (by omega) (by omega)) (s1.trans (s2.trans s3))⟩⟩⟩,fun h2=>⟨fun h3=>?_,fun h3=>k _ _ (by decide) s1⟩⟩⟩⟩
 ·refine Q6 (by omega) (by show v<6;omega) fun d hd=>?_
  have hd':∃ b:Int,d = .int b∧0<b∧b≤4:=by
   simp only[Lz,LU,or_false]at hd
   rcases hd with rfl|rfl|rfl|rfl|rfl|rfl
   ·exact⟨1,rfl,by decide,by decide⟩
   ·exact⟨1,rfl,by decide,by decide⟩
   ·exact⟨1,rfl,by decide,by decide⟩
   ·exact⟨2,rfl,by decide,by decide⟩
   ·exact⟨3,rfl,by decide,by decide⟩
   ·exact⟨4,rfl,by decide,by decide⟩
  obtain⟨b,rfl,b0,b1⟩:=hd'
  walk_at "sim"
  exact⟨by omega,lg (by omega),k _ _ (N8 (by decide) (by omega) (by omega) (by omega)) (s1.trans (s2.trans s3))⟩
 ·rw[e12]
  refine⟨Ik,zZ (by decide) (by decide),s1.pool,by decide,lg (by decide),fun t M2 t0 t1 s2=>⟨s2.pool,by decide,lg (by decide),fun v M3 v0 v1 s3=>⟨by omega,lg (by omega),k _ _ (N8 (by decide) (by omega) (by omega) (by omega)) (s1.trans (s2.trans s3))⟩⟩⟩
theorem mC(T:Txt K mg)(d:Df K mg "_law_ray" Y9 ["pool"])(IB:Fn P w K mg base "_law_number" 3 ["pool"] O1):Fn P w K mg base "_law_ray" 4 ["pool"] uW:=by
 have sc:=lT
 walk_at "fn"
 obtain⟨p,rfl,hp,k⟩:=h
 refine⟨_,(d8 (d9 (f9 (a9 (jc IB hr (a9 (d4 0) d5)) (a9 (jc IB hr (a9 (d4 0) d5)) d5))))),?_⟩
 walk_at "sim"
 exact⟨hp,fun q M1 hq s1=>⟨s1.pool,fun r M2 hr' s2=>k q r M2 ⟨hq,hr'⟩ (s1.trans s2)⟩⟩
theorem mB(T:Txt K mg)(d:Df K mg "_law_sum" Y8 ["one","other"])(IA:Fn P w K mg base "_law_low" 1 ["top","bottom"] D9):Fn P w K mg base "_law_sum" 2 ["one","other"] L9:=by
 have sc:=lS
 walk_at "fn"
 obtain⟨q,r,rfl,hz,k⟩:=h
 refine⟨_,(d8 (d9 (jc IA hr (a9 (e8 B1 (e8 h9 (jx (d4 0) d6) (jx (d4 1) d6)) (e8 h9 (jx (d4 1) d6) (jx (d4 0) d6))) (a9 (e8 h9 (jx (d4 0) d6) (jx (d4 1) d6)) d5))))),?_⟩
 walk_at "sim"
 rw[← RM.oP]
 exact⟨mND hz,mND (by omega),mDD hz,Mj (RM.t7 q) (RM.t7 r),lDD hz,k⟩
theorem jN(T:Txt K mg)(d:Df K mg "_law_back" T1 ["one"]):Fn P w K mg base "_law_back" 1 ["one"] dS:=by
 have sc:=iX
 walk_at "fn"
 obtain⟨q,rfl,k⟩:=h
 refine⟨_,(d8 (d9 (f9 (a9 (e8 F5 d6 (jx (d4 0) d6)) (a9 (jx (d4 0) d6) d5))))),?_⟩
 walk_at "sim"
 rw[PQ,BH]
 exact k
theorem jL(T:Txt K mg)(d:Df K mg "_law_less" S9 ["one","other"])(IC:Fn P w K mg base "_law_sum" 2 ["one","other"] L9)(Jw:Fn P w K mg base "_law_back" 1 ["one"] dS):Fn P w K mg base "_law_less" 3 ["one","other"] L4:=by
 have sc:=iV
 walk_at "fn"
 obtain⟨q,r,rfl,hz,k⟩:=h
 refine⟨_,(d8 (d9 (jc IC hr (a9 (d4 0) (a9 (jc Jw hr (a9 (d4 1) d5)) d5))))),?_⟩
 walk_at "sim"
 have:=RM.K2 r
 rw[show q + -r=q - r by grind]
 exact⟨by omega,k⟩
theorem fU(T:Txt K mg)(d:Df K mg "_law_taken" P5 ["one","other"])(IA:Fn P w K mg base "_law_low" 1 ["top","bottom"] D9):Fn P w K mg base "_law_taken" 2 ["one","other"] D2:=by
 have sc:=fL
 walk_at "fn"
 obtain⟨q,r,rfl,hz,k⟩:=h
 refine⟨_,(d8 (d9 (jc IA hr (a9 (e8 h9 (jx (d4 0) d6) (jx (d4 1) d6)) (a9 (e8 h9 (jx (d4 0) d6) (jx (d4 1) d6)) d5))))),?_⟩
 walk_at "sim"
 rw[← RM.ou]
 exact⟨mNN hz,mDD hz,Mj (RM.t7 q) (RM.t7 r),lDD hz,k⟩
theorem fW(T:Txt K mg)(d:Df K mg "_law_cross" J2 ["one","other"])(ID:Fn P w K mg base "_law_less" 3 ["one","other"] L4)(Iz:Fn P w K mg base "_law_taken" 2 ["one","other"] D2):Fn P w K mg base "_law_cross" 4 ["one","other"] CW:=by
 have sc:=X0
 walk_at "fn"
 obtain⟨y,u,z,w,rfl,hz,k⟩:=h
 refine⟨_,(d8 (d9 (jc ID hr (a9 (jc Iz hr (a9 (jx (d4 0) d6) (a9 (jx (d4 1) d6) d5))) (a9 (jc Iz hr (a9 (jx (d4 0) d6) (a9 (jx (d4 1) d6) d5))) d5))))),?_⟩
 walk_at "sim"
 have m1:=RM.m9 y w
 have m2:=RM.m9 u z
 exact⟨by omega,by omega,by omega,k⟩
theorem eR(T:Txt K mg)(d:Df K mg "_law_inside" N7 ["rays","ray"])(Jk:Fn P w K mg base "_law_cross" 4 ["one","other"] CW)(ID:Fn P w K mg base "_law_less" 3 ["one","other"] L4):Fn P w K mg base "_law_inside" 5 ["rays","ray"] CZ:=by
 have sc:=ey
 walk_at "fn"
 obtain⟨rs,y,u,rfl,⟨⟨hne,hl,hz⟩,hy,hu⟩,b,hb,k⟩:=h
 have hpos:0<rs.length:=MG.mpr hne
 refine⟨_,(d7 (t8 PassesOwn.never rfl (W2 rfl T.b_range (a9 (p8 U8 rfl T.b_len K9 (a9 (d4 0) d5)) d5)) (jn 2 sc.nd) (d7 (W3 (i:=3) (j:=4) rfl sc.nd rfl rfl (by decide) rfl rfl (a9 (jx (d4 0) (d4 2)) (a9 (jx (d4 0) (e8 R4 (e8 B1 (d4 2) d6) (p8 U8 rfl T.b_len K9 (a9 (d4 0) d5)))) d5))) (d7 (jst 5 sc.nd (f9 (a9 (jc ID hr (a9 (jx (d4 4) d6) (a9 (jx (d4 3) d6) d5))) (a9 (jc ID hr (a9 (jx (d4 4) d6) (a9 (jx (d4 3) d6) d5))) d5)))) (d7 (jst 6 sc.nd (f9 (a9 (jc ID hr (a9 (jx (d4 1) d6) (a9 (jx (d4 3) d6) d5))) (a9 (jc ID hr (a9 (jx (d4 1) d6) (a9 (jx (d4 3) d6) d5))) d5)))) (d8 (i0 (jtm aM (jx (jc Jk hr (a9 (d4 5) (a9 (d4 6) d5))) d6) d6) (d8 (d9 bU)) g6)))))) (d8 (d9 bU))),?_⟩
 walk_at "sim"
 have lm:(rs.map rD).length=rs.length:=Lr ..
 refine⟨by rw[lm];omega,?_⟩
 have tn:(((rs.map rD).length:Nat):Int).toNat=rs.length:=by rw[lm];rfl
 rw[tn]
 refine R6.by (fun i e M'=>M'=M∧(∃ z2 z3 z4 z5 z6:Option D,e=[some (D.vl (MB rD rs)),some (v6 y u),z2,z3,z4,z5,z6])∧∀ j,j<i→0≤fg (nth rs j) (nth rs (j+1)) (y,u)) ⟨rfl,⟨_,_,_,_,_,rfl⟩,fun j z=>absurd z (OS j)⟩ (fun _ _ _ _ _=>trivial) ?_ ?_
 ·rintro i dd e M' hd ⟨rfl,⟨z2,z3,z4,z5,z6,rfl⟩,hno⟩
  obtain⟨hi,rfl⟩:=W0 hd
  rw[OV]
  have n1:rs[i]? = some (nth rs i):=by rw[wj hi,LJ hi]
  have hj:(i+1) % rs.length<rs.length:=MM _ hpos
  have n2:rs[(i+1) % rs.length]? = some (nth rs (i+1)):=by
   unfold nth
   rw[LF,LJ hj];rfl
  obtain⟨v1,v2⟩:=hz _ (J3 hne i)
  obtain⟨w1,w2⟩:=hz _ (J3 hne (i+1))
  walk_at "sim"
  have em:((i:Int)+1) % (((rs.map rD).length:Nat):Int)=(((i+1) % rs.length:Nat):Int):=by rw[lm,PY];rfl
  refine⟨_,by show atI (rs.map rD) (i:Int)=_;rw[df (by rw[LS,n1];rfl)],by rw[lm];omega,?_⟩
  rw[em]
  refine⟨_,by show atI (rs.map rD) (((i+1) % rs.length:Nat):Int)=_;rw[df (by rw[LS,n2];rfl)],?_⟩
  generalize hv:nth rs i=v at *
  generalize hw:nth rs (i+1)=w at *
  walk_at "sim"
  have a1:=RM.dQ w.1 v.1
  have a2:=RM.dQ w.2 v.2
  have a3:=RM.dQ y v.1
  have a4:=RM.dQ u v.2
  rw[T7]
  refine⟨by omega,by omega,by omega,by omega,by omega,fun c=>?_,fun c=>⟨⟨_,_,_,_,_,rfl⟩,fun j hj=>?_⟩⟩
  ·have:b=false:=by
    cases b with
    | false=>rfl
    | true =>
     have z:=hb.mpr rfl i
     rw[hv,hw]at z
     have z:0≤(w.1 - v.1)*(u - v.2) - (w.2 - v.2)*(y - v.1):=z
     grind
   rw[this]at k;exact k
  ·by_cases e:j=i
   ·rw[e,hv,hw]
    show 0≤(w.1 - v.1)*(u - v.2) - (w.2 - v.2)*(y - v.1)
    grind
   ·exact hno j (by omega)
 ·rw[A0]
  rintro e M' ⟨rfl,⟨z2,z3,z4,z5,z6,rfl⟩,hno⟩
  walk_at "sim"
  have all:∀ i,0≤fg (nth rs i) (nth rs (i+1)) (y,u):=fun i=>by
   have:=hno (i % rs.length) (MM _ hpos)
   have e1:nth rs (i % rs.length)=nth rs i:=by unfold nth;rw[Nat.mod_mod]
   have e2:nth rs (i % rs.length+1)=nth rs (i+1):=by unfold nth;rw[OW]
   rw[e1,e2]at this;exact this
  rw[hb.mp all]at k
  exact k
theorem fY(T:Txt K mg)(d:Df K mg "_law_below" P8 ["one","other"]):Fn P w K mg base "_law_below" 1 ["one","other"] jy:=by
 have sc:=fO
 walk_at "fn"
 obtain⟨q,r,rfl,hz,k⟩:=h
 refine⟨_,(d8 (d9 (jm aM (e8 h9 (jx (d4 0) d6) (jx (d4 1) d6)) (e8 h9 (jx (d4 1) d6) (jx (d4 0) d6))))),?_⟩
 walk_at "sim"
 rw[RM.BJ]
 exact⟨j6 _ _ (v7 q) (o8 r) (by omega),j6 _ _ (v7 r) (o8 q) (by omega),k⟩
theorem fT(T:Txt K mg)(d:Df K mg "_law_worth" P4 ["p","q","ray"])(IC:Fn P w K mg base "_law_sum" 2 ["one","other"] L9)(Iz:Fn P w K mg base "_law_taken" 2 ["one","other"] D2):Fn P w K mg base "_law_worth" 3 ["p","q","ray"] nV:=by
 have sc:=fK
 walk_at "fn"
 obtain⟨p,q,y,u,rfl,hz,k⟩:=h
 have m1:=RM.m9 p y
 have m2:=RM.m9 q u
 refine⟨_,(d8 (d9 (jc IC hr (a9 (jc Iz hr (a9 (d4 0) (a9 (jx (d4 2) d6) d5))) (a9 (jc Iz hr (a9 (d4 1) (a9 (jx (d4 2) d6) d5))) d5))))),?_⟩
 walk_at "sim"
 exact⟨by omega,by omega,by omega,k⟩
theorem bz(T:Txt K mg)(d:Df K mg "_law_cross" J2 ["one","other"])(ID:Fn P w K mg base "_law_less" 3 ["one","other"] L4)(Iz:Fn P w K mg base "_law_taken" 2 ["one","other"] D2):Fn P w K mg base "_law_cross" 4 ["one","other"] vx:=by
 have sc:=X0
 walk_at "fn"
 obtain⟨l,p,q,rfl,hz,k⟩:=h
 refine⟨_,(d8 (d9 (jc ID hr (a9 (jc Iz hr (a9 (jx (d4 0) d6) (a9 (jx (d4 1) d6) d5))) (a9 (jc Iz hr (a9 (jx (d4 0) d6) (a9 (jx (d4 1) d6) d5))) d5))))),?_⟩
 walk_at "sim"
 have m1:=RM.m9 l.1 q
 have m2:=RM.m9 l.2.1 p
 exact⟨by omega,by omega,by omega,k⟩
theorem Z2(T:Txt K mg)(d:Df K mg "_law_most_right" E1 ["lines","rays","p","q"])(Jl:Fn P w K mg base "_law_below" 1 ["one","other"] jy)(Jm:Fn P w K mg base "_law_worth" 3 ["p","q","ray"] nV)(IU:Fn P w K mg base "_law_cross" 4 ["one","other"] vx)(JV:Fn P w K mg base "most" 7 ["lines","p","q"] qs):Fn P w K mg base "_law_most_right" 8 ["lines","rays","p","q"] vq:=by
 have sc:=X6
 walk_at "fn"
 obtain⟨ls,x,p,q,rfl,⟨hls,rfl,hp,hq⟩,k⟩:=h
 have mm:=bA hls.lo p q
 obtain⟨s1,s2⟩:=jP hls (p:=p) (q:=q) (N:=1100) hp hq (by decide) (LM _)
 have h12:=hls.1
 refine⟨_,(d7 (jst 4 sc.nd (jc JV hr (a9 (d4 0) (a9 (d4 2) (a9 (d4 3) d5))))) (d7 (i0 (jtm Gh (d4 1) Z8) (d7 (J5 (i:=5) [2,3] ["line"] ["p","q"] sc.nd rfl (Or.inl rfl) rfl (by decide +kernel) rfl (by decide +kernel) (by decide +kernel) rfl (AA ⟨rfl,rfl⟩ ⟨rfl,rfl⟩) (AA (Or.inl rfl) (Or.inl rfl)) (y4 (d4 0)) (fun _ _ _ _ _ _=>(jn 0 (show(["line","p","q"]:List Str).Nodup by decide +kernel))) (fun _ _ _ _ _ _=>A5) (fun _ _ _ _ _ _=>(jm D7 (jx (jc IU hr (a9 (d4 0) (a9 (f9 (a9 (d4 1) (a9 (d4 2) d5))) d5))) d6) d6))) (d8 (d9 (jm Gi (jm gT (jx (d4 4) d6) A8) (Ee (jm HU bU (d4 5)) (cX (jU (jm D7 (jx (d4 2) d6) d6) (cX (jm D7 (jx (d4 3) d6) d6))))))))) g6) (d7 (J5 (i:=6) [2,3] ["ray"] ["p","q"] sc.nd rfl (Or.inl rfl) rfl (by decide +kernel) rfl (by decide +kernel) (by decide +kernel) rfl (AA ⟨rfl,rfl⟩ ⟨rfl,rfl⟩) (AA (Or.inl rfl) (Or.inl rfl)) (y4 (d4 1)) (fun _ _ _ _ _ _=>(jn 0 (show(["ray","p","q"]:List Str).Nodup by decide +kernel))) (fun _ _ _ _ _ _=>A5) (fun _ _ _ _ _ _=>(jc Jm hr (a9 (d4 1) (a9 (d4 2) (a9 (d4 0) d5)))))) (d7 (i0 (L6 (gZ (jtm Ge (jx (d4 4) d6) A8) (fc (jtm (wc hu) (jx (d4 4) d6) (d4 6))))) (d8 (d9 bU)) g6) (d8 (d9 (jT (p8 (Hl rfl) rfl T.b_any Ex (a9 (E8 [4] ["worth"] ["found"] rfl (by decide +kernel) rfl (by decide +kernel) (by decide +kernel) rfl (aY ⟨rfl,rfl⟩) (aY (Or.inl rfl)) (y4 (d4 6)) (fun _ _ _ _ _ _=>(jn 0 (show(["worth","found"]:List Str).Nodup by decide +kernel))) (fun _ _ _ _ _ _=>A5) (fun _ _ _ _ _ _=>(jc Jl hr (a9 (jx (d4 1) d6) (a9 (d4 0) d5))))) d5))))))))),?_⟩
 walk_at "sim"
 refine⟨⟨hls,hp,hq⟩,?_⟩
 rcases fj hls.lo with⟨ec,al⟩|⟨cs,ec,na,co⟩
 ·rw[ec,show eM none=D.non from rfl,lB (b:=true) rfl]
  walk_at "sim"
  refine B7 (fun l=>D.bl (decide (l.1*q - l.2.1*p=0))) (by omega) (by simp only[i9]) (fun l hl Q hQ=>?_) ?_
  ·have ok:=hls.2 l hl
   have z1:=ok.p6
   have z2:=ok.q6
   walk_at "sim"
   refine⟨by omega,?_⟩
   rw[show decide ((l.1*q - l.2.1*p).num=0)=decide (l.1*q - l.2.1*p=0)from decide_eq_decide.mpr MR]
   exact hQ
  ·dsimp only
   cases em:K7 ls p q with
   | free z =>
    rw[show R1.toD (.free z)=D.tup [.str "free",rD z]from rfl]
    walk_at "sim"
    obtain⟨f1,_,_,_,f5⟩:=mm.free z em
    rw[decide_eq_false (show ¬ Str.ofString "free" = Str.ofString "most" by decide +kernel)]
    refine Cq (xs:=ls) (f:=fun l:T3=>decide (l.1*q - l.2.1*p=0)) ⟨_,rfl,fun hm=>?_,fun _=>⟨fun c1=>?_,fun _=>k⟩⟩
    ·obtain⟨l,hl,e⟩:=PZ.mp hm
     have e:=of_decide_eq_true e
     exact absurd (by rw[show p*l.2.1=l.2.1*p by grind];exact e) (f5 l hl)
    ·have c2:¬ q.num=0:=fun c2=>f1 ⟨MR.mp c1,MR.mp c2⟩
     rw[decide_eq_false c2]
     exact k
   | most v z sh =>
    rw[show R1.toD (.most v z sh)=D.tup [.str "most",f6 v,rD z,.vl (sh.map shD)]from rfl]
    walk_at "sim"
    obtain⟨_,_,_,f4⟩:=mm.most v z sh em
    have f4:(p=0∧q=0)∨(ls.any fun l:T3=>decide (l.1*q - l.2.1*p=0))=true:=by
     rcases f4 with h|⟨_,l,hl,e⟩|h
     ·exact .inl h
     ·exact .inr (PZ.mpr ⟨l,hl,decide_eq_true (by rw[show l.2.1*p=p*l.2.1 by grind];exact e)⟩)
     ·exact(Hf al h).elim
    refine Cq (xs:=ls) (f:=fun l:T3=>decide (l.1*q - l.2.1*p=0)) ⟨_,rfl,fun _=>k,fun hn=>⟨fun c1=>?_,fun c1=>?_⟩⟩
    ·rcases f4 with h|h
     ·rw[decide_eq_true (show q.num=0 by rw[h.2];rfl)]
      exact k
     ·rw[h]at hn;cases hn
    ·rcases f4 with h|h
     ·exact absurd (by rw[h.1];rfl) c1
     ·rw[h]at hn;cases hn
 ·rw[ec,show eM (some cs)=D.vl (cs.map rD)from rfl,lB (b:=false) rfl]
  walk_at "sim"
  have hcl:=rf hls ec
  have hcz:=qZ hls co
  refine B7 (fun z=>f6 (p*z.1+q*z.2)) (by omega) (by simp only[i9]) (fun z hz Q hQ=>?_) ?_
  ·obtain⟨a1,a2⟩:=hcz z hz
   have e:rD z=v6 z.1 z.2:=rfl
   rw[e]
   walk_at "sim"
   exact⟨by omega,hQ⟩
  ·dsimp only
   cases em:K7 ls p q with
   | free z=>exact absurd (mm.free z em).2.1 na
   | most v z sh =>
    obtain⟨f1,f2,f3,f4⟩:=mm.most v z sh em
    obtain⟨y1,_⟩:=s2 v z sh em
    rw[show R1.toD (.most v z sh)=D.tup [.str "most",f6 v,rD z,.vl (sh.map shD)]from rfl]
    walk_at "sim"
    have hin:f6 v∈MB (fun z:Zr=>f6 (p*z.1+q*z.2)) cs:=by
     rcases f4 with h|⟨h,_⟩|h
     ·refine Lv.mpr ⟨nth cs 0,J3 co.ne 0,?_⟩
      rw[f2,h.1,h.2]
      show f6 (0*_+0*_)=f6 (0*_+0*_)
      rw[NP,NP,NP,NP]
     ·exact absurd h na
     ·exact Lv.mpr ⟨z,(co.mem z).mpr h,by rw[f2]⟩
    refine⟨km fun x hx=>(by obtain⟨l,hl,rfl⟩:=Lv.mp hx;rfl),fun hn=>absurd hin hn,fun _=>?_⟩
    refine B7 (enc:=fun z:Zr=>f6 (p*z.1+q*z.2)) (fun z:Zr=>D.bl (decide (v<p*z.1+q*z.2))) (by omega) (by simp only[i9]) (fun c hc Q hQ=>?_) ?_
    ·obtain⟨a1,a2⟩:=hcz c hc
     have m1:=RM.m9 p c.1
     have m2:=RM.m9 q c.2
     have m3:=RM.G8 (p*c.1) (q*c.2)
     walk_at "sim"
     exact⟨by omega,hQ⟩
    ·rw[show cs.map (fun z:Zr=>D.bl (decide (v<p*z.1+q*z.2)))=(cs.map fun z:Zr=>decide (v<p*z.1+q*z.2)).map D.bl by rw[Ms];rfl]
     walk_at "sim"
     have no:(cs.map fun z:Zr=>decide (v<p*z.1+q*z.2)).any id=false:=by
      rw[PF]
      intro x hx
      obtain⟨c,hc,rfl⟩:=Lv.mp hx
      have hs:=((co.mem c).mp hc).sup
      have:=f3 c.1 c.2 ((L3 ls c).mp hs)
      show ¬ decide _=true
      rw[decide_eq_true_eq]
      grind
     rw[no]
     exact k
theorem fZ(T:Txt K mg)(d:Df K mg "_law_asked" P9 ["pool","lines"])(IC:Fn P w K mg base "_law_sum" 2 ["one","other"] L9)(Iy:Fn P w K mg base "_law_next" 1 ["pool","base"] G9)(Iz:Fn P w K mg base "_law_taken" 2 ["one","other"] D2)(IA:Fn P w K mg base "_law_low" 1 ["top","bottom"] D9)(IB:Fn P w K mg base "_law_number" 3 ["pool"] O1):Fn P w K mg base "_law_asked" 4 ["pool","lines"] vD:=by
 have sc:=fP
 walk_at "fn"
 obtain⟨p,ls,rfl,⟨hp,hls⟩,k⟩:=h
 have h12:=hls.1
 refine⟨_,(d7 (W3 (i:=2) (j:=3) rfl sc.nd rfl rfl (by decide) rfl rfl (a9 (jc IB hr (a9 (d4 0) d5)) (a9 (jc IB hr (a9 (d4 0) d5)) d5))) (d7 (jst 4 sc.nd (jc Iy hr (a9 (d4 0) (a9 d6 d5)))) (d7 (i0 (jtm D7 (d4 4) d6) (d8 (d9 (f9 (a9 (f9 (a9 d6 (a9 d6 d5))) (a9 (f9 (a9 d6 (a9 d6 d5))) d5))))) g6) (d7 (i0 (L6 (gZ (jtm (mF hu) (d4 1) (C5 d5)) (fc (jtm aM (d4 4) d6)))) (d8 (d9 (f9 (a9 (d4 2) (a9 (d4 3) d5))))) g6) (d7 (jst 5 sc.nd (jx (d4 1) (jc Iy hr (a9 (d4 0) (a9 (p8 U8 rfl T.b_len K9 (a9 (d4 1) d5)) d5))))) (d7 (i0 (jtm aM (d4 4) d6) (d7 (jst 6 sc.nd (jc IA hr (a9 (e8 B1 d6 (jc Iy hr (a9 (d4 0) (a9 d6 d5)))) (a9 (jx (C5 (a9 d6 (a9 d6 (a9 (U4 d6) d5)))) (jc Iy hr (a9 (d4 0) (a9 d6 d5)))) d5)))) (d8 (d9 (f9 (a9 (jc Iz hr (a9 (d4 6) (a9 (jx (d4 5) d6) d5))) (a9 (jc Iz hr (a9 (d4 6) (a9 (jx (d4 5) d6) d5))) d5)))))) g6) (d7 (jst 7 sc.nd (jx (d4 1) (jc Iy hr (a9 (d4 0) (a9 (p8 U8 rfl T.b_len K9 (a9 (d4 1) d5)) d5))))) (d8 (d9 (f9 (a9 (jc IC hr (a9 (jx (d4 5) d6) (a9 (jx (d4 7) d6) d5))) (a9 (jc IC hr (a9 (jx (d4 5) d6) (a9 (jx (d4 7) d6) d5))) d5)))))))))))),?_⟩
 walk_at "sim"
 rw[Lr]
 refine⟨hp,fun a M1 ha s1=>⟨s1.pool,fun b M2 hb s2=>⟨s2.pool,by decide,fun r M3 r0 r8 s3=>⟨fun _=>?_,fun _=>⟨?_,fun _=>?_,fun hne=>⟨fun _=>?_,fun _=>⟨s3.pool,?_,?_,fun t M4 t0 t1 s4=>?_⟩⟩⟩⟩⟩⟩⟩
 ·exact k 0 0 M3 (by rw[RM.ak];decide) (by rw[RM.ak];decide) (s1.trans (s2.trans s3))
 ·exact km fun x hx=>by
   obtain⟨z,hz,rfl⟩:=Lv.mp hx
   rfl
 ·exact k a b M3 (by omega) (by omega) (s1.trans (s2.trans s3))
 ·exact k a b M3 (by omega) (by omega) (s1.trans (s2.trans s3))
 ·have:ls≠[]:=fun z=>hne (by rw[z];rfl)
  have:=MG.mpr this
  omega
 ·exact LO (NU _) (by omega)
 ·refine Q6 t0 (by rw[Lr];exact t1) fun d hd=>?_
  obtain⟨l,hl,rfl⟩:=Lv.mp hd
  have ok:=hls.2 l hl
  have z1:=ok.p6
  have z2:=ok.q6
  have st4:=s1.trans (s2.trans (s3.trans s4))
  refine⟨fun _=>⟨s4.pool,by decide,fun c M5 c0 c5 s5=>⟨s5.pool,by decide,fun e M6 e0 e3 s6=>?_⟩⟩,fun _=>?_⟩
  ·refine Q6 e0 (by show e<3;exact e3) fun d hd=>?_
   obtain⟨f,rfl,f0,f1⟩:∃ f:Int,d = .int f∧f≠0∧f.natAbs≤2:=by
    simp only[Lz,LU,or_false]at hd
    rcases hd with rfl|rfl|rfl
    ·exact⟨1,rfl,by decide,by decide⟩
    ·exact⟨2,rfl,by decide,by decide⟩
    ·exact⟨-1,rfl,by decide,by decide⟩
   walk_at "sim"
   have sm:sz (Mf (1+c) f)≤4:=N8 (by decide) (by omega) (by omega) f0
   have m1:=RM.m9 (Mf (1+c) f) l.1
   have m2:=RM.m9 (Mf (1+c) f) l.2.1
   refine⟨f0,LO (NU _) (by omega),by omega,by omega,?_⟩
   exact k _ _ M6 (by omega) (by omega) (st4.trans (s5.trans s6))
  ·refine⟨s4.pool,?_,?_,fun v M5 v0 v1 s5=>?_⟩
   ·have:ls≠[]:=fun z=>by rw[z]at hl;cases hl
    have:=MG.mpr this
    omega
   ·exact LO (NU _) (by omega)
   ·refine Q6 v0 (by rw[Lr];exact v1) fun d hd=>?_
    obtain⟨m,hm,rfl⟩:=Lv.mp hd
    have ok2:=hls.2 m hm
    have y1:=ok2.p6
    have y2:=ok2.q6
    have m1:=RM.G8 l.1 m.1
    have m2:=RM.G8 l.2.1 m.2.1
    walk_at "sim"
    exact⟨by omega,by omega,k _ _ M5 (by omega) (by omega) (st4.trans s5)⟩
theorem jK(T:Txt K mg)(d:Df K mg "_law_line" S8 ["pool"])(IA:Fn P w K mg base "_law_low" 1 ["top","bottom"] D9)(Iy:Fn P w K mg base "_law_next" 1 ["pool","base"] G9)(IB:Fn P w K mg base "_law_number" 3 ["pool"] O1):Fn P w K mg base "_law_line" 4 ["pool"] nZ:=by
 have sc:=iU
 walk_at "fn"
 obtain⟨p,rfl,hp,k⟩:=h
 refine⟨_,(d7 (jst 1 sc.nd (jc IB hr (a9 (d4 0) d5))) (d7 (jst 2 sc.nd (jc IB hr (a9 (d4 0) d5))) (d7 (i0 (L6 (Q5 (jtm D7 (jx (d4 1) d6) d6) (J6 (jtm D7 (jx (d4 2) d6) d6)))) (d8 (jst 1 sc.nd (f9 (a9 (e8 B1 d6 (jc Iy hr (a9 (d4 0) (a9 d6 d5)))) (a9 d6 d5))))) g6) (d8 (d9 (f9 (a9 (d4 1) (a9 (d4 2) (a9 (jc IA hr (a9 (e8 B1 d6 (jc Iy hr (a9 (d4 0) (a9 d6 d5)))) (a9 (jx (C5 (a9 d6 (a9 d6 (a9 d6 (a9 d6 d5))))) (jc Iy hr (a9 (d4 0) (a9 d6 d5)))) d5))) d5))))))))),?_⟩
 walk_at "sim"
 have lg:∀{b:Int},b.natAbs<2 ^ 41→b.natAbs.log2<9000:=fun{b} hb=>K8 (Lw hb (LX (by decide) (by decide))) (by decide)
 have fin:∀(a b:Rat) (M1:Mem),sz a≤41→sz b≤41→¬ (a=0∧b=0)→j9 p M M1→A1 M1 p∧(Qr 12).log2<9000∧∀(r:Int) (M2:Mem),0≤r→r<12→j9 p M1 M2→A1 M2 p∧(Qr 4).log2<9000∧∀(t:Int) (M3:Mem),0≤t→t<4→j9 p M2 M3→gIx (D.vl [D.int 1,D.int 1,D.int 2,D.int 5]) (D.int t) M3 fun x M1=>D9 [D.int (1+r),x] M1 (fun x M1=>R (D.tup [f6 a,f6 b,x]) M1) Y0:=fun a b M1 ha hb hn s1=>by
  refine⟨s1.pool,by decide,fun r M2 r0 r1 s2=>⟨s2.pool,by decide,fun t M3 t0 t1 s3=>Q6 t0 (by show t<4;omega) fun d hd=>?_⟩⟩
  have hd':∃ b:Int,d = .int b∧0<b∧b≤5:=by
   simp only[Lz,LU,or_false]at hd
   rcases hd with rfl|rfl|rfl|rfl
   ·exact⟨1,rfl,by decide,by decide⟩
   ·exact⟨1,rfl,by decide,by decide⟩
   ·exact⟨2,rfl,by decide,by decide⟩
   ·exact⟨5,rfl,by decide,by decide⟩
  obtain⟨c,rfl,c0,c1⟩:=hd'
  walk_at "sim"
  exact⟨by omega,lg (by omega),k (a,b,Mf (1+r) c) _ ⟨⟨ha,hb,N8 (by decide) (by omega) (by omega) (by omega)⟩,hn⟩ (mP (by omega) c0) (s1.trans (s2.trans s3))⟩
 refine⟨hp,fun a M1 ha s1=>⟨s1.pool,fun b M2 hb s2=>⟨fun h1=>⟨fun h2=>⟨s2.pool,by decide,fun r M3 r0 r1 s3=>?_⟩,fun h2=>fin a b M2 ha hb (fun z=>h2 (by rw[z.2];rfl)) (s1.trans s2)⟩,fun h1=>fin a b M2 ha hb (fun z=>h1 (by rw[z.1];rfl)) (s1.trans s2)⟩⟩⟩
 have e:D.tup [.int (1+r),.int 1]=f6 ((1+r:Int):Rat):=(vH _).symm
 rw[e]
 exact fin _ b M3 (CO (by decide) (by omega)) hb (fun z=>by have h:=z.1;rw[Rat.intCast_eq_zero_iff]at h;omega) (s1.trans (s2.trans s3))
theorem fV(T:Txt K mg)(d:Df K mg "_law_lines" P6 ["pool","most_lines"])(Iy:Fn P w K mg base "_law_next" 1 ["pool","base"] G9)(IC:Fn P w K mg base "_law_sum" 2 ["one","other"] L9)(Iz:Fn P w K mg base "_law_taken" 2 ["one","other"] D2)(IA:Fn P w K mg base "_law_low" 1 ["top","bottom"] D9)(Jx:Fn P w K mg base "_law_line" 4 ["pool"] nZ):Fn P w K mg base "_law_lines" 5 ["pool","most_lines"] jl:=by
 have sc:=fM
 walk_at "fn"
 obtain⟨p,rfl,hp,k⟩:=h
 have lg:∀{b:Int},b.natAbs<2 ^ 41→b.natAbs.log2<9000:=fun{b} hb=>K8 (Lw hb (LX (by decide) (by decide))) (by decide)
 refine⟨_,(d7 (jst 2 sc.nd (fe d5)) (d7 (t8 PassesOwn.never rfl (W2 rfl T.b_range (a9 (jc Iy hr (a9 (d4 0) (a9 (e8 B1 (d4 1) d6) d5))) d5)) (jn 3 sc.nd) (d7 (jst 4 sc.nd (jc Jx hr (a9 (d4 0) d5))) (d7 (jst 5 sc.nd (jc Iy hr (a9 (d4 0) (a9 d6 d5)))) (W4 (i0 (L6 (Q5 (jtm eU (d4 3) d6) (J6 (jtm aM (d4 5) d6)))) (d7 (jst 6 sc.nd (jx (d4 2) (jc Iy hr (a9 (d4 0) (a9 (d4 3) d5))))) (d7 (jst 7 sc.nd (jx (C5 (a9 (f9 (a9 d6 (a9 d6 d5))) (a9 (jc IA hr (a9 (e8 F5 (jc Iy hr (a9 (d4 0) (a9 d6 d5))) d6) (a9 (e8 B1 d6 (jc Iy hr (a9 (d4 0) (a9 d6 d5)))) d5))) d5))) (d4 5))) (W4 (i0 (jtm D7 (jx (d4 7) d6) d6) (d8 (jst 7 sc.nd (f9 (a9 d6 (a9 d6 d5))))) g6) (d8 (jst 4 sc.nd (f9 (a9 (jc Iz hr (a9 (d4 7) (a9 (jx (d4 6) d6) d5))) (a9 (jc Iz hr (a9 (d4 7) (a9 (jx (d4 6) d6) d5))) (a9 (jx (C5 (a9 (jx (d4 6) d6) (a9 (jx (d4 4) d6) d5))) (jc Iy hr (a9 (d4 0) (a9 d6 d5)))) d5))))))))) g6) (W4 (i0 (L6 (Q5 (jtm eU (d4 3) d6) (J6 (jtm D7 (d4 5) d6)))) (d7 (W3 (i:=8) (j:=9) rfl sc.nd rfl rfl (by decide) rfl rfl (a9 (jx (d4 2) (e8 F5 (d4 3) d6)) (a9 (jx (d4 2) (e8 F5 (d4 3) d6)) d5))) (d7 (jst 4 sc.nd (f9 (a9 (jc IC hr (a9 (jx (d4 8) d6) (a9 (jx (d4 9) d6) d5))) (a9 (jc IC hr (a9 (jx (d4 8) d6) (a9 (jx (d4 9) d6) d5))) (a9 (jc IC hr (a9 (jx (d4 8) d6) (a9 (jx (d4 9) d6) d5))) d5))))) (d8 (i0 (L6 (Q5 (jtm D7 (jx (jx (d4 4) d6) d6) d6) (J6 (jtm D7 (jx (jx (d4 4) d6) d6) d6)))) (d8 (jst 4 sc.nd (d4 8))) g6)))) g6) (d8 (U0 (mL PySem.F.slot_list_append PySem.F.type_list_append O8 (d4 2) (a9 (d4 4) d5))))))))) (d8 (d9 (bD (bC (d4 2))))))),?_⟩
 walk_at "sim"
 intro l hl
 have hlp:l≠p:=hp.ne hl
 have st0:j9 p M (B9 M l (.lst [])):=j9.mk' hp (MK.new hl)
 refine⟨st0.pool,by omega,lg (by omega),fun t M1 t0 t1 s1=>⟨by omega,?_⟩⟩
 refine R6.by (fun i e M'=>∃(ls:List (Rat × Rat × Rat)) (x3 x4 x5 x6 x7 x8 x9:Option D),e=[some (.ref p),some (.int 3),some (.ref l),x3,x4,x5,x6,x7,x8,x9]∧ls.length=i∧CP i ls∧M' l=some (.lst (ls.map f8))∧j9 p M M')
  ⟨[],_,_,_,_,_,_,_,rfl,rfl,CP.nil,s1.keep l _ hlp h8,st0.trans s1⟩ (fun _ _ _ _ _=>trivial) ?_ ?_
 ·rintro i dd e M2 hd ⟨ls,x3,x4,x5,x6,x7,x8,x9,rfl,hll,hc,hm,st⟩
  obtain⟨hi,rfl⟩:=W0 hd
  have ok:=hc.cols.ok (by omega)
  have hlen:(ls.map f8).length=i:=by rw[Lr];exact hll
  rw[OV]
  walk_at "sim"
  refine⟨st.pool,fun l0 M3 hl0 lp0 s3=>⟨s3.pool,by decide,fun pick M4 p0 p1 s4=>?_⟩⟩
  have st4:=st.trans (s3.trans s4)
  have hm4:=(s3.trans s4).keep l _ hlp hm
  refine kG (fun e' M'=>∃(ln:Rat × Rat × Rat) (x6 x7:Option D),e'=[some (.ref p),some (.int 3),some (.ref l),some (.int (i:Nat)),some (f8 ln),some (.int pick),x6,x7,x8,x9]∧CP (i+1) (ls++[ln])∧M' l=some (.lst (ls.map f8))∧j9 p M M') ?_ ?_
  ·have fin0:∃(ln:Rat × Rat × Rat) (y6 y7:Option D),[some (.ref p),some (.int 3),some (.ref l),some (.int (i:Int)),some (f8 l0),some (.int pick),x6,x7,x8,x9]=[some (.ref p),some (.int 3),some (.ref l),some (.int (i:Int)),some (f8 ln),some (.int pick),y6,y7,x8,x9]∧CP (i+1) (ls++[ln])∧M4 l=some (.lst (ls.map f8))∧j9 p M M4:=⟨l0,_,_,rfl,hc.app (hc.cols.new hl0) lp0,hm4,st4⟩
   walk_at "sim"
   refine⟨fun h0=>⟨fun h1=>⟨st4.pool,by omega,lg (by omega),fun r M5 r0 r1 s5=>?_⟩,fun h1=>fin0⟩,fun h0=>fin0⟩
   have hm5:=s5.keep l _ hlp hm4
   refine fi hm5 r0 (by rw[hlen];exact r1) fun d hd=>?_
   obtain⟨a,ha,rfl⟩:=Lv.mp hd
   refine⟨s5.pool,by decide,fun v M6 v0 v1 s6=>⟨s6.pool,by decide,fun u M7 u0 u1 s7=>⟨by omega,lg (by omega),Q6 p0 (by show pick<2;exact h1) fun w hw=>?_⟩⟩⟩
   obtain⟨w0,rfl,hw0⟩:∃ w0:Rat,w=f6 w0∧(w0≠0→ft w0):=by
    simp only[Lz,LU,or_false]at hw
    rcases hw with rfl|rfl
    ·exact⟨1,rfl,fun _=>small_one⟩
    ·exact⟨_,rfl,fun h=>iH (by omega) (by omega) (by omega) h⟩
   have s57:=s5.trans (s6.trans s7)
   have hm7:=s57.keep l _ hlp hm4
   refine kG (fun e' M'=>M'=M7∧∃ w1:Rat,e'=[some (.ref p),some (.int 3),some (.ref l),some (.int (i:Int)),some (f8 l0),some (.int pick),some (f8 a),some (f6 w1),x8,x9]∧ft w1) ?_ ?_
   ·walk_at "sim"
    exact⟨fun _=>⟨1,rfl,small_one⟩,fun z=>⟨w0,rfl,hw0 fun y=>z (by rw[y];rfl)⟩⟩
   ·rintro e' M8 ⟨rfl,w1,rfl,hw1⟩
    have z1:=hw1.sz
    have oa:=ok a ha
    have o1:=oa.p
    have o2:=oa.q
    walk_at "sim"
    refine⟨by omega,by omega,s7.pool,by decide,fun c M9 c0 c1 s9=>?_⟩
    have st9:=st4.trans (s57.trans s9)
    have hm9:=s9.keep l _ hlp hm7
    refine Q6 c0 (by show c<2;exact c1) fun x hx=>?_
    simp only[Lz,LU,or_false]at hx
    rcases hx with rfl|rfl
    ·exact⟨(w1*a.1,w1*a.2.1,a.2.2),_,_,rfl,hc.app (hc.cols.taken ha hw1 (.inl rfl)) (hc.pos a ha),hm9,st9⟩
    ·exact⟨(w1*a.1,w1*a.2.1,l0.2.2),_,_,rfl,hc.app (hc.cols.taken ha hw1 (.inr hl0.r)) lp0,hm9,st9⟩
  ·rintro e' M5 ⟨ln,x6,x7,rfl,hc5,hm5,st5⟩
   walk_at "sim"
   refine kG (fun e' M'=>M'=M5∧∃(ln:Rat × Rat × Rat) (y8 y9:Option D),e'=[some (.ref p),some (.int 3),some (.ref l),some (.int (i:Int)),some (f8 ln),some (.int pick),x6,x7,y8,y9]∧CP (i+1) (ls++[ln])) ?_ ?_
   ·walk_at "sim"
    refine⟨fun h0=>⟨fun h1=>?_,fun _=>⟨_,_,_,rfl,hc5⟩⟩,fun _=>⟨_,_,_,rfl,hc5⟩⟩
    refine fi hm5 (by omega) (by rw[hlen];omega) fun d hd=>?_
    obtain⟨a,ha,rfl⟩:=Lv.mp hd
    refine fi hm5 (by omega) (by rw[hlen];omega) fun d hd=>?_
    obtain⟨b,hb,rfl⟩:=Lv.mp hd
    walk_at "sim"
    have oa:=ok a ha
    have ob:=ok b hb
    have o1:=oa.p
    have o2:=oa.q
    have o3:=oa.r
    have o4:=ob.p
    have o5:=ob.q
    have o6:=ob.r
    have go:¬ ((a.1+b.1).num=0∧(a.2.1+b.2.1).num=0)→CP (i+1) (ls++[(a.1+b.1,a.2.1+b.2.1,a.2.2+b.2.2)]):=fun z=>hc.app (hc.cols.sum ha hb fun y=>z ⟨MR.mpr y.1,MR.mpr y.2⟩) (show 0<a.2.2+b.2.2 by have:=hc.pos a ha;have:=hc.pos b hb;grind)
    exact⟨by omega,by omega,by omega,fun h2=>⟨fun h3=>⟨_,_,_,rfl,hc.app (hc.cols.again ha) (hc.pos a ha)⟩,fun h3=>⟨_,_,_,rfl,go fun z=>h3 z.2⟩⟩,fun h2=>⟨_,_,_,rfl,go fun z=>h2 z.1⟩⟩
   ·rintro e' M6 ⟨rfl,ln,y8,y9,rfl,hc6⟩
    walk_at "sim"
    refine fu hm5 (fE hm5 (by rw[hlen];omega) ⟨ls++[ln],_,_,_,_,_,_,_,rfl,by simp[hll],hc6,by rw[h8];simp,st5.put hl hlp⟩)
 ·rw[A0]
  rintro e M2 ⟨ls,x3,x4,x5,x6,x7,x8,x9,rfl,hll,hc,hm,st⟩
  walk_at "sim"
  rw[dP hm]
  walk_at "sim"
  have hll3:ls.length≤3:=by omega
  exact⟨_,fun _ _ h=>h,k ls _ hll3 (hc.l28 (by omega)) (st.del hl hlp)⟩
theorem eO(T:Txt K mg)(d:Df K mg "led_by_part" N4 ["part","ray"])(JC:Fn P w K mg base "minus" 4 ["one","other"] L4)(IG:Fn P w K mg base "times" 3 ["one","other"] D2)(Ji:Fn P w K mg base "plus" 3 ["one","other"] L9):Fn P w K mg base "led_by_part" 5 ["part","ray"] vw:=by
 have sc:=dZ
 walk_at "fn"
 obtain⟨x,y,u,rfl,hz,k⟩:=h
 refine⟨_,(d7 (v8 (d4 0) (p9 (n:=2) rfl (e9 (jn 2 sc.nd) (e9 (jn 3 sc.nd) j0)))) (d7 (v8 (d4 1) (p9 (n:=2) rfl (e9 (jn 4 sc.nd) (e9 (jn 5 sc.nd) j0)))) (d7 (i0 (jtm gT (d4 2) A8) (d8 (d9 (f9 (a9 (jc Ji hr (a9 (d4 4) (a9 (jc IG hr (a9 (d4 3) (a9 (d4 5) d5))) d5))) (a9 (d4 5) d5))))) g6) (d7 (i0 (jtm gT (d4 2) A8) (d8 (d9 (f9 (a9 (d4 4) (a9 (jc JC hr (a9 (d4 5) (a9 (jc IG hr (a9 (d4 3) (a9 (d4 4) d5))) d5))) d5))))) g6) (d8 (d9 (d4 1))))))),?_⟩
 walk_at "sim"
 unfold O5 at k
 refine⟨fun h1=>?_,fun h1=>⟨fun h2=>?_,fun h2=>?_⟩⟩
 ·rw[if_pos h1]at k;exact⟨by omega,by walk_at "size",k⟩
 ·rw[if_neg h1,if_pos h2]at k;exact⟨by omega,by walk_at "size",k⟩
 ·rw[if_neg h1,if_neg h2]at k;exact k
theorem mw(T:Txt K mg)(d:Df K mg "lines_of" Y4 ["bench"])(IS:Fn P w K mg base "led_by_part" 5 ["part","ray"] vw):Fn P w K mg base "lines_of" 6 ["bench"] aB:=by
 have sc:=lO
 walk_at "fn"
 obtain⟨x0,bs,rfl,hx0,⟨hl,hok⟩,k⟩:=h
 rcases hx0 with rfl|rfl
 all_goals
  refine⟨_,(d7 (jst 1 sc.nd (fe d5)) (d7 (jst 2 sc.nd (E7 rfl T.c_LEVEL_RAY)) (d7 (jst 3 sc.nd (E7 rfl T.c_AXIS_RAY)) (d7 (t8 PassesOwn.never rfl (y4 (d4 0)) (jn 4 sc.nd) (W4 (i0 (jtm gT (jx (d4 4) d6) A8) (d8 (U0 (mL PySem.F.slot_list_append PySem.F.type_list_append O8 (d4 1) (a9 (f9 (a9 (jx (d4 2) d6) (a9 (jx (d4 3) d6) (a9 (jx (d4 4) d6) d5)))) d5)))) g6) (d7 (jst 2 sc.nd (jc IS hr (a9 (d4 4) (a9 (d4 2) d5)))) (d8 (jst 3 sc.nd (jc IS hr (a9 (d4 4) (a9 (d4 3) d5)))))))) (d8 (d9 (bD (bC (d4 1))))))))),?_⟩
  walk_at "sim"
  intro p hp
  refine R6.by (fun i e M'=>(∃ y0 z:Option D,e=[y0,some (.ref p),some (v6 (v9 (bs.take i) (1,0)).1 (v9 (bs.take i) (1,0)).2),some (v6 (v9 (bs.take i) (0,1)).1 (v9 (bs.take i) (0,1)).2),z])∧M'=B9 M p (.lst ((J4 bs i).map f8))) ⟨⟨_,_,rfl⟩,rfl⟩ (fun i e M' _ _=>by simp only[i9,u7]) ?_ ?_
  ·rintro i dd e M' hd ⟨⟨y0,z,rfl⟩,rfl⟩
   obtain⟨pt,hpt,rfl⟩:=rY hd
   have hm:=LK hpt
   have t1:=(lG Im hok i).t2
   have t2:=(lG Io hok i).t2
   have a1:=t1.y
   have a2:=t1.u
   have b1:=t2.y
   have b2:=t2.u
   have q2:=(hok pt hm).sz
   have o1:=mi hpt (1,0)
   have o2:=mi hpt (0,1)
   have hll:=eX bs i
   have hi:=(LP.mp hpt).1
   walk_at "sim"
   refine kG (fun e' M'=>e'=[y0,some (.ref p),some (v6 (v9 (bs.take i) (1,0)).1 (v9 (bs.take i) (1,0)).2),some (v6 (v9 (bs.take i) (0,1)).1 (v9 (bs.take i) (0,1)).2),some (A3 pt)]∧M'=B9 M p (.lst ((J4 bs (i+1)).map f8))) ?_ ?_
   ·walk_at "sim"
    refine⟨fun h1=>fu h8 (fE h8 (by rw[Lr];omega) ?_),fun h1=>?_⟩
    ·rw[R8,sA hpt h1,LH];rfl
    ·rw[wx hpt h1]
   ·rintro e' M' ⟨rfl,rfl⟩
    walk_at "sim"
    refine⟨by omega,by omega,⟨y0,some (A3 pt),?_⟩⟩
    rw[o1,o2]
  ·rintro e M' ⟨⟨y0,z,rfl⟩,rfl⟩
   walk_at "sim"
   rw[dP h8,U6 hp]
   walk_at "sim"
   rw[Lr]
   exact⟨_,fun _ _ h=>h,k⟩
theorem jM(T:Txt K mg)(d:Df K mg "_law_bare" T0 ["one"]):Fn P w K mg base "_law_bare" 1 ["one"] lI:=by
 have sc:=iW
 walk_at "fn"
 obtain⟨q,rfl,k⟩:=h
 refine⟨_,(d8 (d9 (f9 (a9 (p8 fm rfl T.b_abs af (a9 (jx (d4 0) d6) d5)) (a9 (jx (d4 0) d6) d5))))),?_⟩
 walk_at "sim"
 exact k
theorem jI(T:Txt K mg)(d:Df K mg "_law_part" S6 ["pool"])(IA:Fn P w K mg base "_law_low" 1 ["top","bottom"] D9)(Iy:Fn P w K mg base "_law_next" 1 ["pool","base"] G9)(IB:Fn P w K mg base "_law_number" 3 ["pool"] O1)(Jy:Fn P w K mg base "_law_bare" 1 ["one"] lI):Fn P w K mg base "_law_part" 4 ["pool"] jh:=by
 have sc:=iS
 walk_at "fn"
 obtain⟨p,rfl,hp,k⟩:=h
 refine⟨_,(d7 (jst 1 sc.nd (jc Iy hr (a9 (d4 0) (a9 d6 d5)))) (d7 (i0 (jtm D7 (d4 1) d6) (d8 (d9 (f9 (a9 A8 (a9 (jc Jy hr (a9 (jc IB hr (a9 (d4 0) d5)) d5)) d5))))) g6) (d7 (i0 (jtm D7 (d4 1) d6) (d8 (d9 (f9 (a9 A8 (a9 (jc IB hr (a9 (d4 0) d5)) d5))))) g6) (d8 (d9 (f9 (a9 A8 (a9 (jc IA hr (a9 (e8 B1 d6 (jc Iy hr (a9 (d4 0) (a9 d6 d5)))) (a9 (e8 B1 d6 (jc Iy hr (a9 (d4 0) (a9 d6 d5)))) d5))) d5)))))))),?_⟩
 walk_at "sim"
 refine⟨hp,by decide,fun r M1 r0 r3 s1=>⟨fun _=>⟨s1.pool,fun q M2 hq s2=>k ("gap",j8 q) M2 ⟨.inl ⟨rfl,AE q⟩,by show sz (j8 q)≤41;rw[dR];exact hq⟩ (s1.trans s2)⟩,fun _=>⟨fun _=>⟨s1.pool,fun q M2 hq s2=>k ("glass",q) M2 ⟨.inr (.inl rfl),hq⟩ (s1.trans s2)⟩,fun _=>⟨s1.pool,by decide,fun a M2 a0 a1 s2=>⟨s2.pool,by decide,fun b M3 b0 b1 s3=>⟨by omega,LO (NU _) (by omega),k ("stop",Mf (1+a) (1+b)) M3 ⟨.inr (.inr ⟨rfl,mP (by omega) (by omega)⟩),N8 (by decide) (by omega) (by omega) (by omega)⟩ (s1.trans (s2.trans s3))⟩⟩⟩⟩⟩⟩
theorem jH(T:Txt K mg)(d:Df K mg "_law_pool" S5 ["cell"]):Fn P w K mg base "_law_pool" 1 ["cell"] nF:=by
 have sc:=iR
 refine h7 d sc (fun ds M R Y h=>?_) (fun f cdv A outer s H E ds M R Y hr h=>?_)
 ·obtain⟨c,rfl,_⟩:=h;rfl
 ·obtain⟨c,rfl,k⟩:=h
  refine⟨_,(d8 (d9 (fe (a9 (p8 (Ck rfl) rfl T.b_max xx (a9 d6 (a9 (e8 F5 (d4 0) (e8 qB d6 d6)) d5))) (a9 (e8 R4 (d4 0) (e8 qB d6 d6)) (a9 d6 d5)))))),?_⟩
  refine⟨_,rfl,_,_,rfl,rfl,He,_,rfl,_,_,rfl,_,rfl,_,_,rfl,rfl,He,_,_,rfl,rfl,(by show(0:Int)<10 ^ 18;decide),sl 3,fun p hp=>?_⟩
  exact k p _ hp (MK.new hp) ⟨_,_,_,h8⟩
theorem DQ{f:Addr}{fd:FuncData}(T:Txt K mg)(d:AJ K "law" vm f fd)(Jn:Fn P w K mg base "_law_cells" 1 ["script","bound"] ju)(IL:Fn P w K mg base "_law_idle_right" 9 ["lines","rays","k"] vB)(JM:Fn P w K mg base "_law_ray" 4 ["pool"] uW)(JL:Fn P w K mg base "lets" 3 ["lines","ray"] bu)(Je:Fn P w K mg base "_law_inside" 5 ["rays","ray"] CZ)(IM:Fn P w K mg base "_law_most_right" 8 ["lines","rays","p","q"] vq)(Jo:Fn P w K mg base "_law_asked" 4 ["pool","lines"] vD)(IX:Fn P w K mg base "corners" 5 ["lines"] lW)(Jp:Fn P w K mg base "_law_lines" 5 ["pool","most_lines"] jl)(JN:Fn P w K mg base "lines_of" 6 ["bench"] aB)(Iy:Fn P w K mg base "_law_next" 1 ["pool","base"] G9)(Jz:Fn P w K mg base "_law_part" 4 ["pool"] jh)(JB:Fn P w K mg base "_law_pool" 1 ["cell"] nF):R7 P w K mg base CX0 10 f fd ["script"] (lE K qo):=by
 have sc:=CT
 refine BN d sc (fun ds M R Y h=>by obtain⟨n,rfl,_⟩:=h;rfl) (fun cdv A outer s H E ds M R Y hr h=>?_)
 obtain⟨ns,rfl,hlen,k⟩:=h
 have hu:=hr.units
 refine⟨_,(d7 (t8 PassesOwn.never rfl (y4 (jc Jn hr (a9 (d4 0) (a9 d6 d5)))) (jn 1 sc.nd) (d7 (jst 2 sc.nd (jc JB hr (a9 (d4 1) d5))) (d7 (J5 (i:=3) [2] ["k"] ["pool"] sc.nd rfl (Or.inl rfl) rfl (by decide +kernel) rfl (by decide +kernel) (by decide +kernel) rfl (aY ⟨rfl,rfl⟩) (aY (Or.inl rfl)) (W2 rfl T.b_range (a9 (jc Iy hr (a9 (d4 2) (a9 d6 d5))) d5)) (fun _ _ _ _ _ _=>(jn 0 (show(["k","pool"]:List Str).Nodup by decide +kernel))) (fun _ _ _ _ _ _=>A5) (fun _ _ _ _ _ _=>(jc Jz hr (a9 (d4 1) d5)))) (d7 (jst 4 sc.nd (C4 (L7 (jc Jp hr (a9 (d4 2) (a9 d6 d5))) (jc JN hr (a9 (d4 3) d5))) B6 (B5 d6))) (d7 (jst 5 sc.nd (jc IX hr (a9 (d4 4) d5))) (d7 (t8 PassesOwn.never rfl (W2 rfl T.b_range (a9 d6 d5)) (jn 6 sc.nd) (d7 (v8 (jc Jo hr (a9 (d4 2) (a9 (d4 4) d5))) (p9 (n:=2) rfl (e9 (jn 7 sc.nd) (e9 (jn 8 sc.nd) j0)))) (d8 (i0 (jV (Q4 (jc IM hr (a9 (d4 4) (a9 (d4 5) (a9 (d4 7) (a9 (d4 8) d5))))))) (d8 (d9 bU)) g6)))) (d7 (t8 PassesOwn.never rfl (y4 (C5 (a9 (jc JM hr (a9 (d4 2) d5)) (a9 (f9 (a9 (f9 (a9 d6 (a9 d6 d5))) (a9 (f9 (a9 d6 (a9 d6 d5))) d5))) (a9 (f9 (a9 (f9 (a9 d6 (a9 d6 d5))) (a9 (f9 (a9 (U4 d6) (a9 d6 d5))) d5))) d5))))) (jn 9 sc.nd) (d8 (i0 (L6 (Q5 (jtm qC (d4 5) Z8) (J6 (jtm Gg (jc JL hr (a9 (d4 4) (a9 (d4 9) d5))) (jc Je hr (a9 (d4 5) (a9 (d4 9) d5))))))) (d8 (d9 bU)) g6))) (d8 (t8 PassesOwn.never rfl (W2 rfl T.b_range (a9 (p8 (Cj rfl) rfl T.b_min xw (a9 d6 (a9 (p8 U8 rfl T.b_len K9 (a9 (d4 4) d5)) d5))) d5)) (jn 10 sc.nd) (d8 (i0 (jV (Q4 (jc IL hr (a9 (d4 4) (a9 (d4 5) (a9 (d4 10) d5)))))) (d8 (d9 bU)) g6))))))))))) (d8 (d9 bU))),?_⟩
 walk_at "sim"
 refine⟨ns,rfl,by omega,fun ms hml=>?_⟩
 refine R6.by (fun i e M'=>∃ x1 x2 x3 x4 x5 x6 x7 x8 x9 x10:Option D,e=[some (.vl (ns.map D.int)),x1,x2,x3,x4,x5,x6,x7,x8,x9,x10]) ⟨_,_,_,_,_,_,_,_,_,_,rfl⟩ (fun i e M' _ _=>by simp only[i9]) ?_ ?_
 ·rintro i dd e M' hd ⟨x1,x2,x3,x4,x5,x6,x7,x8,x9,x10,rfl⟩
  obtain⟨n,rfl⟩:∃ n:Int,dd = .int n:=by
   have hm:=LK hd
   obtain⟨n,_,rfl⟩:=Lv.mp hm
   exact⟨n,rfl⟩
  walk_at "sim"
  refine fun p M1 hp mk hP=>⟨hP,by decide,fun r M2 r0 r1 s2=>⟨by omega,?_⟩⟩
  refine oJ A3 F3 (j9 p) r.toNat (A0 _ _) (by omega) (fun _ _=>trivial) (j9.refl s2.pool) (fun d hd M3 s3 Q hQ=>?_) (fun bs M3 hbl hbo s3=>?_)
  ·walk_at "sim"
   exact⟨s3.pool,fun x M' hx s4=>hQ x M' hx (s3.trans s4)⟩
  refine⟨s3.pool,fun ls0 M4 hl0 ho0 s4=>?_⟩
  have hb10:bs.length≤12:=by omega
  walk_at "sim"
  have lnl:(J4 bs bs.length).length≤12:=LB (eX bs bs.length) hb10
  have ec:DL.R5 (MB f8 ls0++MB f8 (J4 bs bs.length)) none (some 4)=((ls0++J4 bs bs.length).take 4).map f8:=by
   rw[show(4:Int)=((4:Nat):Int)from rfl,bG,← LH,NH]
  have hls:K0 ((ls0++J4 bs bs.length).take 4):=by
   refine⟨LB (Pn _ _) (by decide),fun l hl=>?_⟩
   rcases LR.mp (Mv hl)with h|h
   ·exact ho0 l h
   ·exact L28.bench hb10 hbo l h
  refine⟨⟨hb10,hbo⟩,?_⟩
  rw[ec,A7 (by rw[Lr,Lr];omega)]
  have h4:((ls0++J4 bs bs.length).take 4).length≤4:=Pn _ _
  generalize (ls0++J4 bs bs.length).take 4=ls at *
  walk_at "sim"
  refine⟨hls.ok,by decide,?_⟩
  refine R6.by (fun i e M'=>j9 p M4 M'∧∃ z6 z7 z8 z9 z10:Option D,e=[some (D.vl (MB D.int ns)),some (D.int n),some (D.ref p),some (D.vl (MB A3 bs)),some (D.vl (MB f8 ls)),some (eM (G7 ls)),z6,z7,z8,z9,z10]) ⟨j9.refl s4.pool,_,_,_,_,_,rfl⟩ (fun _ _ _ _ _=>trivial) ?_ ?_
  ·rintro j dj e M5 hj ⟨s5,z6,z7,z8,z9,z10,rfl⟩
   walk_at "sim"
   refine⟨⟨s5.pool,hls⟩,fun a b M6 ha hb s6=>?_⟩
   walk_at "sim"
   exact⟨⟨hls,ha,hb⟩,s5.trans s6,_,_,_,_,_,rfl⟩
  ·rintro e M5 ⟨s5,z6,z7,z8,z9,z10,rfl⟩
   walk_at "sim"
   refine⟨s5.pool,fun y u M6 t2 s6=>?_⟩
   refine R6.by (fun i e M'=>∃ z6 z7 z8 z9 z10:Option D,e=[some (D.vl (MB D.int ns)),some (D.int n),some (D.ref p),some (D.vl (MB A3 bs)),some (D.vl (MB f8 ls)),some (eM (G7 ls)),z6,z7,z8,z9,z10]) ⟨_,_,_,_,_,rfl⟩ (fun _ _ _ _ _=>by simp only[i9]) ?_ ?_
   ·rintro j dj e M7 hj ⟨z6,z7,z8,z9,z10,rfl⟩
    obtain⟨a,b,ha,hb,rfl⟩:∃ a b:Rat,sz a≤41∧sz b≤41∧dj=v6 a b:=by
     have hm:=LK hj
     simp only[Lz,LU,or_false]at hm
     rcases hm with rfl|rfl|rfl
     ·exact⟨y,u,t2.y,t2.u,rfl⟩
     ·exact⟨rq 1 3,0,by decide,by decide,rfl⟩
     ·exact⟨0,rq (-1) 2,by decide,by decide,rfl⟩
    rcases fj hls.lo with⟨ec,_⟩|⟨cs,ec,_,co⟩
    ·rw[ec,show eM none=D.non from rfl]
     walk_at "sim"
     rw[lB (b:=true) rfl]
     walk_at "sim"
     exact⟨_,_,_,_,_,rfl⟩
    ·rw[ec,show eM (some cs)=D.vl (cs.map rD)from rfl]
     walk_at "sim"
     rw[lB (b:=false) rfl]
     walk_at "sim"
     have lsz:∀ m∈ls,LSz 600 m:=fun m hmm=>⟨by have:=(hls.2 m hmm).p6;omega,by have:=(hls.2 m hmm).q6;omega,by have:=(hls.2 m hmm).r6;omega⟩
     refine⟨⟨hls.1,lsz,by omega,by omega⟩,⟨⟨co.ne,rf hls ec,qZ hls co⟩,ha,hb⟩,r9 ls a b,Eu hls.lo ec a b,?_⟩
     rw[show(r9 ls a b == r9 ls a b)=true from beq_self_eq_true _]
     exact⟨fun z=>PX z,fun _=>⟨_,_,_,_,_,rfl⟩⟩
   ·rintro e M7 ⟨z6,z7,z8,z9,z10,rfl⟩
    walk_at "sim"
    have lm:((MB f8 ls).length:Int)=(ls.length:Int):=by rw[Lr]
    rw[lm]
    refine⟨by omega,?_⟩
    refine R6.by (fun i e M'=>∃ z6 z7 z8 z9 z10:Option D,e=[some (D.vl (MB D.int ns)),some (D.int n),some (D.ref p),some (D.vl (MB A3 bs)),some (D.vl (MB f8 ls)),some (eM (G7 ls)),z6,z7,z8,z9,z10]) ⟨_,_,_,_,_,rfl⟩ (fun _ _ _ _ _=>trivial) ?_ ?_
    ·rintro j dj e M8 hj ⟨z6,z7,z8,z9,z10,rfl⟩
     obtain⟨hj2,rfl⟩:=W0 hj
     rw[OV]
     walk_at "sim"
     exact⟨⟨hls,by omega⟩,_,_,_,_,_,rfl⟩
    ·rintro e M8 ⟨z6,z7,z8,z9,z10,rfl⟩
     exact⟨_,_,_,_,_,_,_,_,_,_,rfl⟩
 ·rintro e M' ⟨x1,x2,x3,x4,x5,x6,x7,x8,x9,x10,rfl⟩
  walk_at "sim"
  exact k _
end
end K28
namespace K28
open PySem PySem.Spec L2 DL GM
theorem EC{P:Program}{w:World}{K:Lo}{mg:Str→Option Value}{fa:Addr}(T:Txt K mg)(hfa:mg "law" = some (.ref fa))(Kf:Df K mg "_law_cells" P7 ["script","bound"])(KY:Df K mg "sum_by" eB ["p","q","ray"])(KS:Df K mg "lets_by" bj ["line","ray"])(Lg:Df K mg "lets" nS ["lines","ray"])(Lh:Df K mg "less" nT ["one","other"])(KA:Df K mg "is_lower" Y6 ["one","other"])(JZ:Df K mg "from_lowest" N5 ["rays"])(KC:Df K mg "opposite" Y3 ["one"])(KZ:Df K mg "facing" eD ["side"])(KU:Df K mg "divisor" bo ["one","other"])(KD:Df K mg "is_whole" Y5 ["thing"])(Lb:Df K mg "ratio" iZ ["top","bottom"])(KG:Df K mg "veer" eA ["one","other"])(La:Df K mg "met_at" eC ["one","other"])(Li:Df K mg "turn" nO ["one","other","third"])(Km:Df K mg "next_side" S2 ["sides","here"])(Kn:Df K mg "juts_more" S3 ["one","other"])(Ko:Df K mg "outermost" S0 ["sides"])(JX:Df K mg "tops_over" L5 ["ratios","bottom"])(Jq:Df K mg "common_bottom" D3 ["ratios"])(KH:Df K mg "sides_of" Y2 ["lines"])(KI:Df K mg "half_rim" Y7 ["lines"])(KW:Df K mg "corners" br ["lines"])(Lc:Df K mg "times" iY ["one","other"])(Ld:Df K mg "grown" jb ["ray","share"])(Lj:Df K mg "over" nQ ["one","other"])(KJ:Df K mg "value_of" X9 ["p","q","ray"])(Lk:Df K mg "plus" nP ["one","other"])(JY:Df K mg "sides_around" K3 ["half","wanted"])(Ka:Df K mg "most_around" N3 ["half","p","q"])(KN:Df K mg "unsigned" Y1 ["one"])(Le:Df K mg "minus" ja ["one","other"])(Lf:Df K mg "cross" jd ["one","other"])(Kg:Df K mg "most_along" P2 ["lines","number","p","q"])(Ll:Df K mg "most" nR ["lines","p","q"])(Kp:Df K mg "others_of" S1 ["lines","k"])(Lm:Df K mg "idle" nU ["lines","k"])(JP:Df K mg "_law_idle_right" E2 ["lines","rays","k"])(KO:Df K mg "_law_low" Z0 ["top","bottom"])(Kq:Df K mg "_law_next" S7 ["pool","base"])(Kr:Df K mg "_law_wide" S4 ["pool","base"])(Kb:Df K mg "_law_number" N6 ["pool"])(KP:Df K mg "_law_ray" Y9 ["pool"])(KQ:Df K mg "_law_sum" Y8 ["one","other"])(Ks:Df K mg "_law_back" T1 ["one"])(Kt:Df K mg "_law_less" S9 ["one","other"])(Kh:Df K mg "_law_taken" P5 ["one","other"])(JQ:Df K mg "_law_cross" J2 ["one","other"])(Kc:Df K mg "_law_inside" N7 ["rays","ray"])(Ki:Df K mg "_law_below" P8 ["one","other"])(Kj:Df K mg "_law_worth" P4 ["p","q","ray"])(JR:Df K mg "_law_most_right" E1 ["lines","rays","p","q"])(Kk:Df K mg "_law_asked" P9 ["pool","lines"])(Ku:Df K mg "_law_line" S8 ["pool"])(Kl:Df K mg "_law_lines" P6 ["pool","most_lines"])(Kd:Df K mg "led_by_part" N4 ["part","ray"])(KR:Df K mg "lines_of" Y4 ["bench"])(Kv:Df K mg "_law_bare" T0 ["one"])(Kw:Df K mg "_law_part" S6 ["pool"])(Kx:Df K mg "_law_pool" S5 ["cell"])(Ln:DfL K mg "law" vm ["script"]) :
  ∃ fd:FuncData,(∀(s:Shared) (u:Value),BindsTo s fd ⟨[u],[]⟩ [("script",u)])∧∀ base:Heap,R7 P w K mg base CX0 10 fa fd ["script"] (lE K qo):=by
 obtain⟨f,fd,F,hm,hb⟩:=Ln.ex
 have e:f=fa:=by rw[hm]at hfa;injection hfa with z;injection z
 subst e
 refine⟨fd,fun s u=>.of_eq (hb [u] rfl),fun base=>?_⟩
 have Jn:=fX (P:=P) (w:=w) (base:=base) T Kf
 have Jf:=si (P:=P) (w:=w) (base:=base) T KY
 have JU:=om (P:=P) (w:=w) (base:=base) T KS Jf
 have JL:=zS (P:=P) (w:=w) (base:=base) T Lg JU
 have JF:=zT (P:=P) (w:=w) (base:=base) T Lh
 have JH:=my (P:=P) (w:=w) (base:=base) T KA JF
 have Jc:=eP (P:=P) (w:=w) (base:=base) T JZ JH
 have IF:=mv (P:=P) (w:=w) (base:=base) T KC
 have IK:=sk (P:=P) (w:=w) (base:=base) T KZ
 have II:=oo (P:=P) (w:=w) (base:=base) T KU
 have Jh:=mx (P:=P) (w:=w) (base:=base) T KD
 have IE:=vY (P:=P) (w:=w) (base:=base) T Lb Jh II
 have IH:=zN (P:=P) (w:=w) (base:=base) T KG
 have Jg:=sj (P:=P) (w:=w) (base:=base) T La IE IH
 have Ky:=zO (P:=P) (w:=w) (base:=base) T Li IH
 have Ja:=jE (P:=P) (w:=w) (base:=base) T Km IH Ky
 have Jr:=jF (P:=P) (w:=w) (base:=base) T Kn
 have Jt:=jC (P:=P) (w:=w) (base:=base) T Ko Jr
 have Js:=jB (P:=P) (w:=w) (base:=base) T JX
 have IT:=bx (P:=P) (w:=w) (base:=base) T Jq II
 have JJ:=mr (P:=P) (w:=w) (base:=base) T KH IK Js IT
 have IP:=mz (P:=P) (w:=w) (base:=base) T KI IH Ja Jt JJ
 have IX:=oq (P:=P) (w:=w) (base:=base) T KW Jc IF IK Jg IP
 have IG:=vX (P:=P) (w:=w) (base:=base) T Lc IE
 have JD:=wa (P:=P) (w:=w) (base:=base) T Ld IG
 have Ju:=zQ (P:=P) (w:=w) (base:=base) T Lj IE
 have IQ:=ml (P:=P) (w:=w) (base:=base) T KJ IE Jf
 have Ji:=zP (P:=P) (w:=w) (base:=base) T Lk IE
 have IW:=oj (P:=P) (w:=w) (base:=base) T KG
 have IV:=oi (P:=P) (w:=w) (base:=base) T KG
 have IY:=cf (P:=P) (w:=w) (base:=base) T JY IV IW IK
 have IZ:=cc (P:=P) (w:=w) (base:=base) T JX
 have IJ:=W8 (P:=P) (w:=w) (base:=base) T Jq II
 have Jd:=eN (P:=P) (w:=w) (base:=base) T Ka Jg IE IH IW IV IY IZ IJ
 have JK:=mq (P:=P) (w:=w) (base:=base) T KN
 have JC:=vZ (P:=P) (w:=w) (base:=base) T Le Ji IF
 have Ke:=wb (P:=P) (w:=w) (base:=base) T Lf JC IG
 have Jj:=fR (P:=P) (w:=w) (base:=base) T Kg JD Ju IQ IG JK IF Ke
 have JV:=zR (P:=P) (w:=w) (base:=base) T Ll Jd Jj IP
 have Jv:=jD (P:=P) (w:=w) (base:=base) T Kp
 have Kz:=zU (P:=P) (w:=w) (base:=base) T Lm JF JD Ju IQ Ji JV Jv
 have IL:=Z3 (P:=P) (w:=w) (base:=base) T JP JL IX Kz
 have IA:=mD (P:=P) (w:=w) (base:=base) T KO
 have Iy:=jJ (P:=P) (w:=w) (base:=base) T Kq
 have Jb:=jG (P:=P) (w:=w) (base:=base) T Kr Iy
 have IB:=eQ (P:=P) (w:=w) (base:=base) T Kb IA Jb Iy
 have JM:=mC (P:=P) (w:=w) (base:=base) T KP IB
 have IC:=mB (P:=P) (w:=w) (base:=base) T KQ IA
 have Jw:=jN (P:=P) (w:=w) (base:=base) T Ks
 have ID:=jL (P:=P) (w:=w) (base:=base) T Kt IC Jw
 have Iz:=fU (P:=P) (w:=w) (base:=base) T Kh IA
 have Jk:=fW (P:=P) (w:=w) (base:=base) T JQ ID Iz
 have Je:=eR (P:=P) (w:=w) (base:=base) T Kc Jk ID
 have Jl:=fY (P:=P) (w:=w) (base:=base) T Ki
 have Jm:=fT (P:=P) (w:=w) (base:=base) T Kj IC Iz
 have IU:=bz (P:=P) (w:=w) (base:=base) T JQ ID Iz
 have IM:=Z2 (P:=P) (w:=w) (base:=base) T JR Jl Jm IU JV
 have Jo:=fZ (P:=P) (w:=w) (base:=base) T Kk IC Iy Iz IA IB
 have Jx:=jK (P:=P) (w:=w) (base:=base) T Ku IA Iy IB
 have Jp:=fV (P:=P) (w:=w) (base:=base) T Kl Iy IC Iz IA Jx
 have IS:=eO (P:=P) (w:=w) (base:=base) T Kd JC IG Ji
 have JN:=mw (P:=P) (w:=w) (base:=base) T KR IS
 have Jy:=jM (P:=P) (w:=w) (base:=base) T Kv
 have Jz:=jI (P:=P) (w:=w) (base:=base) T Kw IA Iy IB Jy
 have JB:=jH (P:=P) (w:=w) (base:=base) T Kx
 exact DQ T F Jn IL JM JL Je IM Jo IX Jp JN Iy Jz JB
theorem nv{l:PySem.W.OpenLaw}{q:Program}{loose:List Str}{XP:(Str→Option Value)→Heap→Prop}{YP:World→Heap→Prop}{d:DefRec}{K:Params→Lo}(hn:l.most=some 63)(hdf:d.params.defaults=[])
  (hY:∀(w:World) (h:Heap),YP w h→(K w.params).In h)
  (F:∀(w:World) (mg:Str→Option Value) (fa:Addr) (h:Heap),(K w.params).In h→h.Ns mainGlobals mg→mg d.name=some (.ref fa) →
   ∃ fd:FuncData,(∀(s:Shared) (u:Value),BindsTo s fd ⟨[u],[]⟩ [("script",u)])∧∀ base:Heap,R7 l.prog w (K w.params) mg base CX0 10 fa fd ["script"] (lE (K w.params) qo)) :
  PySem.W.WalkO q loose XP YP l.row.toRowW d [] (fun f vs=>PySem.call f vs) :=
 L2.uI (n:=63) (k:=10) (x := "script") (CX:=CX0) (sp:=fun K=>lE K qo) hn (by decide) hdf ⟨rfl,by decide,by decide⟩ hY (fun w mg fa h a b c=>let ⟨fd,h1,h2⟩:=F w mg fa h a b c;⟨fd,h1,fun base _ _=>h2 base⟩)
  (fun K H a ns hl hO hS=>DZ hO hS ⟨ns,rfl,hl,fun _=>rfl⟩) fun _ _ _ _ z=>z
end K28
namespace PySem.W.Fast
theorem te13210637692261944032:True:=trivial
theorem tw4645063985835171183:True:=⟨⟩
theorem tw4030440989082513224:True:=⟨⟩
theorem tw8170898848433763102:True:=⟨⟩
theorem tw3538017305839134757:True:=⟨⟩
theorem tw12110259087580232404:True:=⟨⟩
theorem tw8264045326980374653:True:=⟨⟩
theorem tw6142988208031308607:True:=⟨⟩
theorem tw17275383762344399696:True:=⟨⟩
theorem tw8276472620411383678:True:=⟨⟩
theorem tw18414567908105458482:True:=⟨⟩
theorem tw1761242549382480689:True:=⟨⟩
theorem tw2219476262681915441:True:=⟨⟩
theorem tw11539634202160101606:True:=⟨⟩
theorem tw6529247748709734186:True:=⟨⟩
theorem tw13908519240175555431:True:=⟨⟩
theorem tw3515198554484151371:True:=⟨⟩
theorem tw7710287135771888641:True:=⟨⟩
theorem tw14434838840805310273:True:=⟨⟩
theorem tw5112399692822446782:True:=⟨⟩
theorem tw15372154128122332182:True:=⟨⟩
theorem tw3294455589194387561:True:=⟨⟩
theorem tw7196746185204028948:True:=⟨⟩
theorem tw15431193834580382847:True:=⟨⟩
theorem tw11799440437406243395:True:=⟨⟩
theorem tw3583092382737450009:True:=⟨⟩
theorem tw17899775777749694263:True:=⟨⟩
theorem tw7582473369159191138:True:=⟨⟩
theorem tw5123039185798189891:True:=⟨⟩
theorem tw13206915855541736759:True:=⟨⟩
theorem tw5089321900904218557:True:=⟨⟩
theorem tw17221554315724375333:True:=⟨⟩
theorem tw7819380039171705698:True:=⟨⟩
theorem tw4031419549765631868:True:=⟨⟩
theorem tw1508847040780768280:True:=⟨⟩
theorem tw8098500530969490896:True:=⟨⟩
theorem tw18062405376081172441:True:=⟨⟩
theorem tw9569951967870591861:True:=⟨⟩
theorem tw15203806393417931746:True:=⟨⟩
theorem tw11397086060389725643:True:=⟨⟩
theorem tw12241559556694921091:True:=⟨⟩
theorem tw4351814136793889899:True:=⟨⟩
theorem tw2404273640374851845:True:=⟨⟩
theorem tw2807005731297463484:True:=⟨⟩
theorem tw2645253602756523197:True:=⟨⟩
theorem tw9010402392851920065:True:=⟨⟩
theorem tw4014443527708456192:True:=⟨⟩
theorem tw3656185529117519966:True:=⟨⟩
theorem tw2887206278970249340:True:=⟨⟩
theorem tw2034811642213607239:True:=⟨⟩
theorem tw17914120040941549442:True:=⟨⟩
theorem tw8542498555892724804:True:=⟨⟩
theorem tw13755518117103323638:True:=⟨⟩
theorem tw3454681015661600599:True:=⟨⟩
theorem tw14124729400542958857:True:=⟨⟩
theorem tw8473869133223669883:True:=⟨⟩
theorem tw10375444782889587949:True:=⟨⟩
theorem tw11500450230273245008:True:=⟨⟩
theorem tw8905004243537891782:True:=⟨⟩
theorem tw3977788643681306208:True:=⟨⟩
theorem tw10604695189456861331:True:=⟨⟩
theorem tw17947985452895359690:True:=⟨⟩
theorem tw12391759460198667445:True:=⟨⟩
theorem tw16045543600457758303:True:=⟨⟩
theorem tw17653525395012587345:True:=⟨⟩
theorem tw14191372475579270823:True:=⟨⟩
theorem tw5513514362468699173:True:=⟨⟩
theorem tw6608992507787179723:True:=⟨⟩
theorem tw998317512992153391:True:=⟨⟩
theorem tw4330633310840338285:True:=⟨⟩
theorem tw15243431204128081413:True:=⟨⟩
theorem tw4805416706572751957:True:=⟨⟩
theorem tw17538144299361556404:True:=⟨⟩
theorem tw16331285305607627265:True:=⟨⟩
theorem tw6663344976821569776:True:=⟨⟩
theorem tw16025208932085172100:True:=⟨⟩
theorem tw10463768880080741458:True:=⟨⟩
theorem tw935719173329199488:True:=⟨⟩
theorem tw9477612924598310281:True:=⟨⟩
theorem tw9986276064270502177:True:=⟨⟩
theorem tw4453707300056830988:True:=⟨⟩
theorem tw5454159794727773288:True:=⟨⟩
theorem tw6333198273193258207:True:=⟨⟩
theorem tw8757120656060541383:True:=⟨⟩
theorem tw551081666220851552:True:=⟨⟩
theorem tw2449414336996982389:True:=⟨⟩
theorem tw14375312484131723799:True:=⟨⟩
theorem tw3507265398465006707:True:=⟨⟩
theorem tw6286518360850069260:True:=⟨⟩
theorem tw4586577826956112676:True:=⟨⟩
theorem tw15997019913419586831:True:=⟨⟩
theorem tw3238001184380871596:True:=⟨⟩
theorem tw4291373607404926173:True:=⟨⟩
theorem tw10546253108300610564:True:=⟨⟩
theorem tw17060377752207083093:True:=⟨⟩
theorem tw8339060426691364143:True:=⟨⟩
theorem tw1197293507199361950:True:=⟨⟩
theorem tw8187383104297978166:True:=⟨⟩
theorem tw8268222953948042599:True:=⟨⟩
theorem tw7457748557495126641:True:=⟨⟩
theorem tw8772522899459510884:True:=⟨⟩
theorem tw680282952364790041:True:=⟨⟩
theorem tw9112622394529191512:True:=⟨⟩
theorem tw7334863076929986463:True:=⟨⟩
theorem tw13825511356281060494:True:=⟨⟩
theorem tw8814047142600233438:True:=⟨⟩
theorem tw6170583785508777531:True:=⟨⟩
theorem tw4305463982665285748:True:=⟨⟩
theorem tw2240184090896580204:True:=⟨⟩
theorem tw1541032202916414232:True:=⟨⟩
theorem tw3496816430243001512:True:=⟨⟩
theorem tw2963329180563530425:True:=⟨⟩
theorem tw8927779858824703090:True:=⟨⟩
theorem tw11091614459381436053:True:=⟨⟩
theorem tw1702439320084341342:True:=⟨⟩
theorem tw7853390305932690246:True:=⟨⟩
theorem tw9552456435853426491:True:=⟨⟩
theorem tw17582445753683259336:True:=⟨⟩
theorem tw12870913519957000457:True:=⟨⟩
theorem tw10022106404944926682:True:=⟨⟩
theorem tw7719636204188708219:True:=⟨⟩
theorem tw1098041676061357282:True:=⟨⟩
theorem tw14644281701459684912:True:=⟨⟩
theorem tw336925663660117014:True:=⟨⟩
theorem tw535629261722095859:True:=⟨⟩
theorem tw1940697302163590048:True:=⟨⟩
theorem tw7153468583871137318:True:=⟨⟩
theorem tw2060041119442763629:True:=⟨⟩
theorem tw8270513407574008222:True:=⟨⟩
theorem tw16321629097248561168:True:=⟨⟩
theorem tw15876896922254622406:True:=⟨⟩
theorem tw1327059316891276693:True:=⟨⟩
theorem tw11530567053547046549:True:=⟨⟩
theorem tw502603378601671693:True:=⟨⟩
theorem tw331272946095888212:True:=⟨⟩
theorem tw2833588285517110068:True:=⟨⟩
end PySem.W.Fast
open PySem PySem.W PyProof.Rows
set_option maxRecDepth 100000 in
set_option maxHeartbeats 0 in
theorem PySem.Challenge.cw_roundglass_k28_whole_corners_and_most_holds : PySem.Challenge.rw_roundglass_k28_whole_corners_and_most.Holds := by
 w_on;o_law;k_head;(case hw=>w_witness2)
 k_fill
 refine K28.nv (l:=PySem.Challenge.rw_roundglass_k28_whole_corners_and_most) rfl rfl (fun w h Y=>PySem.W.kIn_of Y) ?F
 case F =>
  intro w mg fa h KX G hmg
  refine' K28.EC ⟨PySem.W.mg_none_of KX G ?z_abs,PySem.W.mg_none_of KX G ?z_all,PySem.W.mg_none_of KX G ?z_any,PySem.W.mg_none_of KX G ?z_bool,PySem.W.mg_none_of KX G ?z_enumerate,PySem.W.mg_none_of KX G ?z_int,PySem.W.mg_none_of KX G ?z_isinstance,PySem.W.mg_none_of KX G ?z_len,PySem.W.mg_none_of KX G ?z_list,PySem.W.mg_none_of KX G ?z_max,PySem.W.mg_none_of KX G ?z_min,PySem.W.mg_none_of KX G ?z_range,PySem.W.mg_none_of KX G ?z_sorted,PySem.W.mg_none_of KX G ?z_zip,DL.FJ _,DL.wO KX G ?c0_AXIS_RAY ?c1_AXIS_RAY ?c2_AXIS_RAY ?c3_AXIS_RAY,DL.wO KX G ?c0_LEVEL_RAY ?c1_LEVEL_RAY ?c2_LEVEL_RAY ?c3_LEVEL_RAY,DL.Am KX G ?c0_NOUGHT ?c1_NOUGHT⟩ hmg (DL.i3 KX G ?n0 ?l0 ?c0 ?k0 ?b0) (DL.i3 KX G ?n1 ?l1 ?c1 ?k1 ?b1) (DL.i3 KX G ?n2 ?l2 ?c2 ?k2 ?b2) (DL.i3 KX G ?n3 ?l3 ?c3 ?k3 ?b3) (DL.i3 KX G ?n4 ?l4 ?c4 ?k4 ?b4) (DL.i3 KX G ?n5 ?l5 ?c5 ?k5 ?b5) (DL.i3 KX G ?n6 ?l6 ?c6 ?k6 ?b6) (DL.i3 KX G ?n7 ?l7 ?c7 ?k7 ?b7) (DL.i3 KX G ?n8 ?l8 ?c8 ?k8 ?b8) (DL.i3 KX G ?n9 ?l9 ?c9 ?k9 ?b9) (DL.i3 KX G ?n10 ?l10 ?c10 ?k10 ?b10) (DL.Em KX G ?n11 ?l11 ?c11 ?k11 ?b11) (DL.i3 KX G ?n12 ?l12 ?c12 ?k12 ?b12) (DL.i3 KX G ?n13 ?l13 ?c13 ?k13 ?b13) (DL.i3 KX G ?n14 ?l14 ?c14 ?k14 ?b14) (DL.i3 KX G ?n15 ?l15 ?c15 ?k15 ?b15) (DL.i3 KX G ?n16 ?l16 ?c16 ?k16 ?b16) (DL.i3 KX G ?n17 ?l17 ?c17 ?k17 ?b17) (DL.i3 KX G ?n18 ?l18 ?c18 ?k18 ?b18) (DL.i3 KX G ?n19 ?l19 ?c19 ?k19 ?b19) (DL.i3 KX G ?n20 ?l20 ?c20 ?k20 ?b20) (DL.i3 KX G ?n21 ?l21 ?c21 ?k21 ?b21) (DL.i3 KX G ?n22 ?l22 ?c22 ?k22 ?b22) (DL.i3 KX G ?n23 ?l23 ?c23 ?k23 ?b23) (DL.i3 KX G ?n24 ?l24 ?c24 ?k24 ?b24) (DL.i3 KX G ?n25 ?l25 ?c25 ?k25 ?b25) (DL.i3 KX G ?n26 ?l26 ?c26 ?k26 ?b26) (DL.i3 KX G ?n27 ?l27 ?c27 ?k27 ?b27) (DL.i3 KX G ?n28 ?l28 ?c28 ?k28 ?b28) (DL.i3 KX G ?n29 ?l29 ?c29 ?k29 ?b29) (DL.i3 KX G ?n30 ?l30 ?c30 ?k30 ?b30) (DL.i3 KX G ?n31 ?l31 ?c31 ?k31 ?b31) (DL.i3 KX G ?n32 ?l32 ?c32 ?k32 ?b32) (DL.i3 KX G ?n33 ?l33 ?c33 ?k33 ?b33) (DL.i3 KX G ?n34 ?l34 ?c34 ?k34 ?b34) (DL.i3 KX G ?n35 ?l35 ?c35 ?k35 ?b35) (DL.i3 KX G ?n36 ?l36 ?c36 ?k36 ?b36) (DL.i3 KX G ?n37 ?l37 ?c37 ?k37 ?b37) (DL.i3 KX G ?n38 ?l38 ?c38 ?k38 ?b38) (DL.i3 KX G ?n39 ?l39 ?c39 ?k39 ?b39) (DL.i3 KX G ?n40 ?l40 ?c40 ?k40 ?b40) (DL.i3 KX G ?n41 ?l41 ?c41 ?k41 ?b41) (DL.i3 KX G ?n42 ?l42 ?c42 ?k42 ?b42) (DL.i3 KX G ?n43 ?l43 ?c43 ?k43 ?b43) (DL.i3 KX G ?n44 ?l44 ?c44 ?k44 ?b44) (DL.i3 KX G ?n45 ?l45 ?c45 ?k45 ?b45) (DL.i3 KX G ?n46 ?l46 ?c46 ?k46 ?b46) (DL.i3 KX G ?n47 ?l47 ?c47 ?k47 ?b47) (DL.i3 KX G ?n48 ?l48 ?c48 ?k48 ?b48) (DL.i3 KX G ?n49 ?l49 ?c49 ?k49 ?b49) (DL.i3 KX G ?n50 ?l50 ?c50 ?k50 ?b50) (DL.i3 KX G ?n51 ?l51 ?c51 ?k51 ?b51) (DL.i3 KX G ?n52 ?l52 ?c52 ?k52 ?b52) (DL.i3 KX G ?n53 ?l53 ?c53 ?k53 ?b53) (DL.i3 KX G ?n54 ?l54 ?c54 ?k54 ?b54) (DL.i3 KX G ?n55 ?l55 ?c55 ?k55 ?b55) (DL.i3 KX G ?n56 ?l56 ?c56 ?k56 ?b56) (DL.i3 KX G ?n57 ?l57 ?c57 ?k57 ?b57) (DL.i3 KX G ?n58 ?l58 ?c58 ?k58 ?b58) (DL.i3 KX G ?n59 ?l59 ?c59 ?k59 ?b59) (DL.El KX G ?n60 ?l60 ?c60 ?k60 ?b60)
  (case n0=>k_is);(case l0=>k_is);(case c0=>k_is);(case k0=>k_is);(case b0=>(intro us hl;exact match us,hl with|[_,_],_=>rfl))
  (case n1=>k_is);(case l1=>k_is);(case c1=>k_is);(case k1=>k_is);(case b1=>(intro us hl;exact match us,hl with|[_,_,_],_=>rfl))
  (case n2=>k_is);(case l2=>k_is);(case c2=>k_is);(case k2=>k_is);(case b2=>(intro us hl;exact match us,hl with|[_,_],_=>rfl))
  (case n3=>k_is);(case l3=>k_is);(case c3=>k_is);(case k3=>k_is);(case b3=>(intro us hl;exact match us,hl with|[_,_],_=>rfl))
  (case n4=>k_is);(case l4=>k_is);(case c4=>k_is);(case k4=>k_is);(case b4=>(intro us hl;exact match us,hl with|[_,_],_=>rfl))
  (case n5=>k_is);(case l5=>k_is);(case c5=>k_is);(case k5=>k_is);(case b5=>(intro us hl;exact match us,hl with|[_,_],_=>rfl))
  (case n6=>k_is);(case l6=>k_is);(case c6=>k_is);(case k6=>k_is);(case b6=>(intro us hl;exact match us,hl with|[_],_=>rfl))
  (case n7=>k_is);(case l7=>k_is);(case c7=>k_is);(case k7=>k_is);(case b7=>(intro us hl;exact match us,hl with|[_],_=>rfl))
  (case n8=>k_is);(case l8=>k_is);(case c8=>k_is);(case k8=>k_is);(case b8=>(intro us hl;exact match us,hl with|[_],_=>rfl))
  (case n9=>k_is);(case l9=>k_is);(case c9=>k_is);(case k9=>k_is);(case b9=>(intro us hl;exact match us,hl with|[_,_],_=>rfl))
  (case n10=>k_is);(case l10=>k_is);(case c10=>k_is);(case k10=>k_is);(case b10=>(intro us hl;exact match us,hl with|[_],_=>rfl))
  (case n11=>k_is);(case l11=>k_is);(case c11=>k_is);(case k11=>k_is);(case b11=>(intro us hl S;exact match us,hl with|[_,_],_=>rfl))
  (case n12=>k_is);(case l12=>k_is);(case c12=>k_is);(case k12=>k_is);(case b12=>(intro us hl;exact match us,hl with|[_,_],_=>rfl))
  (case n13=>k_is);(case l13=>k_is);(case c13=>k_is);(case k13=>k_is);(case b13=>(intro us hl;exact match us,hl with|[_,_],_=>rfl))
  (case n14=>k_is);(case l14=>k_is);(case c14=>k_is);(case k14=>k_is);(case b14=>(intro us hl;exact match us,hl with|[_,_,_],_=>rfl))
  (case n15=>k_is);(case l15=>k_is);(case c15=>k_is);(case k15=>k_is);(case b15=>(intro us hl;exact match us,hl with|[_,_],_=>rfl))
  (case n16=>k_is);(case l16=>k_is);(case c16=>k_is);(case k16=>k_is);(case b16=>(intro us hl;exact match us,hl with|[_,_],_=>rfl))
  (case n17=>k_is);(case l17=>k_is);(case c17=>k_is);(case k17=>k_is);(case b17=>(intro us hl;exact match us,hl with|[_],_=>rfl))
  (case n18=>k_is);(case l18=>k_is);(case c18=>k_is);(case k18=>k_is);(case b18=>(intro us hl;exact match us,hl with|[_,_],_=>rfl))
  (case n19=>k_is);(case l19=>k_is);(case c19=>k_is);(case k19=>k_is);(case b19=>(intro us hl;exact match us,hl with|[_],_=>rfl))
  (case n20=>k_is);(case l20=>k_is);(case c20=>k_is);(case k20=>k_is);(case b20=>(intro us hl;exact match us,hl with|[_],_=>rfl))
  (case n21=>k_is);(case l21=>k_is);(case c21=>k_is);(case k21=>k_is);(case b21=>(intro us hl;exact match us,hl with|[_],_=>rfl))
  (case n22=>k_is);(case l22=>k_is);(case c22=>k_is);(case k22=>k_is);(case b22=>(intro us hl;exact match us,hl with|[_],_=>rfl))
  (case n23=>k_is);(case l23=>k_is);(case c23=>k_is);(case k23=>k_is);(case b23=>(intro us hl;exact match us,hl with|[_,_],_=>rfl))
  (case n24=>k_is);(case l24=>k_is);(case c24=>k_is);(case k24=>k_is);(case b24=>(intro us hl;exact match us,hl with|[_,_],_=>rfl))
  (case n25=>k_is);(case l25=>k_is);(case c25=>k_is);(case k25=>k_is);(case b25=>(intro us hl;exact match us,hl with|[_,_],_=>rfl))
  (case n26=>k_is);(case l26=>k_is);(case c26=>k_is);(case k26=>k_is);(case b26=>(intro us hl;exact match us,hl with|[_,_,_],_=>rfl))
  (case n27=>k_is);(case l27=>k_is);(case c27=>k_is);(case k27=>k_is);(case b27=>(intro us hl;exact match us,hl with|[_,_],_=>rfl))
  (case n28=>k_is);(case l28=>k_is);(case c28=>k_is);(case k28=>k_is);(case b28=>(intro us hl;exact match us,hl with|[_,_],_=>rfl))
  (case n29=>k_is);(case l29=>k_is);(case c29=>k_is);(case k29=>k_is);(case b29=>(intro us hl;exact match us,hl with|[_,_,_],_=>rfl))
  (case n30=>k_is);(case l30=>k_is);(case c30=>k_is);(case k30=>k_is);(case b30=>(intro us hl;exact match us,hl with|[_],_=>rfl))
  (case n31=>k_is);(case l31=>k_is);(case c31=>k_is);(case k31=>k_is);(case b31=>(intro us hl;exact match us,hl with|[_,_],_=>rfl))
  (case n32=>k_is);(case l32=>k_is);(case c32=>k_is);(case k32=>k_is);(case b32=>(intro us hl;exact match us,hl with|[_,_],_=>rfl))
  (case n33=>k_is);(case l33=>k_is);(case c33=>k_is);(case k33=>k_is);(case b33=>(intro us hl;exact match us,hl with|[_,_,_,_],_=>rfl))
  (case n34=>k_is);(case l34=>k_is);(case c34=>k_is);(case k34=>k_is);(case b34=>(intro us hl;exact match us,hl with|[_,_,_],_=>rfl))
  (case n35=>k_is);(case l35=>k_is);(case c35=>k_is);(case k35=>k_is);(case b35=>(intro us hl;exact match us,hl with|[_,_],_=>rfl))
  (case n36=>k_is);(case l36=>k_is);(case c36=>k_is);(case k36=>k_is);(case b36=>(intro us hl;exact match us,hl with|[_,_],_=>rfl))
  (case n37=>k_is);(case l37=>k_is);(case c37=>k_is);(case k37=>k_is);(case b37=>(intro us hl;exact match us,hl with|[_,_,_],_=>rfl))
  (case n38=>k_is);(case l38=>k_is);(case c38=>k_is);(case k38=>k_is);(case b38=>(intro us hl;exact match us,hl with|[_,_],_=>rfl))
  (case n39=>k_is);(case l39=>k_is);(case c39=>k_is);(case k39=>k_is);(case b39=>(intro us hl;exact match us,hl with|[_,_],_=>rfl))
  (case n40=>k_is);(case l40=>k_is);(case c40=>k_is);(case k40=>k_is);(case b40=>(intro us hl;exact match us,hl with|[_,_],_=>rfl))
  (case n41=>k_is);(case l41=>k_is);(case c41=>k_is);(case k41=>k_is);(case b41=>(intro us hl;exact match us,hl with|[_],_=>rfl))
  (case n42=>k_is);(case l42=>k_is);(case c42=>k_is);(case k42=>k_is);(case b42=>(intro us hl;exact match us,hl with|[_],_=>rfl))
  (case n43=>k_is);(case l43=>k_is);(case c43=>k_is);(case k43=>k_is);(case b43=>(intro us hl;exact match us,hl with|[_,_],_=>rfl))
  (case n44=>k_is);(case l44=>k_is);(case c44=>k_is);(case k44=>k_is);(case b44=>(intro us hl;exact match us,hl with|[_],_=>rfl))
  (case n45=>k_is);(case l45=>k_is);(case c45=>k_is);(case k45=>k_is);(case b45=>(intro us hl;exact match us,hl with|[_,_],_=>rfl))
  (case n46=>k_is);(case l46=>k_is);(case c46=>k_is);(case k46=>k_is);(case b46=>(intro us hl;exact match us,hl with|[_,_],_=>rfl))
  (case n47=>k_is);(case l47=>k_is);(case c47=>k_is);(case k47=>k_is);(case b47=>(intro us hl;exact match us,hl with|[_,_],_=>rfl))
  (case n48=>k_is);(case l48=>k_is);(case c48=>k_is);(case k48=>k_is);(case b48=>(intro us hl;exact match us,hl with|[_,_],_=>rfl))
  (case n49=>k_is);(case l49=>k_is);(case c49=>k_is);(case k49=>k_is);(case b49=>(intro us hl;exact match us,hl with|[_,_],_=>rfl))
  (case n50=>k_is);(case l50=>k_is);(case c50=>k_is);(case k50=>k_is);(case b50=>(intro us hl;exact match us,hl with|[_,_,_],_=>rfl))
  (case n51=>k_is);(case l51=>k_is);(case c51=>k_is);(case k51=>k_is);(case b51=>(intro us hl;exact match us,hl with|[_,_,_,_],_=>rfl))
  (case n52=>k_is);(case l52=>k_is);(case c52=>k_is);(case k52=>k_is);(case b52=>(intro us hl;exact match us,hl with|[_,_],_=>rfl))
  (case n53=>k_is);(case l53=>k_is);(case c53=>k_is);(case k53=>k_is);(case b53=>(intro us hl;exact match us,hl with|[_],_=>rfl))
  (case n54=>k_is);(case l54=>k_is);(case c54=>k_is);(case k54=>k_is);(case b54=>(intro us hl;exact match us,hl with|[_,_],_=>rfl))
  (case n55=>k_is);(case l55=>k_is);(case c55=>k_is);(case k55=>k_is);(case b55=>(intro us hl;exact match us,hl with|[_,_],_=>rfl))
  (case n56=>k_is);(case l56=>k_is);(case c56=>k_is);(case k56=>k_is);(case b56=>(intro us hl;exact match us,hl with|[_],_=>rfl))
  (case n57=>k_is);(case l57=>k_is);(case c57=>k_is);(case k57=>k_is);(case b57=>(intro us hl;exact match us,hl with|[_],_=>rfl))
  (case n58=>k_is);(case l58=>k_is);(case c58=>k_is);(case k58=>k_is);(case b58=>(intro us hl;exact match us,hl with|[_],_=>rfl))
  (case n59=>k_is);(case l59=>k_is);(case c59=>k_is);(case k59=>k_is);(case b59=>(intro us hl;exact match us,hl with|[_],_=>rfl))
  (case n60=>k_is);(case l60=>k_is);(case c60=>k_is);(case k60=>k_is);(case b60=>(intro us hl;exact match us,hl with|[_],_=>rfl))
  (case z_abs=>k_is);(case z_all=>k_is);(case z_any=>k_is);(case z_bool=>k_is);(case z_enumerate=>k_is);(case z_int=>k_is);(case z_isinstance=>k_is);(case z_len=>k_is);(case z_list=>k_is);(case z_max=>k_is);(case z_min=>k_is);(case z_range=>k_is);(case z_sorted=>k_is);(case z_zip=>k_is);(case c0_AXIS_RAY=>k_is);(case c1_AXIS_RAY=>k_is);(case c2_AXIS_RAY=>k_is);(case c3_AXIS_RAY=>k_is);(case c0_LEVEL_RAY=>k_is);(case c1_LEVEL_RAY=>k_is);(case c2_LEVEL_RAY=>k_is);(case c3_LEVEL_RAY=>k_is);(case c0_NOUGHT=>k_is);(case c1_NOUGHT=>k_is)
end
