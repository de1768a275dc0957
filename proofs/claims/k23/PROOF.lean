import PyProof.Rows.All
import PyProof.Rows.SetFrom
import PyProof.CollectWalk
import PyProof.Rows.SortShell
import PyProof.FactsAll.set_1
import PyProof.FactsAll.set_2
import PyProof.MeetsSeq
import PyProof.DictRoadsH
import PyProof.Rows.TupTab
import PyProof.DictTruth
import KE.KSortTup
import KE.KSortAsk
import OpenK.KLine
import KE.KPar
import KE.IntBitsLaws
import PyProof.Fits
import KE.KIsAll
import KE.KItem
import KE.KxBytes
import Wide.FinOn
import PyProof.EqAt
import PyProof.EqKinds
import PyProof.TupleCall
import PyProof.ZipIter
import PyProof.EnumMake
import PyProof.EnumFor
import PyProof.Rows.EnumRows
import PyProof.CompMap
import PyProof.CompUse
import KE.KRevSl
import KE.KRevIter
import PyProof.ListRange
import PyProof.AutoRange
import PyProof.FactsAll.range_2
import PyProof.MaxThree
import KE.RegKTryMore
import PyProof.Rows.SumAny
import KE.KMinBuiltin
import PyProof.Rows.CallKwBuiltin
import PyProof.JoinWalk
import PyProof.StrBlockL
import PyProof.StrCalls2
import PyProof.CallStr
import PyProof.Rows.StrWeight2
import PyProof.FitsInt
import PyProof.FactsAll.range_1
import PyProof.SeqRoads2
import KE.RegKIsAll
import PyProof.ExcArgsOwn
import PyProof.NsDelKeeps
import PyProof.RulesAs
import KE.KIntText
import PyProof.Rows.StrNews2
import PyProof.StrBlockH
import PyProof.Rows.RuleDivmod
import KE.IntTextText
import OpenK.KTop
import Lean
import PySem.Challenge.RW_roundglass_k23_corners_told
noncomputable section
open PySem renaming wpAny_bind→Hh,wpAny_pure→Hn
open PySem.W renaming Frag→Hi
open PySem.Heap renaming get?_push_of_some→Hj,lt_size→Hv,get?_push_size→HA,size_push→Il,get?_update_other→Km,get?_update_self→Kr,get?_push_ne→Lh
open List renaming length_map→Hk,mem_cons_of_mem→Hl,mem_map→Hm,mem_cons_self→Hq,mem_cons→Hr,length_cons→Hs,getElem?_eq_getElem→Hu,map_append→Hw,getD_eq_getElem?_getD→HB,size_toArray→HC,length_append→HE,mem_of_getElem?→HG,mem_append→HH,mem_append_right→HI,getElem?_map→HK,map_cons→HL,not_mem_nil→HM,getElem?_eq_some_iff→HN,mem_singleton→HP,length_take→HS,filter_cons_of_pos→HY,length_drop→Ia,getElem?_append_right→Ig,range→Ih,length_range→Ik,map_inj_right→Io,mem_append_left→Iq,getElem?_replicate→Ir,filter_cons_of_neg→Iu,getElem_cons_succ→Iy,all_eq_true→Iz,map_nil→IA,getElem?_append_left→IB,forIn_cons→ID,map_map→IF,length_pos_iff→II,replicate→IJ,take_of_length_le→IK,length_zip→IS,getElem_append_right→IV,lookup_cons→IY,getElem_mem→Ja,getElem_append_left→Jc,append_nil→Jd,length→Jj,reverse_cons→Jk,mem_range→Jl,forIn_nil→Jm,length_replicate→Jp,length_singleton→Jq,ext_getElem→Jt,take_length→Ju,getElem_zip→Jv,getElem?_append→Jx,mem_iff_getElem→Jz,filterMap_cons→JC,nodup_cons→JF,take_succ_cons→JK,getElem?_take_of_lt→Ka,append_assoc→Kc,take_add_one→Kd,foldl_append→Ke,getElem?_set_self→Kl,drop_of_length_le→Kp,of_mem_zip→Kq,take_append_drop→Kx,getElem?_set_ne→KA,getElem?_mapIdx→KC,mem_of_mem_take→KG,getElem?_range→KS,mem_filterMap→KW,zip_cons_cons→Lc,map_take→Le,map→Lf,zipIdx_cons→Lr,getElem_map→Ls,mem_filter→Lu,length_set→Lv,zipIdx_nil→Lw,nil_append→LC,drop_zero→LI,nodup_nil→LK,any_cons→LL
open Nat renaming lt_of_lt_of_le→Ho,le_trans→Hx,le_refl→Hy,pow_le_pow_right→HD,ne_of_lt→HQ,lt_of_le_of_lt→HV,mod_eq_of_lt→Ib,zero_le→Ic,mul_le_mul_right→Ie,gcd→Ii,mod_lt→Iw,lt_irrefl→IG,pow_add→IH,not_lt_zero→IQ,mul_lt_mul''→IX,le_add_right→IZ,lt_or_eq_of_le→Ji,le_of_lt→Jn,ne_of_gt→Jo,mul_comm→Jr,div_le_self→JH,lt_succ_iff→JP,pow_succ→JR,zero_add→JU,gcd_zero_right→JV,gcd_pos_of_pos_right→Kb,log2_lt→Kf,min_le_right→Ki,le_max_right→Kj,dvd_lcm_left→Kk,le_max_left→Ks,max_le→Kz,pow_lt_pow_right→KD,mul_le_mul→KH,pos_iff_ne_zero→KI,mul_le_mul_left→KO,eq_zero_or_pos→KY,mul_assoc→Lb,mod_eq_sub_mod→Ld,dvd_lcm_right→Lj,lt_trichotomy→Ll,le_of_eq→Lm,gcd_comm→Ln,min_le_left→Ly,mul_pos→LB,lcm_pos→LD,mod_add_mod→LG,lcm→LO
open Rat renaming mul_nonneg→Ht,intCast_mul→HU,div_mul_cancel→HZ,mul_pos→Ij,mul_eq_zero→Im,mul_le_mul_of_nonneg_left→Ip,divInt→Iv,mul_comm→IP,intCast_natCast→Jb,num_divInt_den→Jf,intCast_sub→Jg,mul_inv_cancel→Jh,divInt_mul_right→Jy,num_eq_zero→JJ,le_refl→JM,num_nonneg→JZ,neg_num→Kg,intCast_eq_zero_iff→Kh,intCast_le_intCast→Ko,intCast_neg→Kt,mul_zero→Kv,add_zero→Kw,neg_den→KJ,neg_neg→KP,mul_one→KU,divInt_eq_div→Li,num_intCast→Lz,den_intCast→LA
open Int renaming natCast_inj→Hz,natAbs_natCast→HF,natAbs_mul→HX,natAbs_neg→IC,toNat_natCast→IE,emod_lt_of_pos→IL,mul_ne_zero→IM,mul_nonneg→IU,emod_nonneg→Je,mul_le_mul_of_nonneg_right→Js,natCast_emod→Jw,natCast_mul→JL,mul_eq_zero→JN,sign_eq_neg_one_of_neg→JQ,zero_add→JX,natAbs_ediv_le_natAbs→JY,sign_eq_one_of_pos→Kn,lt_or_le→Ku,zero_sub→Ky,neg_ediv_of_dvd→KN,mul_neg→KQ,mul_pos→KR,natAbs_eq_zero→KZ,natAbs_add_le→Lg,natAbs_sub_le→Lk,le_of_lt→Lo,zero_mul→Lp,neg_neg→LF,natAbs_pos→LJ,gcd→LN
open Bool renaming false_ne_true→HJ,false_eq_true→HW,not_true→IT,and_eq_true→IW,true_and→JB,eq_iff_iff→JD,and_true→La,false_and→LH,false_or→LM
open Classical renaming propDecidable→HR
open Option renaming getD_none→Lq
set_option compiler.extract_closed false
set_option Elab.async false
set_option linter.all false
set_option maxRecDepth 100000
section
namespace L2
open PySem PySem.Spec PyProof.Rows
noncomputable abbrev Key:=Sum Int Str
noncomputable def yt:Key→Value→Bool
 | .inl k,v=>Value.isInt k v
 | .inr x,v=>Value.isStrOf x v
noncomputable def ER(w:World):Key→Int
 | .inl k=>hashInt k
 | .inr x=>hashStr w x
theorem q9:∀{k:Key} {v:Value},yt k v=true→(∃ i t,k=Sum.inl i∧v=Value.int i t)∨(∃ x t,k=Sum.inr x∧v=Value.str x t)
 | .inl i,v,h=>by
  obtain⟨t,e⟩:=Value.isInt_shape (k:=i) (v:=v) h
  exact .inl ⟨i,t,rfl,e⟩
 | .inr x,v,h=>by
  obtain⟨t,e⟩:=Value.isStrOf_shape (x:=x) (v:=v) h
  exact .inr ⟨x,t,rfl,e⟩
theorem AM(a b:Int):decide ((Sum.inl a:Key)=Sum.inl b)=(a == b):=by
 by_cases e:a=b
 ·subst e;simp
 ·have h:¬ (Sum.inl a:Key)=Sum.inl b:=fun q=>e (Sum.inl.inj q)
  rw[decide_eq_false h]
  exact(beq_eq_false_iff_ne.mpr e).symm
theorem AJ(a b:Str):decide ((Sum.inr a:Key)=Sum.inr b)=decide (a=b):=by
 by_cases e:a=b
 ·subst e;simp
 ·have h:¬ (Sum.inr a:Key)=Sum.inr b:=fun q=>e (Sum.inr.inj q)
  rw[decide_eq_false h,decide_eq_false e]
theorem AL(a:Int)(b:Str):decide ((Sum.inl a:Key)=Sum.inr b)=false:=decide_eq_false (fun q=>nomatch q)
theorem AK(a:Str)(b:Int):decide ((Sum.inr a:Key)=Sum.inl b)=false:=decide_eq_false (fun q=>nomatch q)
noncomputable def wy(prog:Program)(w:World):PySem.KeyKind prog w Key where
 is:=yt
 hash:=ER w
 inj:=fun v a b ha hb=>by
  rcases q9 ha with⟨i,t,rfl,rfl⟩|⟨x,t,rfl,rfl⟩
  ·rcases q9 hb with⟨j,u,rfl,e⟩|⟨y,u,rfl,e⟩
   ·injection e with e1 _;rw[e1]
   ·exact nomatch e
  ·rcases q9 hb with⟨j,u,rfl,e⟩|⟨y,u,rfl,e⟩
   ·exact nomatch e
   ·injection e with e1 _;rw[e1]
 byValue:=fun k v h=>by
  rcases q9 h with⟨i,t,rfl,rfl⟩|⟨x,t,rfl,rfl⟩<;>rfl
 pyHash:=fun hv h=>by
  rcases q9 hv with⟨i,t,rfl,rfl⟩|⟨x,t,rfl,rfl⟩
  ·exact wpAny_pyHash_int h
  ·exact wpAny_pyHash_str h
 eqBool:=fun hu hv h=>by
  rcases q9 hu with⟨i,t,rfl,rfl⟩|⟨x,t,rfl,rfl⟩
  ·rcases q9 hv with⟨j,u,rfl,rfl⟩|⟨y,u,rfl,rfl⟩
   ·rw[AM]at h;exact wpAny_eqBool_int h
   ·rw[AL]at h;exact SeqAt.EqAt.int_str i t y u _ _ _ _ h
  ·rcases q9 hv with⟨j,u,rfl,rfl⟩|⟨y,u,rfl,rfl⟩
   ·rw[AK]at h;exact SeqAt.EqAt.str_int x t j u _ _ _ _ h
   ·rw[AJ]at h;exact wpAny_eqBool_str h
 «strs»:=fun k x t v h=>by
  rcases q9 h with⟨i,u,rfl,e⟩|⟨y,u,rfl,e⟩
  ·exact nomatch e
  ·injection e with e1 _
   subst e1
   cases v<;>rfl
inductive V where
 | non|bl (b:Bool)|int (i:Int)|str (x:Str)|byt (b:Array UInt8)|flt (b:UInt64)|ref (a:Addr)|ty (n:String)
 deriving DecidableEq
noncomputable def m7:V→Value→Prop
 | .non,u=>u=Value.none
 | .bl b,u=>u=Value.bool b
 | .int i,u=>∃ t,u=Value.int i t
 | .str x,u=>∃ t,u=Value.str x t
 | .byt b,u=>∃ t,u=Value.bytes b t
 | .flt b,u=>∃ t,u=Value.float b t
 | .ref a,u=>u=Value.ref a
 | .ty n,u=>u=Value.type n
noncomputable abbrev i6:List V→List Value→Prop:=Paired m7
theorem i6.length{xs:List V}{us:List Value}(r:i6 xs us):xs.length=us.length:=Paired.length r
theorem i6.get:∀{xs:List V} {us:List Value} {i:Nat} {x:V},i6 xs us→xs[i]? = some x→∃ u,us[i]? = some u∧m7 x u
 | _,_,_,_,.nil,e=>by simp at e
 | _,_,0,_,.cons r _,e=>by simp at e;subst e;exact⟨_,rfl,r⟩
 | _,_,i+1,x,.cons _ t,e=>by
  obtain⟨u,h1,h2⟩:=i6.get (i:=i) (x:=x) t (by simpa using e)
  exact⟨u,by simpa using h1,h2⟩
theorem i6.set{x:V}{u:Value}(r:m7 x u):∀{xs:List V} {us:List Value} (i:Nat),i6 xs us→i6 (xs.set i x) (us.set i u)
 | _,_,_,.nil=>.nil
 | _,_,0,.cons _ t=>.cons r t
 | _,_,i+1,.cons q t=>.cons q (i6.set r i t)
theorem i6.append:∀{xs ys:List V} {us ws:List Value},i6 xs us→i6 ys ws→i6 (xs++ys) (us++ws)
 | _,_,_,_,.nil,s=>s
 | _,_,_,_,.cons r t,s=>.cons r (i6.append t s)
theorem i6.take:∀{xs:List V} {us:List Value} (n:Nat),i6 xs us→i6 (xs.take n) (us.take n)
 | _,_,0,_=>.nil
 | _,_,_+1,.nil=>.nil
 | _,_,n+1,.cons r t=>.cons r (i6.take n t)
theorem i6.drop:∀{xs:List V} {us:List Value} (n:Nat),i6 xs us→i6 (xs.drop n) (us.drop n)
 | _,_,0,r=>r
 | _,_,_+1,.nil=>.nil
 | _,_,n+1,.cons _ t=>i6.drop n t
noncomputable def Bx:Option V→Option Value→Prop
 | some v,some u=>m7 v u
 | none,none=>True
 | _,_=>False
noncomputable def KV{κ:Type}:List (κ × V)→List (κ × Value)→Prop:=Paired fun(p:κ × V) (q:κ × Value)=>p.1=q.1∧m7 p.2 q.2
noncomputable def kV:Key→V
 | .inl i=>.int i
 | .inr x=>.str x
inductive HO where
 | lst (xs:List V)
 | tup (xs:List V)
 | dK (kvs:List (Key × V))|dT (hs:List Int × List Int→Int) (kvs:List ((List Int × List Int) × Addr × V))
 | set (S:Int→Bool) (n:Nat)
 | ins (C dx:Addr) (fs:List (Str × V))
 | own (x:Addr)
 | xd (fs:List (Str × V))
 | met (f x:Addr)
 | rng (lo hi:Int)
 | frz (o:Obj) (u:HO)
 | tbl (ps:Array Value)
 | ext (φ:Heap→Prop)
noncomputable abbrev Hp:=Addr→Option HO
noncomputable def upd(H:Hp)(a:Addr)(o:HO):Hp:=fun b=>if b=a then some o else H b
theorem i4{H:Hp}{a:Addr}{o:HO}:upd H a o a=some o:=by unfold upd;rw[if_pos rfl]
theorem g9{H:Hp}{a b:Addr}{o:HO}(h:b≠a):upd H a o b=H b:=by unfold upd;rw[if_neg h]
theorem V3{H:Hp}{a:Addr}{o u:HO}:upd (upd H a o) a u=upd H a u:=by
 funext b;unfold upd;split<;>rfl
theorem z9{H:Hp}{a b:Addr}{o:HO}(h:H a=some o)(h':H b=none):a≠b:=by
 intro e;subst e;rw[h]at h';cases h'
section
variable (P:Program) (w:World)
noncomputable def t6(H:Hp)(h:Heap)(a:Addr):HO→Prop
 | .lst xs=>xs.length≤sizeLine∧∃(its:List Value) (n:Nat),i6 xs its∧h.get? a=some { cls:=.type "list",data:=.seq its.toArray n }
 | .tup xs=>xs.length≤sizeLine∧∃ its:List Value,i6 xs its∧IsTup h a its.toArray
 | .dK kvs=>kvs.length≤sizeLine∧(a == sysModules)=false∧∃ vs,KV kvs vs∧h.DictOf (wy P w) a vs
 | .dT hs kvs=>kvs.length≤sizeLine∧(a == sysModules)=false∧∃ xs:List ((List Int × List Int) × Addr × Value),
   Paired (fun(p:(List Int × List Int) × Addr × V) (q:(List Int × List Int) × Addr × Value)=>p.1=q.1∧p.2.1=q.2.1∧m7 p.2.2 q.2.2) kvs xs ∧
   ∃ o es ep,h.get? a=some o∧o.ExactDict∧o.data = .dict es ep∧es.toList=xs.map (fun x=>(⟨hs x.1,.ref x.2.1,x.2.2⟩:DictEntry))∧(xs.map (·.1)).Nodup
 | .set S n=>h.SetOf (intKind P w) a S n
 | .ins C dx fs=>H dx=some (.own a)∧fs.length≤1000∧dx≠a∧h.get? a=some (PySem.W.instObj C dx) ∧
   ∃ mA,h.Ns1 dx mA∧(∀ f,Bx (fs.lookup f) (mA f))∧PySem.Within mA (fs.map (·.1))
 | .own _=>∃ o,h.get? a=some o
 | .xd fs=>∃ mA,h.Ns1 a mA∧∀ f,Bx (fs.lookup f) (mA f)
 | .rng lo hi=>∃ t u v,h.get? a=some { cls:=.type "range",data:=.fields #[.int lo t,.int hi u,.int 1 v] }
 | .frz o u=>h.get? a=some o∧t6 H h a u
 | .tbl ps=>h.get? a=some { cls:=.none,data:=.fields ps }
 | .met f x=>h.get? a=some (PySem.W.methodObj (.ref f) (.ref x))
 | .ext φ=>φ h∧(∃ o,h.get? a=some o)∧∀ h1 h2:Heap,φ h1→(∀ o,h1.get? a=some o→h2.get? a=some o)→φ h2
def HOk(H:Hp)(h:Heap):Prop:=∀ a o,H a=some o→t6 P w H h a o
end
section
variable {P:Program} {w:World} {H H':Hp} {h h':Heap} {a:Addr} {o:HO}
theorem t6.lt(x:t6 P w H h a o):a<h.objs.size:=by
 cases o with
 | lst xs=>obtain⟨_,_,_,_,e⟩:=x;exact Hv e
 | tup xs=>obtain⟨_,_,_,p⟩:=x;exact p.lt
 | dK kvs=>obtain⟨_,_,_,_,o,_,_,e,_⟩:=x;exact Hv e
 | dT hs kvs=>obtain⟨_,_,_,_,o,_,_,e,_⟩:=x;exact Hv e
 | set S n=>obtain⟨o,_,_,_,e,_⟩:=x;exact Hv e
 | ins C dx fs=>obtain⟨_,_,_,e,_⟩:=x;exact Hv e
 | own y=>obtain⟨_,e⟩:=x;exact Hv e
 | xd fs=>obtain⟨_,⟨_,_,_,e,_⟩,_⟩:=x;exact Hv e
 | rng lo hi=>obtain⟨_,_,_,e⟩:=x;exact Hv e
 | frz ob u=>obtain⟨e,_⟩:=x;exact Hv e
 | tbl ps=>exact Hv (show h.get? a=some _ from x)
 | met f y=>exact Hv (show h.get? a=some _ from x)
 | ext φ=>obtain⟨_,⟨_,e⟩,_⟩:=x;exact Hv e
theorem t6.stay(x:t6 P w H h a o)(k:∀ b u,(b=a∨H b=some (.own a))→h.get? b=some u→h'.get? b=some u)
  (ho:∀ b,H b=some (.own a)→H' b=some (.own a)) (ht:∀ b xs,H b=some (.tup xs)→H' b=some (.tup xs)):t6 P w H' h' a o:=by
 induction o with
 | lst xs=>obtain⟨z,its,n,r,e⟩:=x;exact⟨z,its,n,r,k _ _ (.inl rfl) e⟩
 | tup xs=>obtain⟨z,its,r,ob,e,c⟩:=x;exact⟨z,its,r,ob,k _ _ (.inl rfl) e,c⟩
 | dK kvs=>obtain⟨z,y,vs,r,ob,es,ep,e,c⟩:=x;exact⟨z,y,vs,r,ob,es,ep,k _ _ (.inl rfl) e,c⟩
 | dT hs kvs =>
  obtain⟨z,y,xs,r,ob,es,ep,e,c⟩:=x
  exact⟨z,y,xs,r,ob,es,ep,k _ _ (.inl rfl) e,c⟩
 | set S n=>obtain⟨ob,es,ep,t,e,c⟩:=x;exact⟨ob,es,ep,t,k _ _ (.inl rfl) e,c⟩
 | ins C dx fs =>
  obtain⟨d,z,ne,e,mA,⟨od,es,ep,e2,c⟩,r⟩:=x
  exact⟨ho _ d,z,ne,k _ _ (.inl rfl) e,mA,⟨od,es,ep,k _ _ (.inr d) e2,c⟩,r⟩
 | own y=>obtain⟨ob,e⟩:=x;exact⟨ob,k _ _ (.inl rfl) e⟩
 | xd fs=>obtain⟨mA,⟨od,es,ep,e,c⟩,r⟩:=x;exact⟨mA,⟨od,es,ep,k _ _ (.inl rfl) e,c⟩,r⟩
 | rng lo hi=>obtain⟨t,u,v,e⟩:=x;exact⟨t,u,v,k _ _ (.inl rfl) e⟩
 | frz ob u ih=>obtain⟨e,q⟩:=x;exact⟨k _ _ (.inl rfl) e,ih q⟩
 | tbl ps =>
  have e:h.get? a=some { cls:=.none,data:=.fields ps }:=x
  show h'.get? a=some { cls:=.none,data:=.fields ps }
  exact k a _ (.inl rfl) e
 | met f y =>
  have e:h.get? a=some (PySem.W.methodObj (.ref f) (.ref y)):=x
  show h'.get? a=some (PySem.W.methodObj (.ref f) (.ref y))
  exact k a _ (.inl rfl) e
 | ext φ=>obtain⟨p,⟨o,e⟩,st⟩:=x;exact⟨st _ _ p fun o q=>k _ _ (.inl rfl) q,⟨o,k _ _ (.inl rfl) e⟩,st⟩
theorem HOk.lt(x:HOk P w H h)(e:H a=some o):a<h.objs.size:=(x a o e).lt
theorem HOk.fresh(x:HOk P w H h)(e:h.objs.size≤a):H a=none:=by
 cases q:H a with
 | none=>rfl
 | some u=>exact absurd (Ho (x.lt q) e) (IG _)
theorem HOk.kept(x:HOk P w H h)(k:∀ b u,h.get? b=some u→h'.get? b=some u):HOk P w H h':=fun a o e =>
 (x a o e).stay (fun b u _ q=>k b u q) (fun _ q=>q) fun _ _ q=>q
theorem HOk.laid(x:HOk P w H h)(k:∀ b u,h.get? b=some u→h'.get? b=some u)(hp:h.objs.size≤a)(new:t6 P w (upd H a o) h' a o):HOk P w (upd H a o) h':=fun b u e=>by
 have hn:=x.fresh hp
 by_cases hb:b=a
 ·subst hb;rw[i4]at e;cases e;exact new
 ·rw[g9 hb]at e
  exact(x b u e).stay (fun c v _ q=>k c v q) (fun c q=>by rw[g9 (z9 q hn)];exact q) fun c xs q=>by rw[g9 (z9 q hn)];exact q
end
def Rd(H:Hp)(a:Addr)(u:HO):Prop:=H a=some u ∨ ∃ o,H a=some (.frz o u)
theorem Rd.of{H:Hp}{a:Addr}{u:HO}(h:H a=some u):Rd H a u:=.inl h
theorem Rd.ok{P:Program}{w:World}{H:Hp}{h:Heap}{a:Addr}{u:HO}(r:Rd H a u)(x:HOk P w H h):t6 P w H h a u:=by
 rcases r with r|⟨o,r⟩
 ·exact x a u r
 ·obtain⟨_,q⟩:=x a _ r
  exact q
noncomputable def Mut:Option HO→Prop
 | some (.lst _)=>True
 | some (.dK _)=>True
 | some (.dT _ _)=>True
 | some (.set _ _)=>True
 | some (.ins _ _ _)=>True
 | some (.ext _)=>True
 | _=>False
section
variable {P:Program} {w:World} {H:Hp} {h h':Heap} {x e:Addr} {o':HO}
theorem HOk.write(ok:HOk P w H h)(mu:Mut (H x))(he:e=x∨H e=some (.own x))(k:∀ b u,b≠e→h.get? b=some u→h'.get? b=some u)(heo:∃ u,h'.get? e=some u)
  (new:t6 P w (upd H x o') h' x o'):HOk P w (upd H x o') h':=fun b u q=>by
 have nown:∀ c y,H c=some (.own y)→c≠x:=fun c y r z=>by subst z;rw[r]at mu;exact mu
 have ntup:∀ c xs,H c=some (.tup xs)→c≠x:=fun c xs r z=>by subst z;rw[r]at mu;exact mu
 by_cases hb:b=x
 ·subst hb;rw[i4]at q;cases q;exact new
 ·rw[g9 hb]at q
  by_cases hbe:b=e
  ·have q':H b=some (.own x):=by
    rcases he with z|z
    ·exact absurd (hbe.trans z) hb
    ·rw[hbe];exact z
   rw[q]at q';cases q'
   obtain⟨v,hv⟩:=heo
   exact⟨v,by rw[hbe];exact hv⟩
  ·refine(ok b u q).stay (fun c v hc r=>k c v ?_ r) (fun c r=>by rw[g9 (nown c b r)];exact r) fun c xs r=>by rw[g9 (ntup c xs r)];exact r
   rcases hc with rfl|hc
   ·exact hbe
   ·rintro rfl
    rcases he with z|z
    ·exact nown c b hc z
    ·rw[hc]at z;cases z;exact hb rfl
end
structure Un(fs ex:List Addr)(H H':Hp)(h h':Heap):Prop where
 keep:∀ b o,h.get? b=some o→H b=none→b∉fs→b∉ex→h'.get? b=some o
 slot:∀ b o,h.get? b=some o→H b=none→b∈fs→b∉ex→∃ sl,h'.get? b=some { o with slots:=sl }
 free:∀ b o,h.get? b=some o→H b=none→b∉ex→H' b=none
 there:∀ b o,h.get? b=some o→b∉ex→∃ o',h'.get? b=some o'
 tups:∀ b xs,H b=some (.tup xs)→H' b=some (.tup xs)
 frzs:∀ b o u,H b=some (.frz o u)→H' b=some (.frz o u)
 tbls:∀ b ps,H b=some (.tbl ps)→∃ more,H' b=some (.tbl (ps++more))
section
variable {fs fs' ex ex':List Addr} {H H1 H2:Hp} {h h1 h2 h':Heap} {a x e:Addr} {o:HO}
theorem Un.any(u:Un fs ex H H1 h h1){b:Addr}{ob:Obj}(q:h.get? b=some ob)(n:H b=none)(hx:b∉ex):∃ sl,h1.get? b=some { ob with slots:=sl }:=by
 by_cases hb:b∈fs
 ·exact u.slot b ob q n hb hx
 ·exact⟨ob.slots,u.keep b ob q n hb hx⟩
theorem Un.trans(a:Un fs ex H H1 h h1)(b:Un fs ex H1 H2 h1 h2):Un fs ex H H2 h h2 where
 keep:=fun c ob q n hc hx=>b.keep c ob (a.keep c ob q n hc hx) (a.free c ob q n hx) hc hx
 slot:=fun c ob q n hc hx=>by
  obtain⟨sl,e1⟩:=a.slot c ob q n hc hx
  obtain⟨sl',e2⟩:=b.slot c _ e1 (a.free c ob q n hx) hc hx
  exact⟨sl',e2⟩
 free:=fun c ob q n hx=>by
  obtain⟨o',e1⟩:=a.there c ob q hx
  exact b.free c o' e1 (a.free c ob q n hx) hx
 there:=fun c ob q hx=>by
  obtain⟨o',e1⟩:=a.there c ob q hx
  exact b.there c o' e1 hx
 tups:=fun c xs q=>b.tups c xs (a.tups c xs q)
 frzs:=fun c ob xs q=>b.frzs c ob xs (a.frzs c ob xs q)
 tbls:=fun c ps q=>by
  obtain⟨m1,e1⟩:=a.tbls c ps q
  obtain⟨m2,e2⟩:=b.tbls c _ e1
  exact⟨m1++m2,by rw[e2,Array.append_assoc]⟩
theorem Un.kept(k:∀ b u,h.get? b=some u→h'.get? b=some u):Un fs ex H H h h' :=
 ⟨fun b ob q _ _ _=>k b ob q,fun b ob q _ _ _=>⟨ob.slots,k b ob q⟩,fun _ _ _ n _=>n,fun b ob q _=>⟨ob,k b ob q⟩,fun _ _ q=>q,fun _ _ _ q=>q,fun _ ps q=>⟨#[],by rw[q];simp⟩⟩
theorem Un.refl:Un fs ex H H h h:=Un.kept fun _ _ q=>q
theorem Un.laid(k:∀ b u,h.get? b=some u→h'.get? b=some u)(hp:h.objs.size≤a)(hn:H a=none):Un fs ex H (upd H a o) h h' where
 keep:=fun b u q _ _ _=>k b u q
 slot:=fun b u q _ _ _=>⟨u.slots,k b u q⟩
 free:=fun b u q n _=>by rw[g9 (HQ (Ho (Hv q) hp))];exact n
 there:=fun b u q _=>⟨u,k b u q⟩
 tups:=fun b xs q=>by rw[g9 (z9 q hn)];exact q
 frzs:=fun b u xs q=>by rw[g9 (z9 q hn)];exact q
 tbls:=fun b ps q=>⟨#[],by rw[g9 (z9 q hn),q];simp⟩
theorem Un.write(mu:Mut (H x))(he:e=x∨H e=some (.own x))(k:∀ b u,b≠e→h.get? b=some u→h'.get? b=some u)(heo:∃ u,h'.get? e=some u):Un fs ex H (upd H x o) h h':=by
 have hx:∀ b,H b=none→b≠x:=fun b n z=>by subst z;rw[n]at mu;exact mu
 have hb:∀ b,H b=none→b≠e:=fun b n z=>by
  subst z
  rcases he with r|r
  ·exact hx b n r
  ·rw[n]at r;cases r
 have hm:∀ b u,H b=some u→¬ Mut (some u)→b≠x:=fun b u q nm z=>by subst z;rw[q]at mu;exact nm mu
 refine⟨fun b u q n _ _=>k b u (hb b n) q,fun b u q n _ _=>⟨u.slots,k b u (hb b n) q⟩,fun b u q n _=>by rw[g9 (hx b n)];exact n,fun b u q _=>?_,
  fun b xs q=>by rw[g9 (hm b _ q fun z=>z)];exact q,fun b u xs q=>by rw[g9 (hm b _ q fun z=>z)];exact q,fun b ps q=>⟨#[],by rw[g9 (hm b _ q fun z=>z),q];simp⟩⟩
 by_cases hbe:b=e
 ·subst hbe;exact heo
 ·exact⟨u,k b u hbe q⟩
theorem Un.mono(u:Un fs ex H H1 h h1)(hs:∀ b∈fs,b∈fs')(hx:∀ b∈ex,b∈ex'):Un fs' ex' H H1 h h1 :=
 ⟨fun b ob q n hb he=>u.keep b ob q n (fun z=>hb (hs b z)) fun z=>he (hx b z),fun _ _ q n _ he=>u.any q n fun z=>he (hx _ z),fun b ob q n he=>u.free b ob q n fun z=>he (hx b z),fun b ob q he=>u.there b ob q fun z=>he (hx b z),u.tups,u.frzs,u.tbls⟩
end
noncomputable def trk(h:Heap)(H:Hp):List Addr:=(Ih h.objs.size).filter fun a=>(H a).isSome
noncomputable def gq(h:Heap)(H:Hp):Heap:=PySem.W.hideAll h (trk h H)
theorem oM(h:Heap)(H:Hp):(gq h H).objs.size=h.objs.size:=PySem.W.hideAll_size _ _
theorem sR{h:Heap}{H:Hp}{b:Addr}{o:Obj}(e:h.get? b=some o)(n:H b=none):(gq h H).get? b=some o :=
 PySem.W.hideAll_get _ e fun hm=>by
  have q:(H b).isSome=true:=(Lu.mp hm).2
  rw[n]at q;simp at q
theorem wt{h:Heap}{H:Hp}{b:Addr}{o:Obj}(e:(gq h H).get? b=some o):h.get? b=some o∧H b=none:=by
 have e':h.get? b=some o:=PySem.W.of_hideAll (trk h H) e
 refine⟨e',?_⟩
 cases q:H b with
 | none=>rfl
 | some x =>
  have hm:b∈trk h H:=Lu.mpr ⟨Jl.mpr (Hv e'),by simp[q]⟩
  have z:(gq h H).get? b=none:=PySem.W.hideAll_none (trk h H) hm
  rw[z]at e;cases e
noncomputable def xm(g h:Heap)(L:Addr):List (Addr × Obj):=(Ih h.objs.size).filterMap fun a=>if a=L∨(g.get? a).isSome=true then none else(h.get? a).map fun o=>(a,o)
noncomputable def B0(g h:Heap)(L d:Addr):List (Addr × Obj):=(xm g h L).filter fun p=>decide (p.1≠d)
structure Mod(K:Hi)(mg:Str→Option Value)(base:Heap):Prop where
 kin:K.In base
 glob:base.Ns mainGlobals mg
 blt:∃ mb,base.Ns builtinsNs mb∧∀ x:Str,x ≠ "__name__" → mb x=bootBuiltins x
 nolimit:base.NoLimit
structure Cx where
 prog:Program
 w:World
 K:Hi
 mg:Str→Option Value
 base:Heap
 A:Around
 N:List Str
 s₀:Shared
 H₀:Hp
 env:Env
 outer:List Env
 stack:List Env
 ex:List Addr
 fn:Str→Bool
 calm:Bool
 pn:List (Addr × Obj)
 xe:Value→Shared→Prop
noncomputable def frs(l:List Env):List Addr:=l.filterMap (·.frame)
noncomputable abbrev Cx.fs(X:Cx):List Addr:=frs X.outer
def Vis(sc:Scope)(x:Str):Prop:=sc.names.lookup x=some .local∨sc.names.lookup x=some .cell∨sc.names.lookup x=some .free
def Loc(sc:Scope)(x:Str):Prop:=sc.names.lookup x=some .local∨sc.names.lookup x=some .cell
def Fh(env:Env)(h:Heap)(m:Str→Option Value)(x:Str)(u:Value):Prop :=
 (env.kindOf x=some .local∧m x=some u)∨((env.kindOf x=some .cell∨env.kindOf x=some .free)∧∃ c,env.cells.lookup x=some c∧h.IsCell c (some u))
structure Cx.Ok(X:Cx):Prop where
 mod:Mod X.K X.mg X.base
 kind:X.env.scope.kind = .function
 glob:X.env.globals=mainGlobals
 blt:X.env.builtins=builtinsNs
 above:X.s₀.heap.objs.size≤X.env.locals
 inj:∀ x y c,X.env.cells.lookup x=some c→X.env.cells.lookup y=some c→x=y
 has:∀ x,(X.env.kindOf x=some .cell∨X.env.kindOf x=some .free)→∃ c,X.env.cells.lookup x=some c
 cab:∀ x c,X.fn x=true→X.env.cells.lookup x=some c→X.s₀.heap.objs.size≤c
 hd:X.calm=true→X.A.handled=none
 frames:X.A.frames=some X.stack
 stk:X.stack=X.outer∨(X.stack=X.env :: X.outer∧X.env.frame=some X.env.locals)
 exf:∀ b∈X.ex,b≠X.env.locals∧∀ x c,X.env.cells.lookup x=some c→c≠b
 bs:∀ b o,X.base.get? b=some o→X.s₀.heap.get? b=some o∧X.H₀ b=none
 bsz:X.base.objs.size≤X.s₀.heap.objs.size
 noex:∀ b o,X.base.get? b=some o→b∉X.ex
 exfs:∀ b∈X.ex,b∉X.fs
 funs:X.s₀.heap.FunFrames X.base X.outer
 frf:∀ b∈X.fs,X.H₀ b=none
structure Inv(X:Cx)(pins:List (Addr × Obj))(σ:List (Option V))(H:Hp)(s:Shared):Prop where
 ok:X.Ok
 os:s.os=X.s₀.os
 bare:AllBare s.gens
 base:Un X.fs X.ex X.H₀ H X.s₀.heap s.heap
 loc:∃ m,s.heap.Ns X.env.locals m∧∀(i:Nat) (x:Str) (v:V),X.N[i]? = some x→σ[i]? = some (some v)→Vis X.env.scope x→∃ u,m7 v u∧Fh X.env s.heap m x u
 cell:∀ x c,X.env.cells.lookup x=some c→∃ v,s.heap.IsCell c v
 free:H X.env.locals=none
 freeC:∀ x c,X.env.cells.lookup x=some c→H c=none
 pin:∀ p∈X.pn++pins,s.heap.get? p.1=some p.2∧H p.1=none∧p.1≠X.env.locals∧p.1∉X.fs∧∀ v,p.2.data ≠ .cell v
 hok:HOk X.prog X.w H s.heap
 len:σ.length=X.N.length
section
variable {X:Cx} {pins:List (Addr × Obj)} {σ:List (Option V)} {H H':Hp} {s:Shared} {h':Heap}
theorem Cx.Ok.nofr(ok:X.Ok){b:Addr}{o:Obj}(e:X.base.get? b=some o):b∉X.fs:=fun hb=>by
 have:=(ok.funs.mem hb).1
 rw[e]at this;cases this
theorem Inv.bs(I:Inv X pins σ H s):∀ b o,X.base.get? b=some o→s.heap.get? b=some o∧H b=none:=fun b o e =>
 ⟨I.base.keep b o (I.ok.bs b o e).1 (I.ok.bs b o e).2 (I.ok.nofr e) (I.ok.noex b o e),I.base.free b o (I.ok.bs b o e).1 (I.ok.bs b o e).2 (I.ok.noex b o e)⟩
theorem Inv.bk(I:Inv X pins σ H s):∀ b o,X.base.get? b=some o→s.heap.get? b=some o:=fun b o e=>(I.bs b o e).1
theorem Inv.mod(I:Inv X pins σ H s):Mod X.K X.mg X.base:=I.ok.mod
theorem Inv.kIn(I:Inv X pins σ H s):X.K.In s.heap:=I.ok.mod.kin.keeps I.bk
theorem Inv.nolimit(I:Inv X pins σ H s):s.heap.NoLimit:=I.ok.mod.nolimit.keeps I.bk
theorem Inv.lt(I:Inv X pins σ H s):X.env.locals<s.heap.objs.size:=let ⟨_,hn,_⟩:=I.loc;hn.lt
theorem Inv.sz(I:Inv X pins σ H s):X.s₀.heap.objs.size≤s.heap.objs.size:=Hx I.ok.above (Jn I.lt)
theorem Inv.nofs(I:Inv X pins σ H s){a:Addr}(h:s.heap.objs.size≤a):a∉X.fs:=fun hb=>by
 obtain⟨_,o,ho,_⟩:=I.ok.funs.mem hb
 exact absurd (Ho (Hv ho) (Hx I.sz h)) (IG _)
theorem Inv.cne(I:Inv X pins σ H s):∀ x c,X.env.cells.lookup x=some c→c≠X.env.locals:=fun x c e z=>by
 obtain⟨v,o,ho,hd⟩:=I.cell x c e
 obtain⟨m,⟨o',es,ep,ho',hd',_⟩,_⟩:=I.loc
 rw[z,ho']at ho;cases ho;rw[hd']at hd;cases hd
theorem Inv.funs(I:Inv X pins σ H s):s.heap.FunFrames X.base X.outer:=by
 have all:∀(l:List Env),(∀ b∈frs l,b∈X.fs)→X.s₀.heap.FunFrames X.base l→s.heap.FunFrames X.base l:=by
  intro l
  induction l with
  | nil=>intro _ _;trivial
  | cons env r ih =>
   intro hs hl
   obtain⟨hk,⟨L,o,hf,hn,ho,hd⟩,hr⟩:=hl
   have hL:L∈X.fs:=hs L (by unfold frs;rw[JC,hf];exact Hq)
   obtain⟨sl,e⟩:=I.base.slot L o ho (I.ok.frf L hL) hL fun z=>I.ok.exfs L z hL
   exact⟨hk,⟨L,_,hf,hn,e,hd⟩,ih (fun b hb=>hs b (by unfold frs;rw[JC,hf];exact Hl _ hb)) hr⟩
 exact all X.outer (fun _ hb=>hb) I.ok.funs
theorem Inv.stack(I:Inv X pins σ H s):s.heap.FunFrames X.base X.stack:=by
 rcases I.ok.stk with e|⟨e,hf⟩
 ·rw[e];exact I.funs
 ·rw[e]
  obtain⟨m,hn,_⟩:=I.loc
  refine .cons (by rw[I.ok.kind];decide) hf hn ?_ I.funs
  exact Heap.get?_none_of_le (Hx I.ok.bsz I.ok.above)
theorem Inv.stkSub(I:Inv X pins σ H s):∀ b∈frs X.stack,b∈X.env.locals :: X.fs:=fun b hb=>by
 rcases I.ok.stk with e|⟨e,hf⟩
 ·rw[e]at hb;exact Hl _ hb
 ·rw[e]at hb
  unfold frs at hb
  rw[JC,hf]at hb
  exact hb
theorem Inv.stkFree(I:Inv X pins σ H s):∀ b∈frs X.stack,H b=none:=fun b hb=>by
 rcases Hr.mp (I.stkSub b hb)with e|hb
 ·rw[e];exact I.free
 ·obtain⟨_,o,ho,_⟩:=I.ok.funs.mem hb
  exact I.base.free b o ho (I.ok.frf b hb) fun z=>I.ok.exfs b z hb
theorem Inv.step{g':Array GenState}{t':Nat}{d':Drawn}{ch:List Addr}(I:Inv X pins σ H s)
  (hch:∀ b∈ch,(b∈X.ex∨X.s₀.heap.objs.size≤b)∧b≠X.env.locals∧(∀ x c,X.env.cells.lookup x=some c→c≠b)∧∀ p∈X.pn++pins,p.1≠b)
  (keep:∀ b o,b≠X.env.locals→b∉X.fs→b∉ch→s.heap.get? b=some o→H b=none→h'.get? b=some o)
  (slot:∀ b o,b≠X.env.locals→b∈X.fs→b∉ch→s.heap.get? b=some o→H b=none→∃ sl,h'.get? b=some { o with slots:=sl }) (free:∀ b o,b∉ch→s.heap.get? b=some o→H b=none→H' b=none)
  (there:∀ b o,b∉ch→s.heap.get? b=some o→∃ o',h'.get? b=some o')
  (tups:∀ b xs,H b=some (.tup xs)→H' b=some (.tup xs)) (frzs:∀ b o u,H b=some (.frz o u)→H' b=some (.frz o u)) (tbls:∀ b ps,H b=some (.tbl ps)→∃ more,H' b=some (.tbl (ps++more)))
  (ns:∀ m,s.heap.Ns X.env.locals m→h'.Ns X.env.locals m) (hok:HOk X.prog X.w H' h') (hg:AllBare g') :
  Inv X pins σ H' { s with heap:=h',gens:=g',drawn:=d',toks:=t' }:=by
 have neL:∀ b o,X.s₀.heap.get? b=some o→b≠X.env.locals:=fun b o e=>HQ (Ho (Hv e) I.ok.above)
 have neC:∀ b o,X.s₀.heap.get? b=some o→b∉X.ex→b∉ch:=fun b o e hx hb=>by
  rcases(hch b hb).1 with z|z
  ·exact hx z
  ·exact absurd (Ho (Hv e) z) (IG _)
 have cellK:∀ x c,X.env.cells.lookup x=some c→∀ v,s.heap.IsCell c v→h'.IsCell c v:=fun x c e v zz=>by
  obtain⟨o,ho,hd⟩:=zz
  have nch:c∉ch:=fun z=>(hch c z).2.2.1 x c e rfl
  by_cases hc:c∈X.fs
  ·obtain⟨sl,q⟩:=slot c o (I.cne x c e) hc nch ho (I.freeC x c e)
   exact⟨_,q,hd⟩
  ·exact⟨o,keep c o (I.cne x c e) hc nch ho (I.freeC x c e),hd⟩
 refine⟨I.ok,I.os,hg,⟨fun b o e n hb hx=>?_,fun b o e n hb hx=>?_,fun b o e n hx=>?_,fun b o e hx=>?_,fun b xs e=>tups b xs (I.base.tups b xs e),fun b o xs e=>frzs b o xs (I.base.frzs b o xs e),fun b ps e=>?_⟩,?_,fun x c e=>?_,?_,fun x c e=>?_,fun p hp=>?_,hok,I.len⟩
 ·exact keep b o (neL b o e) hb (neC b o e hx) (I.base.keep b o e n hb hx) (I.base.free b o e n hx)
 ·obtain⟨sl,e1⟩:=I.base.slot b o e n hb hx
  obtain⟨sl',e2⟩:=slot b _ (neL b o e) hb (neC b o e hx) e1 (I.base.free b o e n hx)
  exact⟨sl',e2⟩
 ·obtain⟨o',e1⟩:=I.base.there b o e hx
  exact free b o' (neC b o e hx) e1 (I.base.free b o e n hx)
 ·obtain⟨o',e1⟩:=I.base.there b o e hx
  exact there b o' (neC b o e hx) e1
 ·obtain⟨m1,e1⟩:=I.base.tbls b ps e
  obtain⟨m2,e2⟩:=tbls b _ e1
  exact⟨m1++m2,by rw[e2,Array.append_assoc]⟩
 ·obtain⟨m,hn,hl⟩:=I.loc
  refine⟨m,ns m hn,fun i x v e1 e2 e3=>?_⟩
  obtain⟨u,r,l⟩:=hl i x v e1 e2 e3
  refine⟨u,r,?_⟩
  rcases l with l|⟨k,c,e,z⟩
  ·exact .inl l
  ·exact .inr ⟨k,c,e,cellK x c e _ z⟩
 ·obtain⟨v,z⟩:=I.cell x c e
  exact⟨v,cellK x c e v z⟩
 ·obtain⟨m,⟨o,_,_,ho,_⟩,_⟩:=I.loc
  exact free _ o (fun z=>(hch _ z).2.1 rfl) ho I.free
 ·obtain⟨v,o,ho,hd⟩:=I.cell x c e
  exact free c o (fun z=>(hch c z).2.2.1 x c e rfl) ho (I.freeC x c e)
 ·obtain⟨e,n,ne,nf,d⟩:=I.pin p hp
  have nch:p.1∉ch:=fun z=>(hch p.1 z).2.2.2 p hp rfl
  exact⟨keep p.1 p.2 ne nf nch e n,free p.1 p.2 nch e n,ne,nf,d⟩
theorem Inv.un{t':Nat}(I:Inv X pins σ H s)(u:Un X.fs [] H H' s.heap h')(hok:HOk X.prog X.w H' h'):Inv X pins σ H' { s with heap:=h',toks:=t' }:=by
 obtain⟨m,⟨o,es,ep,ho,r⟩,_⟩:=id I.loc
 obtain⟨sl,hL⟩:=u.any ho I.free (by simp)
 exact I.step (g':=s.gens) (d':=s.drawn) (ch:=[]) (fun _ z=>nomatch z) (fun b o _ hb _ e n=>u.keep b o e n hb (by simp)) (fun b o _ hb _ e n=>u.slot b o e n hb (by simp)) (fun b o _ e n=>u.free b o e n (by simp)) (fun b o _ e=>u.there b o e (by simp)) u.tups u.frzs u.tbls (fun m' hm=>by
  obtain⟨o',es',ep',ho',r'⟩:=hm
  rw[ho]at ho';cases ho'
  exact⟨_,es',ep',hL,r'⟩) hok I.bare
theorem Inv.call{g':Array GenState}{t':Nat}{d':Drawn}{ch:List Addr}(I:Inv X pins σ H s)(u:Un (frs X.stack) ch H H' s.heap h')(hok:HOk X.prog X.w H' h')(hg:AllBare g')
  (hch:∀ b∈ch,(b∈X.ex∨X.s₀.heap.objs.size≤b)∧b≠X.env.locals∧(∀ x c,X.env.cells.lookup x=some c→c≠b)∧∀ p∈X.pn++pins,p.1≠b) :
  Inv X pins σ H' { s with heap:=h',gens:=g',drawn:=d',toks:=t' }:=by
 obtain⟨m,⟨o,es,ep,ho,r⟩,_⟩:=id I.loc
 obtain⟨sl,hL⟩:=u.any ho I.free fun z=>(hch _ z).2.1 rfl
 exact I.step (ch:=ch) hch (fun b o hL hb hc e n=>u.keep b o e n (fun z=>(Hr.mp (I.stkSub b z)).elim hL hb) hc) (fun b o _ _ hc e n=>u.any e n hc) (fun b o hc e n=>u.free b o e n hc) (fun b o hc e=>u.there b o e hc) u.tups u.frzs u.tbls (fun m' hm=>by
  obtain⟨o',es',ep',ho',r'⟩:=hm
  rw[ho]at ho';cases ho'
  exact⟨_,es',ep',hL,r'⟩) hok hg
theorem Inv.turned{t':Nat}{it:Addr}(I:Inv X pins σ H s)(k:∀ b o,b≠it→s.heap.get? b=some o→h'.get? b=some o)(hn:H it=none)(hL:it≠X.env.locals)
  (h1:it∈X.ex∨X.s₀.heap.objs.size≤it) (h2:∀ x c,X.env.cells.lookup x=some c→c≠it) (h3:∀ p∈X.pn++pins,p.1≠it):Inv X pins σ H { s with heap:=h',toks:=t' }:=by
 have nit:∀ b u,H b=some u→b≠it:=fun b u e z=>by rw[z,hn]at e;cases e
 refine I.step (g':=s.gens) (d':=s.drawn) (ch:=[it]) (fun b hb=>?_) (fun b o _ _ hc e _=>k b o (fun z=>hc (by simp[z])) e) (fun b o _ _ hc e _=>⟨o.slots,k b o (fun z=>hc (by simp[z])) e⟩) (fun _ _ _ _ n=>n)
  (fun b o hc e=>⟨o,k b o (fun z=>hc (by simp[z])) e⟩) (fun _ _ e=>e) (fun _ _ _ e=>e) (fun b ps e=>⟨#[],by rw[e];simp⟩) (fun m hm=>?_) (fun b u e=>?_) I.bare
 ·have e:b=it:=by simpa using hb
  subst e
  exact⟨h1,hL,h2,h3⟩
 ·obtain⟨o,es,ep,ho,r⟩:=hm
  exact⟨o,es,ep,k _ o (Ne.symm hL) ho,r⟩
 ·refine(I.hok b u e).stay (fun c v hc q=>k c v ?_ q) (fun _ q=>q) fun _ _ q=>q
  rcases hc with z|z
  ·rw[z];exact nit b u e
  ·exact nit c _ z
theorem Inv.tok(I:Inv X pins σ H s)(t:Nat):Inv X pins σ H { s with toks:=t }:=I.un (h':=s.heap) (t':=t) Un.refl I.hok
theorem Inv.kept{t':Nat}(I:Inv X pins σ H s)(k:∀ b u,s.heap.get? b=some u→h'.get? b=some u):Inv X pins σ H { s with heap:=h',toks:=t' }:=I.un (Un.kept k) (I.hok.kept k)
theorem Inv.laid{a:Addr}{o:HO}{t':Nat}(I:Inv X pins σ H s)(k:∀ b u,s.heap.get? b=some u→h'.get? b=some u)(hp:s.heap.objs.size≤a)(new:t6 X.prog X.w (upd H a o) h' a o) :
  Inv X pins σ (upd H a o) { s with heap:=h',toks:=t' }:=I.un (Un.laid k hp (I.hok.fresh hp)) (I.hok.laid k hp new)
theorem Inv.write{x e:Addr}{o:HO}{t':Nat}(I:Inv X pins σ H s)(mu:Mut (H x))(he:e=x∨H e=some (.own x))(k:∀ b u,b≠e→s.heap.get? b=some u→h'.get? b=some u)(heo:∃ u,h'.get? e=some u)
  (new:t6 X.prog X.w (upd H x o) h' x o):Inv X pins σ (upd H x o) { s with heap:=h',toks:=t' }:=I.un (Un.write mu he k heo) (I.hok.write mu he k heo new)
theorem Inv.pins_of{pins':List (Addr × Obj)}(I:Inv X pins σ H s)(h:∀ p∈pins',s.heap.get? p.1=some p.2∧H p.1=none∧p.1≠X.env.locals∧p.1∉X.fs∧∀ v,p.2.data ≠ .cell v):Inv X pins' σ H s :=
 ⟨I.ok,I.os,I.bare,I.base,I.loc,I.cell,I.free,I.freeC,fun p hp=>(HH.mp hp).elim (fun z=>I.pin p (Iq _ z)) (h p),I.hok,I.len⟩
theorem jw{N:List Str}(hN:N.Nodup){i j:Nat}{x:Str}(a:N[i]? = some x)(b:N[j]? = some x):i=j:=by
 obtain⟨h1,e1⟩:=HN.mp a
 obtain⟨h2,e2⟩:=HN.mp b
 exact(List.getElem_inj hN).mp (e1.trans e2.symm)
theorem dU{M:Model}{A:Around}{E:Value→Shared→Prop}{i:Nat}{x:Str}{v:V}{u:Value}{Q:Unit→Shared→Prop}(I:Inv X pins σ H s)(hN:X.N.Nodup)(hi:X.N[i]? = some x)(hx:Loc X.env.scope x)(r:m7 v u)
  (h:∀ s',Inv X pins (σ.set i (some v)) H s'→(∃ a,Heap.SameBut a s.heap s'.heap∧(a=X.env.locals∨X.env.cells.lookup x=some a))→Q () s') (hf:X.fn x=true∨X.env.scope.names.lookup x=some .local:=by first|exact .inl rfl|exact .inr rfl|assumption):wpAny M A (storeName X.env x u) Q E s:=by
 obtain⟨m,hn,hl⟩:=id I.loc
 have hcls:(X.env.scope.kind == .class || (X.env.scope.kind == .module && X.env.locals != X.env.globals))=false:=by rw[I.ok.kind];rfl
 have hiσ:i<σ.length:=by rw[I.len];exact(HN.mp hi).1
 have cne:=I.cne
 have tracked:∀{a:Addr} {h':Heap},(∃ o,s.heap.get? a=some o∧H a=none)→Heap.SameBut a s.heap h'→HOk X.prog X.w H h':=fun{a h'} ha hs b ob e=>by
  obtain⟨_,_,hfree⟩:=ha
  refine(I.hok b ob e).stay (fun c w' hc q=>(hs.2 c ?_).trans q) (fun _ q=>q) fun _ _ q=>q
  rintro rfl
  rcases hc with rfl|hc
  ·rw[hfree]at e;cases e
  ·rw[hfree]at hc;cases hc
 rcases hx with hk|hk
 ·refine wpAny_storeName_local hk hn (fun h' hn' hs=>?_) hcls
  obtain⟨oL,_,_,hoL,_⟩:=id hn
  refine h _ ⟨I.ok,I.os,I.bare,⟨fun b o e n hb hx=>?_,fun b o e n hb hx=>?_,I.base.free,fun b o e hx=>?_,I.base.tups,I.base.frzs,I.base.tbls⟩,⟨_,hn',fun j y v' e1 e2 e3=>?_⟩,fun y c e=>?_,I.free,I.freeC,fun p hp=>?_,tracked ⟨oL,hoL,I.free⟩ hs,by simpa using I.len⟩ ⟨_,hs,.inl rfl⟩
  ·exact(hs.2 b (HQ (Ho (Hv e) I.ok.above))).trans (I.base.keep b o e n hb hx)
  ·obtain⟨sl,e1⟩:=I.base.slot b o e n hb hx
   exact⟨sl,(hs.2 b (HQ (Ho (Hv e) I.ok.above))).trans e1⟩
  ·obtain⟨o',e1⟩:=I.base.there b o e hx
   exact⟨o',(hs.2 b (HQ (Ho (Hv e) I.ok.above))).trans e1⟩
  ·by_cases hj:j=i
   ·subst hj
    rw[hi]at e1;cases e1
    rw[Kl hiσ]at e2
    cases e2
    exact⟨u,r,.inl ⟨hk,by simp⟩⟩
   ·rw[KA (Ne.symm hj)]at e2
    obtain⟨u',r',q⟩:=hl j y v' e1 e2 e3
    refine⟨u',r',?_⟩
    rcases q with⟨k,e⟩|⟨k,c,e,z⟩
    ·refine .inl ⟨k,?_⟩
     have:y≠x:=fun e=>hj (jw hN e1 (e▸hi))
     simp[this,e]
    ·exact .inr ⟨k,c,e,z.sameBut hs (cne y c e)⟩
  ·obtain⟨w',z⟩:=I.cell y c e
   exact⟨w',z.sameBut hs (cne y c e)⟩
  ·obtain⟨e,n,ne,nf,d⟩:=I.pin p hp
   exact⟨(hs.2 p.1 ne).trans e,n,ne,nf,d⟩
 ·have hfn:X.fn x=true:=by
   rcases hf with z|z
   ·exact z
   ·rw[z]at hk;cases hk
  obtain⟨c,hc⟩:=I.ok.has x (.inl hk)
  obtain⟨w',z⟩:=I.cell x c hc
  refine wpAny_storeName_cell I.ok.kind hk hc z (fun h' hc' hs=>?_)
  obtain⟨oc,hoc,hocd⟩:=id z
  refine h { s with heap:=h' } ⟨I.ok,I.os,I.bare,⟨fun b o e n hb hx=>?_,fun b o e n hb hx=>?_,I.base.free,fun b o e hx=>?_,I.base.tups,I.base.frzs,I.base.tbls⟩,⟨m,hn.sameBut hs (Ne.symm (cne x c hc)),fun j y v' e1 e2 e3=>?_⟩,fun y c' e=>?_,I.free,I.freeC,fun p hp=>?_,tracked ⟨oc,hoc,I.freeC x c hc⟩ hs,by simpa using I.len⟩ ⟨c,hs,.inr hc⟩
  ·exact(hs.2 b (HQ (Ho (Hv e) (I.ok.cab x c hfn hc)))).trans (I.base.keep b o e n hb hx)
  ·obtain⟨sl,e1⟩:=I.base.slot b o e n hb hx
   exact⟨sl,(hs.2 b (HQ (Ho (Hv e) (I.ok.cab x c hfn hc)))).trans e1⟩
  ·obtain⟨o',e1⟩:=I.base.there b o e hx
   exact⟨o',(hs.2 b (HQ (Ho (Hv e) (I.ok.cab x c hfn hc)))).trans e1⟩
  ·by_cases hj:j=i
   ·subst hj
    rw[hi]at e1;cases e1
    rw[Kl hiσ]at e2
    cases e2
    exact⟨u,r,.inr ⟨.inl hk,c,hc,hc'⟩⟩
   ·rw[KA (Ne.symm hj)]at e2
    obtain⟨u',r',q⟩:=hl j y v' e1 e2 e3
    refine⟨u',r',?_⟩
    rcases q with q|⟨k,c',e,z'⟩
    ·exact .inl q
    ·refine .inr ⟨k,c',e,z'.sameBut hs ?_⟩
     rintro rfl
     exact hj (jw hN e1 (I.ok.inj _ _ _ e hc▸hi))
  ·by_cases hcc:c'=c
   ·subst hcc;exact⟨_,hc'⟩
   ·obtain⟨w2,z2⟩:=I.cell y c' e
    exact⟨w2,z2.sameBut hs hcc⟩
  ·obtain⟨e,n,ne,nf,d⟩:=I.pin p hp
   refine⟨(hs.2 p.1 ?_).trans e,n,ne,nf,d⟩
   intro q
   rw[q,hoc]at e
   have q':oc=p.2:=Option.some.inj e
   exact d w' (by rw[← q'];exact hocd)
theorem V4{M:Model}{A:Around}{E:Value→Shared→Prop}{i:Nat}{x:Str}{v:V}{u:Value}{Q:Unit→Shared→Prop}(I:Inv X pins σ H s)(hN:X.N.Nodup)(hi:X.N[i]? = some x)(hx:Loc X.env.scope x)(r:m7 v u)
  (h:∀ s',Inv X pins (σ.set i (some v)) H s'→Q () s') (hf:X.fn x=true∨X.env.scope.names.lookup x=some .local:=by first|exact .inl rfl|exact .inr rfl|assumption):wpAny M A (storeName X.env x u) Q E s :=
 dU I hN hi hx r (fun s' I' _=>h s' I') hf
theorem Inv.call'{s':Shared}{ch:List Addr}(I:Inv X pins σ H s)(ho:s'.os=s.os)(u:Un (frs X.stack) ch H H' s.heap s'.heap)(hok:HOk X.prog X.w H' s'.heap)(hg:AllBare s'.gens)
  (hch:∀ b∈ch,(b∈X.ex∨X.s₀.heap.objs.size≤b)∧b≠X.env.locals∧(∀ x c,X.env.cells.lookup x=some c→c≠b)∧∀ p∈X.pn++pins,p.1≠b):Inv X pins σ H' s':=by
 obtain⟨h',g',d',t',o'⟩:=s'
 have e:o'=s.os:=ho
 subst e
 exact I.call (g':=g') (t':=t') (d':=d') u hok hg hch
end
noncomputable abbrev XK:=Value→Option Addr→Hp→Prop
noncomputable abbrev St:=List (Option V)
noncomputable abbrev VK:=V→Hp→Prop
noncomputable abbrev TE:=St→Hp→VK→Prop
noncomputable abbrev TT:=St→Hp→(Bool→Hp→Prop)→Prop
noncomputable abbrev TA:=St→Hp→(List V→Hp→Prop)→Prop
structure kc where
 nx:St→Hp→Prop
 rt:VK
 bk:St→Hp→Prop:=fun _ _=>False
 ct:St→Hp→Prop:=fun _ _=>False
noncomputable abbrev TS:=kc→St→Hp→Prop
def EP(X:Cx)(pins:List (Addr × Obj))(σ:St)(Q:VK)(u:Value)(s':Shared):Prop:=∃ v H',Inv X pins σ H' s'∧m7 v u∧Q v H'
def TP(X:Cx)(pins:List (Addr × Obj))(σ:St)(Q:Bool→Hp→Prop)(b:Bool)(s':Shared):Prop:=∃ H',Inv X pins σ H' s'∧Q b H'
def AP(X:Cx)(pins:List (Addr × Obj))(σ:St)(Q:List V→Hp→Prop)(us:List Value)(s':Shared):Prop:=∃ vs H',Inv X pins σ H' s'∧i6 vs us∧Q vs H'
def SP(X:Cx)(pins:List (Addr × Obj))(D:kc)(f:Flow)(s':Shared):Prop :=
 match f with
 | .next=>∃ σ' H',Inv X pins σ' H' s'∧D.nx σ' H'
 | .brk=>∃ σ' H',Inv X pins σ' H' s'∧D.bk σ' H'
 | .cont=>∃ σ' H',Inv X pins σ' H' s'∧D.ct σ' H'
 | .ret u=>∃ v σ' H',Inv X pins σ' H' s'∧m7 v u∧D.rt v H'
def PE(X:Cx)(e:Expr)(t:TE):Prop :=
 ∀(pins:List (Addr × Obj)) (s:Shared) (σ:St) (H:Hp) (Q:VK),Inv X pins σ H s→t σ H Q→wpAny (model X.prog X.w) X.A (eval e X.env) (EP X pins σ Q) X.xe s
def PT(X:Cx)(e:Expr)(t:TT):Prop :=
 ∀(pins:List (Addr × Obj)) (s:Shared) (σ:St) (H:Hp) (Q:Bool→Hp→Prop),Inv X pins σ H s→t σ H Q→wpAny (model X.prog X.w) X.A (isTrue e X.env (eval e X.env)) (TP X pins σ Q) X.xe s
def PW(X:Cx)(e:Expr)(t:TT):Prop :=
 ∀(whole:Sem Value) (pins:List (Addr × Obj)) (s:Shared) (σ:St) (H:Hp) (Q:Bool→Hp→Prop),Inv X pins σ H s→t σ H Q→wpAny (model X.prog X.w) X.A (isTrue e X.env whole) (TP X pins σ Q) X.xe s
theorem PW.pt{X:Cx}{e:Expr}{t:TT}(h:PW X e t):PT X e t:=h _
def PA(X:Cx)(es:List Expr)(t:TA):Prop :=
 ∀(pos:Pos) (pins:List (Addr × Obj)) (s:Shared) (σ:St) (H:Hp) (Q:List V→Hp→Prop),Inv X pins σ H s→t σ H Q→wpAny (model X.prog X.w) X.A (spliced (backTo pos (starEach es X.env))) (AP X pins σ Q) X.xe s
def PS(X:Cx)(st:Stmt)(t:TS):Prop :=
 ∀(pins:List (Addr × Obj)) (s:Shared) (σ:St) (H:Hp) (D:kc),Inv X pins σ H s→t D σ H→wpAny (model X.prog X.w) X.A (exec st X.env) (SP X pins D) X.xe s
def PSs(X:Cx)(st:List Stmt)(t:TS):Prop :=
 ∀(pins:List (Addr × Obj)) (s:Shared) (σ:St) (H:Hp) (D:kc),Inv X pins σ H s→t D σ H→wpAny (model X.prog X.w) X.A (execs st X.env) (SP X pins D) X.xe s
theorem thn{α:Type}{t:Sem α}{Q Q':α→Shared→Prop}{M:Model}{A:Around}{E:Value→Shared→Prop}{s:Shared}(h:wpAny M A t Q E s)(hQ:∀ a s,Q a s→Q' a s):wpAny M A t Q' E s:=wpAny_mono h hQ fun _ _ x=>x
section
variable {X:Cx}
def Es(i:Nat):TE:=fun σ H Q=>∃ v,σ[i]? = some (some v)∧Q v H
def tC(v:V):TE:=fun _ H Q=>Q v H
theorem Ak{i:Nat}{x:Str}{pos:Pos}(hN:X.N[i]? = some x)(hv:Vis X.env.scope x)(hd:(x == ("__debug__" : Str))=false:=by decide)(hcd:(x == ("__classdict__" : Str))=false:=by decide):PE X (.Name x pos) (Es i):=by
 intro pins s σ H Q I h
 obtain⟨v,e,h⟩:=h
 obtain⟨m,hn,hl⟩:=I.loc
 obtain⟨u,r,l⟩:=hl i x v hN e hv
 have fin:EP X pins σ Q u s:=⟨v,H,I,r,h⟩
 rcases l with⟨hk,hm⟩|⟨hk,c,hc,hcell⟩
 ·exact wpAny_Name (wpAny_loadName_local I.ok.kind hk hn hm fin) hd
 ·rcases hk with hk|hk
  ·exact wpAny_Name (wpAny_loadName_cell I.ok.kind hk hc hcell fin) hd
  ·exact wpAny_Name (wpAny_loadName_free I.ok.kind hk hc hcell fin hcd) hd
theorem Ap{i j pos}:PE X (.Constant (.int i) j pos) (tC (.int i)):=fun _ _ _ H _ I h=>wpAny_Constant_int ⟨.int i,H,I.tok _,⟨_,rfl⟩,h⟩
theorem CT{b j pos}:PE X (.Constant (.bool b) j pos) (tC (.bl b)):=fun _ _ _ H _ I h=>Constant_bool ⟨.bl b,H,I,rfl,h⟩
theorem Ao{j pos}:PE X (.Constant .none j pos) (tC .non):=fun _ _ _ H _ I h=>Constant_none ⟨.non,H,I,rfl,h⟩
def Gl(X:Cx)(x:Str):Prop:=X.env.kindOf x=some .globalImplicit
theorem wD{E:Value→Shared→Prop}{pins:List (Addr × Obj)}{s:Shared}{σ:St}{H:Hp}{x:Str}{u:Value}{pos:Pos}{Q:Value→Shared→Prop}(I:Inv X pins σ H s)(hg:Gl X x)(hm:X.mg x=some u)(h:Q u s)
  (hd:(x == ("__debug__" : Str))=false:=by decide):wpAny (model X.prog X.w) X.A (eval (.Name x pos) X.env) Q E s :=
 Calls.Name_function_global I.ok.kind hg (Calls.loadGlobal_global (by rw[I.ok.glob];exact I.mod.glob.keeps I.bk) hm h) hd
theorem U5{E:Value→Shared→Prop}{pins:List (Addr × Obj)}{s:Shared}{σ:St}{H:Hp}{x:Str}{u:Value}{pos:Pos}{Q:Value→Shared→Prop}(I:Inv X pins σ H s)(hg:Gl X x)(hm:X.mg x=none)(hv:bootBuiltins x=some u)(h:Q u s)
  (hn:x ≠ "__name__" := by decide) (hd:(x == ("__debug__" : Str))=false:=by decide):wpAny (model X.prog X.w) X.A (eval (.Name x pos) X.env) Q E s:=by
 obtain⟨mb,h1,h2⟩:=I.mod.blt
 exact Calls.Name_function_global I.ok.kind hg (Calls.loadGlobal_builtin (by rw[I.ok.glob];exact I.mod.glob.keeps I.bk) hm (by rw[I.ok.blt];exact h1.keeps I.bk) ((h2 x hn).trans hv) h) hd
theorem we{x:Str}{v:V}{u:Value}{pos:Pos}(hg:Gl X x)(hm:X.mg x=none)(hv:bootBuiltins x=some u)(r:m7 v u)(hn:x ≠ "__name__" := by decide)(hd:(x == ("__debug__" : Str))=false:=by decide):PE X (.Name x pos) (tC v) :=
 fun _ _ _ H _ I h=>U5 I hg hm hv ⟨v,H,I,r,h⟩ hn hd
variable {a b:Expr} {ta tb:TE} {pos:Pos}
theorem m7.none_iff{x:V}{v:Value}(r:m7 x v):(v == Value.none)=decide (x = .non):=by
 cases x with
 | non=>cases r;rfl
 | bl _=>cases r;rfl
 | int _=>obtain⟨t,rfl⟩:=r;rfl
 | str _=>obtain⟨t,rfl⟩:=r;rfl
 | byt _=>obtain⟨t,rfl⟩:=r;rfl
 | flt _=>obtain⟨t,rfl⟩:=r;rfl
 | ref _=>cases r;rfl
 | ty _=>cases r;rfl
def tB(t:TE):TT:=fun σ H Q=>t σ H fun x H1=>∃ c,x = .bl c∧Q c H1
theorem Aa{e:Expr}{t:TE}(h:PE X e t)(he:∀ whole,isTrue e X.env whole=(do let v ← whole;standAt e.pos;holding [v] (truthy v)):=by intro _;rfl):PT X e (tB t):=by
 intro pins s σ H Q I hw
 refine isTrue_plain (thn (h pins s σ H _ I hw) fun v s1 ⟨x,H1,I1,r1,q1⟩=>?_) (he _)
 obtain⟨d,rfl,q⟩:=q1
 cases r1
 exact wpAny_truthy_bool ⟨H1,I1,q⟩
variable {tA tB':TT} {B0:List Expr}
def EE(t u:TT):TT:=fun σ H Q=>t σ H fun c H1=>if c=true then u σ H1 Q else Q false H1
def tOr(t u:TT):TT:=fun σ H Q=>t σ H fun c H1=>if c=true then Q true H1 else u σ H1 Q
def Ey(t:TT):TT:=fun σ H Q=>t σ H fun c H1=>Q (!c) H1
theorem vO(ha:PT X a tA):PW X (.BoolOp .And [a] pos) tA:=by
 intro wh pins s σ H Q I h
 refine isTrue_and (thn (ha pins s σ H Q I h) fun c s1 e=>?_)
 cases c with
 | true=>exact isTrue_and_nil e
 | false=>exact e
theorem zX(ha:PT X a tA):PW X (.BoolOp .Or [a] pos) tA:=by
 intro wh pins s σ H Q I h
 refine isTrue_or (thn (ha pins s σ H Q I h) fun c s1 e=>?_)
 cases c with
 | false=>exact isTrue_or_nil e
 | true=>exact e
theorem zY(ha:PT X a tA)(hb:PW X (.BoolOp .And (b :: B0) pos) tB'):PW X (.BoolOp .And (a :: b :: B0) pos) (EE tA tB'):=by
 intro wh pins s σ H Q I h
 refine isTrue_and (thn (ha pins s σ H _ I h) fun c s1 zz=>?_)
 obtain⟨H1,I1,q1⟩:=zz
 cases c with
 | true=>exact hb wh pins s1 σ H1 Q I1 q1
 | false=>exact⟨H1,I1,q1⟩
theorem CM(ha:PT X a tA)(hb:PW X (.BoolOp .Or (b :: B0) pos) tB'):PW X (.BoolOp .Or (a :: b :: B0) pos) (tOr tA tB'):=by
 intro wh pins s σ H Q I h
 refine isTrue_or (thn (ha pins s σ H _ I h) fun c s1 zz=>?_)
 obtain⟨H1,I1,q1⟩:=zz
 cases c with
 | true=>exact⟨H1,I1,q1⟩
 | false=>exact hb wh pins s1 σ H1 Q I1 q1
theorem Ab(ha:PT X a tA):PT X (.UnaryOp .Not a pos) (Ey tA):=by
 intro pins s σ H Q I h
 exact isTrue_not (ha pins s σ H (fun c H1=>Q (!c) H1) I h)
def Cz(ta tb:TE):TE:=fun σ H Q=>ta σ H fun x H1=>∃ c,x = .bl c∧if c=true then tb σ H1 Q else Q (.bl false) H1
def Cr(ta:TE):TE:=fun σ H Q=>ta σ H fun x H1=>∃ c,x = .bl c∧Q (.bl (!c)) H1
theorem Am{op}{t:TE}(h:PE X a t):PE X (.BoolOp op [a] pos) t:=fun pins s σ H Q I hw=>BoolOp_one (h pins s σ H Q I hw)
theorem Aq(ha:PE X a ta)(hb:PE X (.BoolOp .And (b :: B0) pos) tb):PE X (.BoolOp .And (a :: b :: B0) pos) (Cz ta tb):=by
 intro pins s σ H Q I h
 refine BoolOp_and (thn (ha pins s σ H _ I h) fun v s1 zz=>?_)
 obtain⟨x,H1,I1,r1,q1⟩:=zz
 obtain⟨c,rfl,q1⟩:=q1
 cases r1
 refine wpAny_truthy_bool ?_
 cases c with
 | true=>exact hb pins s1 σ H1 Q I1 q1
 | false=>exact⟨.bl false,H1,I1,rfl,q1⟩
theorem An(ha:PE X a ta):PE X (.UnaryOp .Not a pos) (Cr ta):=by
 intro pins s σ H Q I h
 refine UnaryOp_ (thn (ha pins s σ H _ I h) fun v s1 zz=>?_)
 obtain⟨x,H1,I1,r1,q1⟩:=zz
 obtain⟨c,rfl,q1⟩:=q1
 cases r1
 exact not_of (wpAny_truthy_bool ⟨.bl (!c),H1,I1,rfl,q1⟩)
def tIf(t:TT)(ta tb:TE):TE:=fun σ H Q=>t σ H fun c H1=>if c=true then ta σ H1 Q else tb σ H1 Q
theorem rP{c:Expr}(hc:PT X c tA)(ha:PE X a ta)(hb:PE X b tb):PE X (.IfExp c a b pos) (tIf tA ta tb):=by
 intro pins s σ H Q I h
 refine wpAny_IfExp (thn (hc pins s σ H _ I h) fun d s1 zz=>?_)
 obtain⟨H1,I1,q1⟩:=zz
 cases d with
 | true=>exact ha pins s1 σ H1 Q I1 q1
 | false=>exact hb pins s1 σ H1 Q I1 q1
end
def SqL(K:Hi)(H:Hp)(a:Addr)(xs:List V):Prop :=
 Rd H a (.lst xs) ∨
  ∃(o:Obj) (its:Array Value) (n:Nat),K.lookup a=some o∧o.cls = .type "list" ∧ o.dict=none∧o.data = .seq its n∧its.size≤sizeLine∧i6 xs its.toList
def SqT(K:Hi)(H:Hp)(a:Addr)(xs:List V):Prop :=
 Rd H a (.tup xs) ∨
  ∃(o:Obj) (its:Array Value) (n:Nat),K.lookup a=some o∧o.cls = .type "tuple" ∧ o.data = .seq its n∧its.size≤sizeLine∧i6 xs its.toList
noncomputable def Fg:Value→Option V
 | .none=>some .non
 | .bool b=>some (.bl b)
 | .int i _=>some (.int i)
 | .str x _=>some (.str x)
 | .bytes b _=>some (.byt b)
 | .float b _=>some (.flt b)
 | .ref a=>some (.ref a)
 | .type n=>some (.ty n)
 | _=>none
theorem m7.abs{x:V}{u:Value}(r:m7 x u):Fg u=some x:=by
 cases x with
 | non=>cases r;rfl
 | bl _=>cases r;rfl
 | int _=>obtain⟨t,rfl⟩:=r;rfl
 | str _=>obtain⟨t,rfl⟩:=r;rfl
 | byt _=>obtain⟨t,rfl⟩:=r;rfl
 | flt _=>obtain⟨t,rfl⟩:=r;rfl
 | ref _=>cases r;rfl
 | ty _=>cases r;rfl
theorem m7.inj{x y:V}{u:Value}(r:m7 x u)(q:m7 y u):x=y:=Option.some.inj (r.abs.symm.trans q.abs)
theorem i6.inj:∀{xs ys:List V} {us:List Value},i6 xs us→i6 ys us→xs=ys
 | _,_,_,.nil,.nil=>rfl
 | _,_,_,.cons r t,.cons r' t'=>by rw[r.inj r',i6.inj t t']
section
variable {X:Cx} {pins:List (Addr × Obj)} {σ:St} {H:Hp} {s:Shared} {a:Addr} {xs ys:List V}
theorem SqL.of{K:Hi}(h:H a=some (.lst xs)):SqL K H a xs:=.inl (.inl h)
theorem SqT.of{K:Hi}(h:H a=some (.tup xs)):SqT K H a xs:=.inl (.inl h)
theorem Inv.list(I:Inv X pins σ H s)(h:SqL X.K H a xs):∃ its:List Value,i6 xs its∧PlainL s.heap a its.toArray∧xs.length≤sizeLine:=by
 rcases h with h|⟨o,its,n,hk,hc,hd,hs,hz,r⟩
 ·obtain⟨z,its,n,r,e⟩:=h.ok I.hok
  exact⟨its,r,⟨_,n,e,rfl,rfl,rfl⟩,z⟩
 ·refine⟨its.toList,r,⟨o,n,I.kIn a o hk,hc,hd,by simpa using hs⟩,?_⟩
  have e:=r.length
  simp only[Array.length_toList]at e
  omega
theorem Inv.tuple(I:Inv X pins σ H s)(h:SqT X.K H a xs):∃ its:List Value,i6 xs its∧IsTup s.heap a its.toArray∧xs.length≤sizeLine:=by
 rcases h with h|⟨o,its,n,hk,hc,hs,hz,r⟩
 ·obtain⟨z,its,r,p⟩:=h.ok I.hok
  exact⟨its,r,p,z⟩
 ·refine⟨its.toList,r,⟨o,I.kIn a o hk,hc,n,by simpa using hs⟩,?_⟩
  have e:=r.length
  simp only[Array.length_toList]at e
  omega
theorem Inv.list_inj(I:Inv X pins σ H s)(h:SqL X.K H a xs)(h':SqL X.K H a ys):xs=ys:=by
 obtain⟨its,r,⟨o,n,e,_,_,d⟩,_⟩:=I.list h
 obtain⟨its',r',⟨o',n',e',_,_,d'⟩,_⟩:=I.list h'
 rw[e]at e';cases e'
 rw[d]at d'
 injection d' with d1 _
 have:its=its':=by simpa using congrArg Array.toList d1
 subst this
 exact r.inj r'
theorem Inv.tuple_inj(I:Inv X pins σ H s)(h:SqT X.K H a xs)(h':SqT X.K H a ys):xs=ys:=by
 obtain⟨its,r,⟨o,e,_,n,d⟩,_⟩:=I.tuple h
 obtain⟨its',r',⟨o',e',_,n',d'⟩,_⟩:=I.tuple h'
 rw[e]at e';cases e'
 rw[d]at d'
 injection d' with d1 _
 have:its=its':=by simpa using congrArg Array.toList d1
 subst this
 exact r.inj r'
end
noncomputable abbrev Cx.wish(X:Cx)(E:Value→Shared→Prop):Cx:={ X with xe:=E }
noncomputable abbrev Cx.nox(X:Cx):Cx:=X.wish fun _ _=>False
theorem Cx.Ok.wish{X:Cx}(ok:X.Ok)(E:Value→Shared→Prop):(X.wish E).Ok :=
 ⟨ok.mod,ok.kind,ok.glob,ok.blt,ok.above,ok.inj,ok.has,ok.cab,ok.hd,ok.frames,ok.stk,ok.exf,ok.bs,ok.bsz,ok.noex,ok.exfs,ok.funs,ok.frf⟩
theorem Cx.Ok.unwish{X:Cx}{E:Value→Shared→Prop}(ok:(X.wish E).Ok):X.Ok :=
 ⟨ok.mod,ok.kind,ok.glob,ok.blt,ok.above,ok.inj,ok.has,ok.cab,ok.hd,ok.frames,ok.stk,ok.exf,ok.bs,ok.bsz,ok.noex,ok.exfs,ok.funs,ok.frf⟩
section
variable {X:Cx} {pins:List (Addr × Obj)} {σ:St} {H:Hp} {s:Shared} {E:Value→Shared→Prop}
theorem Inv.wish(I:Inv X pins σ H s)(E:Value→Shared→Prop):Inv (X.wish E) pins σ H s:=⟨I.ok.wish E,I.os,I.bare,I.base,I.loc,I.cell,I.free,I.freeC,I.pin,I.hok,I.len⟩
theorem Inv.unwish(I:Inv (X.wish E) pins σ H s):Inv X pins σ H s:=⟨I.ok.unwish,I.os,I.bare,I.base,I.loc,I.cell,I.free,I.freeC,I.pin,I.hok,I.len⟩
theorem SP.unwish{D:kc}{f:Flow}{s':Shared}(h:SP (X.wish E) pins D f s'):SP X pins D f s':=by
 cases f with
 | next=>obtain⟨σ',H',I,q⟩:=h;exact⟨σ',H',I.unwish,q⟩
 | brk=>obtain⟨σ',H',I,q⟩:=h;exact⟨σ',H',I.unwish,q⟩
 | cont=>obtain⟨σ',H',I,q⟩:=h;exact⟨σ',H',I.unwish,q⟩
 | ret u=>obtain⟨v,σ',H',I,r,q⟩:=h;exact⟨v,σ',H',I.unwish,r,q⟩
theorem PE.nox{e:Expr}{t:TE}(h:PE X.nox e t):PE X e t:=fun pins s σ H Q I hw =>
 wpAny_mono (h pins s σ H Q (I.wish _) hw) (fun _ _ ⟨v,H',I',r,q⟩=>⟨v,H',I'.unwish,r,q⟩) fun _ _ z=>False.elim z
theorem PT.nox{e:Expr}{t:TT}(h:PT X.nox e t):PT X e t:=fun pins s σ H Q I hw =>
 wpAny_mono (h pins s σ H Q (I.wish _) hw) (fun _ _ ⟨H',I',q⟩=>⟨H',I'.unwish,q⟩) fun _ _ z=>False.elim z
theorem PSs.nox{st:List Stmt}{t:TS}(h:PSs X.nox st t):PSs X st t:=fun pins s σ H D I hw =>
 wpAny_mono (h pins s σ H D (I.wish _) hw) (fun _ _ q=>q.unwish) fun _ _ z=>False.elim z
end
section
variable {X:Cx} {st:Stmt} {B0:List Stmt} {t u:TS} {e:Expr} {te:TE} {pos:Pos}
def Cs:TS:=fun D σ H=>D.nx σ H
def Eu(t u:TS):TS:=fun D σ H=>t { D with nx:=u D } σ H
theorem vR:PSs X [] Cs:=fun _ _ σ H _ I h=>wpAny_execs_nil ⟨σ,H,I,h⟩
theorem jb(h1:PS X st t)(h2:PSs X B0 u):PSs X (st :: B0) (Eu t u):=by
 intro pins s σ H D I h
 refine wpAny_execs_cons (thn (h1 pins s σ H { D with nx:=u D } I h) fun f s1 q=>?_)
 cases f with
 | next =>
  obtain⟨σ',H',I',q⟩:=q
  exact h2 pins s1 σ' H' D I' q
 | ret v=>exact q
 | brk=>exact q
 | cont=>exact q
theorem vQ(h1:PS X st t):PSs X [st] t:=by
 intro pins s σ H D I h
 refine wpAny_execs_cons (thn (h1 pins s σ H D I h) fun f s1 q=>?_)
 cases f with
 | next=>exact wpAny_execs_nil q
 | ret v=>exact q
 | brk=>exact q
 | cont=>exact q
theorem Inv.quiet{pins:List (Addr × Obj)}{σ:St}{H:Hp}{s:Shared}(I:Inv X pins σ H s):interactive X.env=false:=by simp[interactive,I.ok.kind]
def Cv(te:TE):TS:=fun D σ H=>te σ H fun _ H1=>D.nx σ H1
theorem vT(he:PE X e te)(hs:swapsWith e none pos.line X.env=pure false:=by rfl):PS X (.Expr e pos) (Cv te):=by
 intro pins s σ H D I h
 exact wpAny_Expr_any (thn (he pins s σ H _ I h) fun v s1 ⟨x,H1,I1,r1,q1⟩=>⟨σ,H1,I1,q1⟩) I.quiet hs
def Ew(te:TE):TS:=fun D σ H=>te σ H D.rt
theorem Ad(he:PE X e te):PS X (.Return (some e) pos) (Ew te):=by
 intro pins s σ H D I h
 exact wpAny_Return_some (thn (he pins s σ H _ I h) fun v s1 ⟨x,H1,I1,r1,q1⟩=>⟨x,σ,H1,I1,r1,q1⟩)
def EB(c:TT)(t u:TS):TS:=fun D σ H=>c σ H fun b H1=>if b=true then t D σ H1 else u D σ H1
theorem CN{c:Expr}{a b:List Stmt}{tc:TT}(hc:PT X c tc)(ha:PSs X a t)(hb:PSs X b u):PS X (.If c a b pos) (EB tc t u):=by
 intro pins s σ H D I h
 refine wpAny_If (thn (hc pins s σ H _ I h) fun d s1 zz=>?_)
 obtain⟨H1,I1,q1⟩:=zz
 cases d with
 | true=>exact ha pins s1 σ H1 D I1 q1
 | false=>exact hb pins s1 σ H1 D I1 q1
def zv:TS:=fun _ _ _=>False
theorem rJ:PS X st zv:=fun _ _ _ _ _ _ h=>h.elim
end
noncomputable abbrev TG:=V→St→Hp→(St→Hp→Prop)→Prop
noncomputable abbrev TGs:=List V→St→Hp→(St→Hp→Prop)→Prop
def PG(X:Cx)(target:Expr)(t:TG):Prop :=
 ∀(pins:List (Addr × Obj)) (s:Shared) (σ:St) (H:Hp) (v:V) (u:Value) (Q:St→Hp→Prop),Inv X pins σ H s→m7 v u→t v σ H Q →
  wpAny (model X.prog X.w) X.A (assign target X.env u) (fun _ s'=>∃ σ' H',Inv X pins σ' H' s'∧Q σ' H') X.xe s
def PGs(X:Cx)(ts:List Expr)(t:TGs):Prop :=
 ∀(pins:List (Addr × Obj)) (s:Shared) (σ:St) (H:Hp) (vs:List V) (us:List Value) (Q:St→Hp→Prop),Inv X pins σ H s→i6 vs us→t vs σ H Q →
  wpAny (model X.prog X.w) X.A (assignInOrder ((assignEach ts X.env).map (·.2)) us) (fun _ s'=>∃ σ' H',Inv X pins σ' H' s'∧Q σ' H') X.xe s
noncomputable abbrev Bw:=V→V→V→Hp→(Hp→Prop)→Prop
def Bz(X:Cx)(t:Bw):Prop :=
 ∀(pins:List (Addr × Obj)) (s:Shared) (σ:St) (H:Hp) (o i v:V) (ov iv u:Value) (Q:Hp→Prop),Inv X pins σ H s→m7 o ov→m7 i iv→m7 v u→t o i v H Q →
  wpAny (model X.prog X.w) X.A (setItem ov iv u) (fun _ s'=>∃ H',Inv X pins σ H' s'∧Q H') X.xe s
section
variable {X:Cx} {pos:Pos}
def sV(i:Nat):TG:=fun v σ H Q=>Q (σ.set i (some v)) H
theorem wa{i:Nat}{x:Str}(hN:X.N.Nodup)(hi:X.N[i]? = some x)(hx:Loc X.env.scope x)(hf:X.fn x=true∨X.env.scope.names.lookup x=some .local:=by first|exact .inl rfl|exact .inr rfl|assumption):PG X (.Name x pos) (sV i):=by
 intro pins s σ H v u Q I r h
 exact wpAny_assign_Name (V4 I hN hi hx r (fun s' I'=>⟨_,H,I',h⟩) hf)
def EY:TGs:=fun vs σ H Q=>vs=[]∧Q σ H
def DG(t:TG)(u:TGs):TGs:=fun vs σ H Q=>∃ v r,vs=v :: r∧t v σ H fun σ' H'=>u r σ' H' Q
theorem vY:PGs X [] EY:=by
 intro pins s σ H vs us Q I r h
 obtain⟨e,h⟩:=h
 subst e
 cases r
 exact assignInOrder_nil ⟨σ,H,I,h⟩
theorem rM{e:Expr}{es:List Expr}{t:TG}{u:TGs}(h1:PG X e t)(h2:PGs X es u)
  (hs:(assignEach (e :: es) X.env).map (·.2)=assign e X.env :: (assignEach es X.env).map (·.2):=by rfl):PGs X (e :: es) (DG t u):=by
 intro pins s σ H vs us Q I r h
 obtain⟨v,vr,e1,h⟩:=h
 subst e1
 cases r with
 | cons r rr =>
  rw[hs]
  refine assignInOrder_cons (thn (h1 pins s σ H _ _ _ I r h) fun _ s1 zz=>?_)
  obtain⟨σ1,H1,I1,q1⟩:=zz
  exact h2 pins s1 σ1 H1 _ _ Q I1 rr q1
def EU(K:Hi)(n:Nat)(t:TGs):TG:=fun v σ H Q=>∃ a xs,v = .ref a∧SqT K H a xs∧xs.length=n∧t xs σ H Q
theorem Aj{es:List Expr}{k:Nat}{t:TGs}{n:Nat}(hc:X.calm=true)(h:PGs X es t)
  (hn:(assignEach es X.env).length=n:=by rfl) (hst:(assignEach es X.env).findIdx? (·.1)=none:=by rfl):PG X (.Tuple es k pos) (EU X.K n t):=by
 intro pins s σ H v u Q I r hw
 obtain⟨a,xs,e1,hq,hl,hw⟩:=hw
 subst e1
 cases r
 obtain⟨its,rv,ht,hz⟩:=I.tuple hq
 refine assign_Tuple_tuple (I.ok.hd hc) ht (by simp[hn,← hl,rv.length]) hst fun h' hx=>?_
 have I1:Inv X pins σ H { s with heap:=h' }:=I.kept (t':=s.toks) fun b o e=>hx b o (HQ (Hv e)) e
 exact h pins _ σ H xs _ Q I1 (by simpa using rv) hw
def EV(to ti:TE)(t:Bw):TG:=fun v σ H Q=>to σ H fun o H1=>ti σ H1 fun i H2=>t o i v H2 fun H3=>Q σ H3
theorem rN{o i:Expr}{to ti:TE}{t:Bw}(ho:PE X o to)(hi:PE X i ti)(hs:Bz X t)
  (ha:∀ v,assign (.Subscript o i pos) X.env v=(do
   let ov ← holding [v] (eval o X.env)
   let iv ← holding [v,ov] (eval i X.env)
   standAt pos
   holding [v,ov,iv] (setItem ov iv v)
   release [v,ov,iv] []):=by intro _;rfl):PG X (.Subscript o i pos) (EV to ti t):=by
 intro pins s σ H v u Q I r h
 rw[ha]
 refine Hh (wpAny_holding (thn (ho pins s σ H _ I h) fun ov s1 zz=>?_))
 obtain⟨x,H1,I1,r1,q1⟩:=zz
 refine Hh (wpAny_holding (thn (hi pins s1 σ H1 _ I1 q1) fun iv s2 zz=>?_))
 obtain⟨y,H2,I2,r2,q2⟩:=zz
 refine Hh (wpAny_standAt (Hh (wpAny_holding (thn (hs pins s2 σ H2 x y v ov iv u _ I2 r1 r2 r q2) fun _ s3 zz=>?_))))
 obtain⟨H3,I3,q3⟩:=zz
 exact wpAny_release ⟨σ,H3,I3,q3⟩
def zw(te:TE)(g:TG):TS:=fun D σ H=>te σ H fun x H1=>g x σ H1 D.nx
theorem Ag{tg e:Expr}{te:TE}{g:TG}(he:PE X e te)(hg:PG X tg g)(hs:swapsWithSole [tg] e pos.line X.env=pure false:=by rfl)(hw:swappedStores [tg] e X.env=pure none:=by rfl)
  (h1:(assignEach [tg] X.env).map (·.2)=[assign tg X.env]:=by rfl):PS X (.Assign [tg] e pos) (zw te g):=by
 intro pins s σ H D I h
 refine wpAny_Assign_stores (thn (he pins s σ H _ I h) fun v s1 ⟨x,H1,I1,r1,q1⟩=>?_) hs hw
 rw[h1]
 exact thn (hg pins s1 σ H1 x v _ I1 r1 q1) fun _ s2 q=>q
theorem Ac{i:Nat}{x:Str}{e:Expr}{te:TE}{pos':Pos}(hN:X.N.Nodup)(hi:X.N[i]? = some x)(hx:Loc X.env.scope x)(he:PE X e te)(hs:swapsWith e (some (.Name x pos')) pos.line X.env=pure false:=by rfl)(hf:X.fn x=true∨X.env.scope.names.lookup x=some .local:=by first|exact .inl rfl|exact .inr rfl|assumption) :
  PS X (.Assign [.Name x pos'] e pos) (zw te (sV i)):=by
 intro pins s σ H D I h
 refine wpAny_Assign_Name (thn (he pins s σ H _ I h) fun v s1 ⟨y,H1,I1,r1,q1⟩=>?_) hs
 exact V4 I1 hN hi hx r1 (fun s2 I2=>⟨_,H1,I2,q1⟩) hf
def Ex(i j:Nat)(ta:TA):TS:=fun D σ H=>ta σ H fun vs H1=>∃ v w,vs=[v,w]∧D.nx ((σ.set i (some v)).set j (some w)) H1
theorem Ae{i j:Nat}{x y:Str}{a b:Expr}{ta:TA}{px py pt:Pos}{kt k2 pt2}(hc:X.calm=true)(hN:X.N.Nodup)(hi:X.N[i]? = some x)(hj:X.N[j]? = some y)(hij:i≠j)
  (hx:X.env.scope.names.lookup x=some .local) (hy:X.env.scope.names.lookup y=some .local) (ha:PA X [a,b] ta)
  (hw:swappedStores [.Tuple [.Name x px,.Name y py] kt pt] (.Tuple [a,b] k2 pt2) X.env=pure (some [x,y]))
  (hs:swapsWithSole [.Tuple [.Name x px,.Name y py] kt pt] (.Tuple [a,b] k2 pt2) pos.line X.env=pure false:=by rfl) :
  PS X (.Assign [.Tuple [.Name x px,.Name y py] kt pt] (.Tuple [a,b] k2 pt2) pos) (Ex i j ta):=by
 intro pins s σ H D I h
 rw[exec_Assign_arm]
 refine Hh (wpAny_standAt ?_)
 rw[hs]
 refine Hh (Hn ?_)
 rw[if_neg (by decide)]
 refine Hh (Tuple_ (thn (ha _ pins s σ H _ I h) fun us s1 zz=>?_))
 obtain⟨vs,H1,I1,r1,q1⟩:=zz
 obtain⟨v,w,e1,q1⟩:=q1
 subst e1
 obtain⟨u1,u2,rfl,rv,rw'⟩:∃ u1 u2,us=[u1,u2]∧m7 v u1∧m7 w u2:=by
  cases r1 with
  | cons p q =>
   cases q with
   | cons p' q' =>
    cases q'
    exact⟨_,_,rfl,p,p'⟩
 refine wpAny_newObj_type ?_ (by show 2≤sizeLine;decide)
 have I2:Inv X pins σ H1 { s1 with heap:=s1.heap.push { cls:=.type "tuple",data:=.seq [u1,u2].toArray } }:=I1.kept (t':=s1.toks) fun b o e=>Hj _ e
 rw[hw]
 refine Hh (Hn ?_)
 show wpAny (model X.prog X.w) X.A (do rule "assign.swapped-stores";let items ← unpackItems (.ref s1.heap.objs.size) 2 none;assignInOrder [fun v=>bindName X.env y v,fun v=>bindName X.env x v] items.reverse;pure Flow.next) _ _ _
 refine Hh (wpAny_rule (Hh (unpackItems_tuple (items:=#[u1,u2]) (I.ok.hd hc) (IsTup.new s1.heap _) fun h' hx'=>?_)))
 have I3:=I2.kept (h':=h') (t':=s1.toks) fun b o e=>hx' b o (HQ (Hv e)) e
 show wpAny _ _ (assignInOrder [fun v=>bindName X.env y v,fun v=>bindName X.env x v] [u2,u1] >>= fun _=>pure Flow.next) _ _ _
 refine Hh (assignInOrder_cons (wpAny_bindName (V4 I3 hN hj (.inl hy) rw' (fun s2 I4=>?_) (.inr hy))))
 refine assignInOrder_cons (wpAny_bindName (V4 I4 hN hi (.inl hx) rv (fun s3 I5=>assignInOrder_nil (Hn ?_)) (.inr hx)))
 rw[List.set_comm _ _ (Ne.symm hij)]at I5
 exact⟨_,H1,I5,q1⟩
end
section
variable {X:Cx} {pos:Pos}
def zu(c:TT)(tb:TS):TS:=fun D σ H=>∃ W:Nat→St→Hp→Prop,(∃ m,W m σ H)∧∀ m σ H,W m σ H →
 c σ H fun b H1=>if b=true then ∃ N:St→Hp→Prop,(∀ σ' H',N σ' H'→∃ m',m'<m∧W m' σ' H')∧tb { D with nx:=N,ct:=N,bk:=D.nx } σ H1 else D.nx σ H1
theorem rH{c:Expr}{body:List Stmt}{tc:TT}{tb:TS}(hp:PassesOwn (model X.prog X.w) X.A X.env X.xe)(hc:PT X c tc)(hb:PSs X body tb):PS X (.While c body [] pos) (zu tc tb):=by
 intro pins s σ H D I h
 obtain⟨W,⟨m0,w0⟩,turn⟩:=h
 refine wpAny_While (codeAny_whileLoop (fun n s'=>∃ σ' H',Inv X pins σ' H' s'∧W n σ' H') ?_ m0 ⟨σ,H,I,w0⟩)
 rintro n s1 ⟨σ1,H1,I1,w1⟩
 refine wpAny_passesOwn hp (thn (hc pins s1 σ1 H1 _ I1 (turn n σ1 H1 w1)) fun b s2 zz=>?_)
 obtain⟨H2,I2,q2⟩:=zz
 cases b with
 | true =>
  obtain⟨N,hN,q2⟩:=q2
  rw[if_pos rfl]
  refine wpAny_passesOwn hp (thn (hb pins s2 σ1 H2 _ I2 q2) fun f s3 q3=>?_)
  cases f with
  | next =>
   obtain⟨σ3,H3,I3,n3⟩:=q3
   obtain⟨m',hm,w3⟩:=hN σ3 H3 n3
   exact⟨m',hm,σ3,H3,I3,w3⟩
  | cont =>
   obtain⟨σ3,H3,I3,n3⟩:=q3
   obtain⟨m',hm,w3⟩:=hN σ3 H3 n3
   exact⟨m',hm,σ3,H3,I3,w3⟩
  | brk=>exact q3
  | ret v=>exact q3
 | false =>
  rw[if_neg HJ]
  exact wpAny_execs_nil ⟨σ1,H2,I2,q2⟩
end
structure It where
 go:Nat→Hp→Prop
 yld:Nat→Hp→V→Hp→Prop
 stop:Nat→Hp→Prop
def V0(X:Cx)(pins:List (Addr × Obj))(H:Hp)(b:Addr):Prop :=
 H b=none∧b≠X.env.locals∧b∉X.fs∧(b∈X.ex∨X.s₀.heap.objs.size≤b)∧(∀ x c,X.env.cells.lookup x=some c→c≠b)∧∀ p∈X.pn++pins,p.1≠b
theorem Inv.fpOk{X:Cx}{pins:List (Addr × Obj)}{σ:St}{H H':Hp}{s:Shared}{b:Addr}(I:Inv X pins σ H s)(hb:s.heap.objs.size≤b)(hn:H' b=none):V0 X pins H' b:=by
 refine⟨hn,Jo (Ho I.lt hb),I.nofs hb,.inr (Hx I.sz hb),fun x c e z=>?_,fun p hp z=>?_⟩
 ·obtain⟨v,q⟩:=I.cell x c e
  exact absurd (Ho q.lt (by rw[z];exact hb)) (IG _)
 ·exact absurd (Ho (Hv (I.pin p hp).1) (by rw[z];exact hb)) (IG _)
structure lE(P:Program)(w:World)(K:Hi)(tg:Expr)(J:It)(fp:List Addr)(it:Addr)(tn:Nat→Heap→Prop):Prop where
 mem:it∈fp
 obj:∀ i h,tn i h→∀ b∈fp,∃ o,h.get? b=some o∧∀ v,o.data ≠ .cell v
 keep:∀ i h h',tn i h→(∀ b∈fp,∀ o,h.get? b=some o→h'.get? b=some o)→tn i h'
 item:∀(X:Cx),X.prog=P→X.w=w→X.K=K→X.calm=true→∀(i:Nat) (pins:List (Addr × Obj)) (s:Shared) (σ:St) (H:Hp) (E:Value→Shared→Prop),Inv X pins σ H s→(∀ b∈fp,V0 X pins H b)→tn i s.heap→J.go i H →
  wpAny (model P w) X.A (pyNext (.ref it)) (fun r s1=>∃ u,r=some u ∧
   wpAny (model P w) X.A (letOwnedTupleGo tg (.ref it) u) (fun _ s2=>∃ x H',Inv X pins σ H' s2∧m7 x u∧J.yld i H x H'∧tn (i+1) s2.heap∧∀ b∈fp,H' b=none) E s1) E s
 done:∀(X:Cx),X.prog=P→X.w=w→X.K=K→X.calm=true→∀(i:Nat) (pins:List (Addr × Obj)) (s:Shared) (σ:St) (H:Hp) (E:Value→Shared→Prop),Inv X pins σ H s→(∀ b∈fp,V0 X pins H b)→tn i s.heap→J.stop i H →
  wpAny (model P w) X.A (pyNext (.ref it)) (fun r s1=>r=none∧Inv X pins σ H s1) E s
 self:∀(A:Around) (i:Nat) (s:Shared) (Q:Value→Shared→Prop) (E:Value→Shared→Prop),tn i s.heap→Q (.ref it) s→wpAny (model P w) A (pyIter (.ref it)) Q E s
noncomputable abbrev TI:=St→Hp→(It→Hp→Prop)→Prop
def PIE(X:Cx)(pins:List (Addr × Obj))(σ:St)(tg:Expr)(R:It→Hp→Prop)(itv:Value)(s2:Shared):Prop :=
 ∃(it:Addr) (fp:List Addr) (tn:Nat→Heap→Prop) (J:It) (H':Hp),itv = .ref it∧Inv X pins σ H' s2∧lE X.prog X.w X.K tg J fp it tn∧tn 0 s2.heap∧(∀ b∈fp,V0 X pins H' b)∧R J H'
def PI(X:Cx)(tg iter:Expr)(wi:TI):Prop :=
 ∀(pins:List (Addr × Obj)) (s:Shared) (σ:St) (H:Hp) (R:It→Hp→Prop),Inv X pins σ H s→wi σ H R →
  wpAny (model X.prog X.w) X.A (eval iter X.env) (fun v s1=>wpAny (model X.prog X.w) X.A (pyIter v) (PIE X pins σ tg R) X.xe s1) X.xe s
theorem sT{M:Model}{A:Around}{E:Value→Shared→Prop}{s:Shared}{tg:Expr}{it:Addr}{u:Value}{o:Obj}{n:String}{vs:Array Value}{Q:Unit→Shared→Prop}(ho:s.heap.get? it=some o)(hc:o.cls = .type n)(hd:o.data = .fields vs)
  (hn:["enumerate","zip","dict_itemiterator","dict_reverseitemiterator","odict_iterator","itertools.zip_longest","itertools.pairwise"].contains n=false) (hQ:Q () s):wpAny M A (letOwnedTupleGo tg (.ref it) u) Q E s:=by
 unfold letOwnedTupleGo
 cases tg<;>first
  | exact Hn hQ
  | (cases u<;>first
    | exact Hn hQ
    | (refine Hh (wpAny_load ho ?_);rw[hc,hd];show wpAny M A (if (["enumerate","zip","dict_itemiterator","dict_reverseitemiterator","odict_iterator","itertools.zip_longest","itertools.pairwise"].contains n && vs[0]? == some (rawInt _))=true then _ else _) Q E s;rw[if_neg (by intro h;rw[hn,LH]at h;cases h)];exact Hn hQ))
noncomputable def Itl(K:Hi)(a:Addr):It :=
 ⟨fun i H=>∃ xs x,SqL K H a xs∧xs[i]? = some x,fun i H x H'=>H'=H∧∀ xs,SqL K H a xs→xs[i]? = some x,fun i H=>∃ xs,SqL K H a xs∧xs.length≤i⟩
noncomputable def Itt(K:Hi)(a:Addr):It :=
 ⟨fun i H=>∃ xs x,SqT K H a xs∧xs[i]? = some x,fun i H x H'=>H'=H∧∀ xs,SqT K H a xs→xs[i]? = some x,fun i H=>∃ xs,SqT K H a xs∧xs.length≤i⟩
noncomputable def Itr(lo:Int)(n:Nat):It:=⟨fun i _=>i<n,fun i H x H'=>H'=H∧x = .int (lo+i),fun i _=>n≤i⟩
theorem nY{P:Program}{w:World}{K:Hi}{tg:Expr}(a it:Addr):lE P w K tg (Itl K a) [it] it (fun i h=>h.IsListIter it a i) where
 mem:=by simp
 obj:=fun i h st b hb=>by
  have e:b=it:=by simpa using hb
  subst e
  obtain⟨o,e,c,d⟩:=st
  exact⟨o,e,fun v z=>by rw[d]at z;cases z⟩
 keep:=fun i h h' st k=>st.at fun o e=>k it (by simp) o e
 item:=by
  intro X hP hw hK hc i pins s σ H E I hf st hg
  subst hP hw hK
  obtain⟨xs,x,hq,hx⟩:=hg
  obtain⟨its,rv,p,hz⟩:=I.list hq
  obtain⟨u,hu,ru⟩:=rv.get hx
  obtain⟨f0,f1,f2,f3,f4,f5⟩:=hf it (by simp)
  refine wpAny_pyNext_list_item st p.isList (x:=u) (by simpa using hu) fun h' st' sb=>?_
  have I1:Inv X pins σ H { s with heap:=h' }:=I.turned (t':=s.toks) (fun b o hb e=>(sb.2 b hb).trans e) f0 f1 f3 f4 f5
  obtain⟨o,e,c,d⟩:=id st'
  exact⟨u,rfl,sT (s:={ s with heap:=h' }) e c d (by decide) ⟨x,H,I1,ru,⟨rfl,fun ys hy=>by rw[I.list_inj hy hq];exact hx⟩,st',fun b hb=>(hf b hb).1⟩⟩
 done:=by
  intro X hP hw hK hc i pins s σ H E I hf st hg
  subst hP hw hK
  obtain⟨xs,hq,hx⟩:=hg
  obtain⟨its,rv,p,hz⟩:=I.list hq
  obtain⟨f0,f1,f2,f3,f4,f5⟩:=hf it (by simp)
  have hl:=rv.length
  exact wpAny_pyNext_list_end (I.ok.hd hc) st p.isList (by simp;omega) fun h' eb=>⟨rfl,I.turned (t':=s.toks) (fun b o hb e=>eb b o hb e) f0 f1 f3 f4 f5⟩
 self:=fun _ _ _ _ _ st h=>wpAny_pyIter_listiter st h
theorem kg{P:Program}{w:World}{K:Hi}{tg:Expr}(a it:Addr):lE P w K tg (Itt K a) [it] it (fun i h=>h.IsTupleIter it a i) where
 mem:=by simp
 obj:=fun i h st b hb=>by
  have e:b=it:=by simpa using hb
  subst e
  obtain⟨o,e,c,d⟩:=st
  exact⟨o,e,fun v z=>by rw[d]at z;cases z⟩
 keep:=fun i h h' st k=>st.at fun o e=>k it (by simp) o e
 item:=by
  intro X hP hw hK hc i pins s σ H E I hf st hg
  subst hP hw hK
  obtain⟨xs,x,hq,hx⟩:=hg
  obtain⟨its,rv,p,hz⟩:=I.tuple hq
  obtain⟨u,hu,ru⟩:=rv.get hx
  obtain⟨f0,f1,f2,f3,f4,f5⟩:=hf it (by simp)
  refine wpAny_pyNext_tuple_item st (show s.heap.IsTuple a its.toArray from p) (x:=u) (by simpa using hu) fun h' st' sb=>?_
  have I1:Inv X pins σ H { s with heap:=h' }:=I.turned (t':=s.toks) (fun b o hb e=>(sb.2 b hb).trans e) f0 f1 f3 f4 f5
  obtain⟨o,e,c,d⟩:=id st'
  exact⟨u,rfl,sT (s:={ s with heap:=h' }) e c d (by decide) ⟨x,H,I1,ru,⟨rfl,fun ys hy=>by rw[I.tuple_inj hy hq];exact hx⟩,st',fun b hb=>(hf b hb).1⟩⟩
 done:=by
  intro X hP hw hK hc i pins s σ H E I hf st hg
  subst hP hw hK
  obtain⟨xs,hq,hx⟩:=hg
  obtain⟨its,rv,p,hz⟩:=I.tuple hq
  obtain⟨f0,f1,f2,f3,f4,f5⟩:=hf it (by simp)
  have hl:=rv.length
  exact wpAny_pyNext_tuple_end (I.ok.hd hc) st (show s.heap.IsTuple a its.toArray from p) (by simp;omega) fun h' eb=>⟨rfl,I.turned (t':=s.toks) (fun b o hb e=>eb b o hb e) f0 f1 f3 f4 f5⟩
 self:=fun _ _ _ _ _ st h=>wpAny_pyIter_tupleiter st h
theorem ki{P:Program}{w:World}{K:Hi}{tg:Expr}(it:Addr)(lo:Int)(n:Nat):lE P w K tg (Itr lo n) [it] it (fun i h=>IsRangeIter h it (lo+(i:Nat)*1) ((n:Int) - (i:Nat)) 1) where
 mem:=by simp
 obj:=fun i h st b hb=>by
  have e:b=it:=by simpa using hb
  subst e
  exact⟨_,st,fun v z=>by
   have z':Data.fields _=Data.cell v:=z
   cases z'⟩
 keep:=fun i h h' st k=>k it (by simp) _ st
 item:=by
  intro X hP hw hK hc i pins s σ H E I hf st hg
  subst hP hw hK
  obtain⟨f0,f1,f2,f3,f4,f5⟩:=hf it (by simp)
  have W:=Walks.range (prog:=X.prog) (w:=X.w) (I.ok.hd hc) it lo 1 n
  refine W.item i s _ _ hg st fun v h' tk hv st' kk=>?_
  obtain⟨t,rfl⟩:=hv
  have I1:Inv X pins σ H { s with heap:=h',toks:=tk }:=I.turned (fun b o hb e=>kk b o (by simpa using hb) e) f0 f1 f3 f4 f5
  refine⟨_,rfl,sT (s:={ s with heap:=h',toks:=tk }) (n := "range_iterator") st' rfl rfl (by decide) ⟨.int (lo+i),H,I1,⟨t,?_⟩,⟨rfl,rfl⟩,st',fun b hb=>(hf b hb).1⟩⟩
  rw[Int.mul_one]
 done:=by
  intro X hP hw hK hc i pins s σ H E I hf st hg
  subst hP hw hK
  obtain⟨f0,f1,f2,f3,f4,f5⟩:=hf it (by simp)
  exact wpAny_pyNext_range_end (I.ok.hd hc) st (by have:n≤i:=hg;omega) fun h' eb=>⟨rfl,I.turned (t':=s.toks) (fun b o hb e=>eb b o hb e) f0 f1 f3 f4 f5⟩
 self:=fun _ _ _ _ _ st h=>wpAny_pyIter_rangeiter st h
section
variable {X:Cx} {tg:Expr}
theorem iY{pins:List (Addr × Obj)}{σ:St}{H:Hp}{s:Shared}{R:It→Hp→Prop}{E:Value→Shared→Prop}{lo hi:Int}{t u v:Tok}{tk:Nat}(I:Inv X pins σ H s)(h1:-(2 ^ 62)≤lo)(h2:lo<2 ^ 62)(h3:-(2 ^ 62)≤hi)(h4:hi<2 ^ 62)
  (q:R (Itr lo (hi - lo).toNat) H):wpAny (model X.prog X.w) X.A (pyIter (.ref s.heap.objs.size)) (PIE X pins σ tg R) E { s with heap:=s.heap.push { cls:=.type "range",data:=.fields #[.int lo t,.int hi u,.int 1 v] },toks:=tk }:=by
 refine wpAny_pyIter_range (IsRange.new ..) (small_one h1 h2 h3 h4) ?_
 have I1:Inv X pins σ H { s with heap:=s.heap.push { cls:=.type "range",data:=.fields #[.int lo t,.int hi u,.int 1 v] },toks:=tk }:=I.kept fun b o e=>Hj _ e
 refine⟨(s.heap.push { cls:=.type "range",data:=.fields #[.int lo t,.int hi u,.int 1 v] }).objs.size,[(s.heap.push { cls:=.type "range",data:=.fields #[.int lo t,.int hi u,.int 1 v] }).objs.size],_,_,H,rfl,
  I1.kept (t':=tk) fun b o e=>Hj _ e,ki _ lo (hi - lo).toNat,?_,fun b hb=>?_,q⟩
 ·have e1:lo+((0:Nat):Int)*1=lo:=by simp
  have e2:(((hi - lo).toNat:Nat):Int) - ((0:Nat):Int)=Builtin.Range.rangeSize lo hi 1:=by rw[rangeSize_one];split<;>omega
  show IsRangeIter _ _ (lo+((0:Nat):Int)*1) ((((hi - lo).toNat:Nat):Int) - ((0:Nat):Int)) 1
  rw[e1,e2]
  exact HA _ rfl
 ·have e:b=(s.heap.push { cls:=.type "range",data:=.fields #[.int lo t,.int hi u,.int 1 v] }).objs.size:=by simpa using hb
  subst e
  exact I1.fpOk (Hy _) (I1.hok.fresh (Hy _))
def Dy(ta:TA):TI:=fun σ H R=>ta σ H fun vs H1=>∃ j:Int,vs=[.int j]∧-(2 ^ 62)≤j∧j<2 ^ 62∧R (Itr 0 j.toNat) H1
def Dx(ta:TA):TI:=fun σ H R=>ta σ H fun vs H1=>∃ i j:Int,vs=[.int i,.int j]∧(-(2 ^ 62)≤i∧i<2 ^ 62∧-(2 ^ 62)≤j∧j<2 ^ 62)∧R (Itr i (j - i).toNat) H1
theorem oy{a:Expr}{ta:TA}{p pos:Pos}(hg:Gl X "range")(hm:X.mg "range" = none)(ha:PA X [a] ta)(hs:starEach [a] X.env=[(false,eval a X.env)]:=by rfl):PI X tg (.Call (.Name "range" p) [a] [] pos) (Dy ta):=by
 intro pins s σ H R I h
 refine Call_ (U5 I hg hm boot_range (PyProof.Rows.callWith_type1 (thn (ha pos pins s σ H _ I h) fun us s1 ⟨vs,H1,I1,r1,q1⟩=>?_) hs rfl))
 obtain⟨j,e,q1,q2,q⟩:=q1
 subst e
 cases r1 with
 | cons r rr =>
  cases rr
  obtain⟨t,rfl⟩:=r
  exact call_range_1 (iY I1 (by omega) (by omega) q1 q2 (by simpa using q))
theorem ox{a b:Expr}{ta:TA}{p pos:Pos}(hg:Gl X "range")(hm:X.mg "range" = none)(ha:PA X [a,b] ta)(hs:starEach [a,b] X.env=[(false,eval a X.env),(false,eval b X.env)]:=by rfl)(hs2:starEach [b] X.env=[(false,eval b X.env)]:=by rfl) :
  PI X tg (.Call (.Name "range" p) [a,b] [] pos) (Dx ta):=by
 intro pins s σ H R I h
 refine Call_ (U5 I hg hm boot_range (PyProof.Rows.callWith_type1 (thn (ha pos pins s σ H _ I h) fun us s1 ⟨vs,H1,I1,r1,q1⟩=>?_) (by rw[hs,hs2]) (by rw[hs2];rfl)))
 obtain⟨i,j,e,⟨q1,q2,q3,q4⟩,q⟩:=q1
 subst e
 cases r1 with
 | cons r rr =>
  cases rr with
  | cons r' rr =>
   cases rr
   obtain⟨t,rfl⟩:=r
   obtain⟨t',rfl⟩:=r'
   exact call_range_2 (iY I1 q1 q2 q3 q4 q)
def EC(wi:TI)(g:TG)(tb:TS):TS:=fun D σ H=>wi σ H fun J H1=>∃ W:Nat→Nat→St→Hp→Prop,(∃ m,W 0 m σ H1)∧∀ i m σ H,W i m σ H →
 (J.stop i H∧D.nx σ H)∨(J.go i H∧∃ N:St→Hp→Prop,(∀ σ' H',N σ' H'→∃ m',m'<m∧W (i+1) m' σ' H')∧∀ x H',J.yld i H x H'→g x σ H' fun σ2 H2=>tb { D with nx:=N,ct:=N,bk:=D.nx } σ2 H2)
noncomputable def fN(fp:List Addr)(h:Heap):List (Addr × Obj):=fp.filterMap fun b=>(h.get? b).map fun o=>(b,o)
theorem C2{fp:List Addr}{h:Heap}{b:Addr}{o:Obj}(hb:b∈fp)(e:h.get? b=some o):(b,o)∈fN fp h:=KW.mpr ⟨b,hb,by rw[e];rfl⟩
theorem oF{fp:List Addr}{h:Heap}{p:Addr × Obj}(hp:p∈fN fp h):p.1∈fp∧h.get? p.1=some p.2:=by
 obtain⟨b,hb,e⟩:=KW.mp hp
 cases q:h.get? b with
 | none=>rw[q]at e;cases e
 | some o =>
  rw[q]at e
  have e':(b,o)=p:=Option.some.inj e
  subst e'
  exact⟨hb,q⟩
theorem Inv.pinned{pins:List (Addr × Obj)}{σ:St}{H:Hp}{s:Shared}{fp:List Addr}(I:Inv X pins σ H s)(hf:∀ b∈fp,V0 X pins H b)(ho:∀ b∈fp,∃ o,s.heap.get? b=some o∧∀ v,o.data ≠ .cell v):Inv X (pins++fN fp s.heap) σ H s :=
 I.pins_of fun p hp=>(HH.mp hp).elim (fun z=>I.pin p (HI _ z)) fun z=>by
  obtain⟨hb,e⟩:=oF z
  obtain⟨f0,f1,f2,_⟩:=hf p.1 hb
  obtain⟨o,e',d⟩:=ho p.1 hb
  rw[e]at e';cases e'
  exact⟨e,f0,f1,f2,d⟩
theorem Inv.unpinned{pins pl:List (Addr × Obj)}{σ:St}{H:Hp}{s:Shared}(I:Inv X (pins++pl) σ H s):Inv X pins σ H s:=I.pins_of fun p hp=>I.pin p (HI _ (Iq _ hp))
theorem Af{iter:Expr}{body:List Stmt}{wi:TI}{g:TG}{tb:TS}{pos:Pos}(hp:PassesOwn (model X.prog X.w) X.A X.env X.xe)(hc:X.calm=true)(hi:PI X tg iter wi)(hg:PG X tg g)(hb:PSs X body tb)
  (hs:∀ x,foldedSetIterable iter X.env x=pure x:=by intro _;rfl):PS X (.For tg iter body [] pos) (EC wi g tb):=by
 intro pins s σ H D I h
 refine wpAny_For (thn (hi pins s σ H _ I h) fun v s1 h1=>thn h1 fun itv s2 h2=>?_) hs
 obtain⟨it,fp,tn,J,H2,e,I2,T,st2,f2,W,⟨m0,w0⟩,turn⟩:=h2
 subst e
 have stat:∀{H':Hp},(∀ b∈fp,H' b=none)→∀ b∈fp,V0 X pins H' b:=fun hn b hb=>⟨hn b hb,(f2 b hb).2⟩
 refine codeAny_forLoop_any (fun n s'=>∃ i σ' H',Inv X pins σ' H' s'∧tn i s'.heap∧(∀ b∈fp,H' b=none)∧W i n σ' H') ?_ m0 ⟨0,σ,H2,I2,st2,fun b hb=>(f2 b hb).1,w0⟩
 rintro n s3 ⟨i,σ3,H3,I3,st3,fr3,w3⟩
 rcases turn i n σ3 H3 w3 with⟨stop,qn⟩|⟨go,N,hN,step⟩
 ·refine wpAny_passesOwn hp (thn (T.done X rfl rfl rfl hc i pins s3 σ3 H3 X.xe I3 (stat fr3) st3 stop) fun r s4 zz=>?_)
  obtain⟨hr,I4⟩:=zz
  subst hr
  exact wpAny_execs_nil ⟨σ3,H3,I4,qn⟩
 ·refine wpAny_passesOwn hp (thn (T.item X rfl rfl rfl hc i pins s3 σ3 H3 X.xe I3 (stat fr3) st3 go) fun r s4 zz=>?_)
  obtain⟨u,hr,h4⟩:=zz
  subst hr
  refine wpAny_passesOwn hp (thn h4 fun _ s5 zz=>?_)
  obtain⟨x,H5,I5,r5,y5,st5,fr5⟩:=zz
  have I5':=I5.pinned (stat fr5) (T.obj _ _ st5)
  refine wpAny_passesOwn hp (thn (hg _ s5 σ3 H5 x u _ I5' r5 (step x H5 y5)) fun _ s6 zz=>?_)
  obtain⟨σ6,H6,I6,q6⟩:=zz
  refine wpAny_passesOwn hp (thn (hb _ s6 σ6 H6 _ I6 q6) fun f s7 q7=>?_)
  have again:∀{σ7:St} {H7:Hp},Inv X (pins++fN fp s5.heap) σ7 H7 s7→N σ7 H7→∃ m,m<n∧∃ i σ' H',Inv X pins σ' H' s7∧tn i s7.heap∧(∀ b∈fp,H' b=none)∧W i m σ' H':=fun{σ7 H7} I7 n7=>by
   obtain⟨m',hm,w7⟩:=hN σ7 H7 n7
   refine⟨m',hm,i+1,σ7,H7,I7.unpinned,T.keep _ _ _ st5 fun b hb o e=>(I7.pin (b,o) (HI _ (HI _ (C2 hb e)))).1,fun b hb=>?_,w7⟩
   obtain⟨o,e,d⟩:=T.obj _ _ st5 b hb
   exact(I7.pin (b,o) (HI _ (HI _ (C2 hb e)))).2.1
  cases f with
  | next=>obtain⟨σ7,H7,I7,n7⟩:=q7;exact again I7 n7
  | cont=>obtain⟨σ7,H7,I7,n7⟩:=q7;exact again I7 n7
  | brk=>obtain⟨σ7,H7,I7,q7⟩:=q7;exact⟨σ7,H7,I7.unpinned,q7⟩
  | ret v=>obtain⟨x7,σ7,H7,I7,r7,q7⟩:=q7;exact⟨x7,σ7,H7,I7.unpinned,r7,q7⟩
end
noncomputable abbrev R2:=V→V→Hp→VK→Prop
def OpR(X:Cx)(f:Value→Value→Sem Value)(r:R2):Prop :=
 ∀(pins:List (Addr × Obj)) (s:Shared) (σ:St) (H:Hp) (x y:V) (v u:Value) (Q:VK),Inv X pins σ H s→m7 x v→m7 y u→r x y H Q →
  wpAny (model X.prog X.w) X.A (f v u) (EP X pins σ Q) X.xe s
def UnR(X:Cx)(f:Value→Sem Value)(r:V→Hp→VK→Prop):Prop :=
 ∀(pins:List (Addr × Obj)) (s:Shared) (σ:St) (H:Hp) (x:V) (v:Value) (Q:VK),Inv X pins σ H s→m7 x v→r x H Q →
  wpAny (model X.prog X.w) X.A (f v) (EP X pins σ Q) X.xe s
def v7(X:Cx)(f:Value)(r:List V→Hp→VK→Prop):Prop :=
 ∀(pins:List (Addr × Obj)) (s:Shared) (σ:St) (H:Hp) (xs:List V) (us:List Value) (Q:VK),Inv X pins σ H s→i6 xs us→r xs H Q →
  wpAny (model X.prog X.w) X.A (call f us) (EP X pins σ Q) X.xe s
def tOp(r:R2)(ta tb:TE):TE:=fun σ H Q=>ta σ H fun x H1=>tb σ H1 fun y H2=>r x y H2 Q
def tUn(r:V→Hp→VK→Prop)(ta:TE):TE:=fun σ H Q=>ta σ H fun x H1=>r x H1 Q
def rI(C:Int→Int→Prop)(g:Int→Int→V):R2:=fun x y H Q=>∃ i j,x = .int i∧y = .int j∧C i j∧Q (g i j) H
def rI0(g:Int→Int→V):R2:=fun x y H Q=>∃ i j,x = .int i∧y = .int j∧Q (g i j) H
noncomputable def rU(g:Int→V):V→Hp→VK→Prop:=fun x H Q=>∃ i,x = .int i∧Q (g i) H
section
variable {X:Cx} {a b c:Expr} {ta tb tc:TE} {pos:Pos}
theorem Bt(ha:PE X a ta)(hb:PE X b tb){pins:List (Addr × Obj)}{s:Shared}{σ:St}{H:Hp}{R:V→V→Hp→Prop}(I:Inv X pins σ H s)
  (h:ta σ H fun x H1=>tb σ H1 fun y H2=>R x y H2) {Q:Value→Shared→Prop} {f:Value→Value→Sem Value}
  (hf:∀ v u s2 x y H2,Inv X pins σ H2 s2→m7 x v→m7 y u→R x y H2→wpAny (model X.prog X.w) X.A (f v u) Q X.xe s2) :
  wpAny (model X.prog X.w) X.A (eval a X.env) (fun v s₁=>wpAny (model X.prog X.w) X.A (eval b X.env) (fun u s₂=>wpAny (model X.prog X.w) X.A (f v u) Q X.xe s₂) X.xe s₁) X.xe s:=by
 refine thn (ha pins s σ H _ I h) fun v s1 zz=>?_
 obtain⟨x,H1,I1,r1,q1⟩:=zz
 refine thn (hb pins s1 σ H1 _ I1 q1) fun u s2 zz=>?_
 obtain⟨y,H2,I2,r2,q2⟩:=zz
 exact hf v u s2 x y H2 I2 r1 r2 q2
theorem yp{op:Operator}{r:R2}(ho:OpR X (binaryOp op) r)(ha:PE X a ta)(hb:PE X b tb):PE X (.BinOp a op b pos) (tOp r ta tb):=by
 intro pins s σ H Q I h
 exact wpAny_BinOp (Bt ha hb I h fun v u s2 x y H2 I2 rx ry q=>ho pins s2 σ H2 x y v u Q I2 rx ry q)
theorem CO{op:UnaryOp}{r:V→Hp→VK→Prop}(ho:UnR X (unaryOp op) r)(ha:PE X a ta):PE X (.UnaryOp op a pos) (tUn r ta):=by
 intro pins s σ H Q I h
 exact UnaryOp_ (thn (ha pins s σ H _ I h) fun v s1 ⟨x,H1,I1,r1,q1⟩=>ho pins s1 σ H1 x v Q I1 r1 q1)
theorem opI{f:Value→Value→Sem Value}{C:Int→Int→Prop}{g:Int→Int→Int}
  (rule:∀(i j:Int) (t u:Tok) (s:Shared) (Q:Value→Shared→Prop) (E:Value→Shared→Prop),C i j→Q (.int (g i j) s.toks) { s with toks:=s.toks+1 }→wpAny (model X.prog X.w) X.A (f (.int i t) (.int j u)) Q E s) :
  OpR X f (rI C fun i j=>.int (g i j)):=by
 intro pins s σ H x y v u Q I rx ry h
 obtain⟨i,j,rfl,rfl,hc,q⟩:=h
 obtain⟨t,rfl⟩:=rx
 obtain⟨t',rfl⟩:=ry
 exact rule i j t t' s _ _ hc ⟨.int (g i j),H,I.tok _,⟨_,rfl⟩,q⟩
theorem Dd{f:Value→Value→Sem Value}{g:Int→Int→Int}
  (rule:∀(i j:Int) (t u:Tok) (s:Shared) (Q:Value→Shared→Prop) (E:Value→Shared→Prop),Q (.int (g i j) s.toks) { s with toks:=s.toks+1 }→wpAny (model X.prog X.w) X.A (f (.int i t) (.int j u)) Q E s) :
  OpR X f (rI0 fun i j=>.int (g i j)):=by
 intro pins s σ H x y v u Q I rx ry h
 obtain⟨i,j,rfl,rfl,q⟩:=h
 obtain⟨t,rfl⟩:=rx
 obtain⟨t',rfl⟩:=ry
 exact rule i j t t' s _ _ ⟨.int (g i j),H,I.tok _,⟨_,rfl⟩,q⟩
theorem Az{f:Value→Value→Sem Value}{g:Int→Int→Bool}
  (rule:∀(i j:Int) (t u:Tok) (s:Shared) (Q:Value→Shared→Prop) (E:Value→Shared→Prop),Q (.bool (g i j)) s→wpAny (model X.prog X.w) X.A (f (.int i t) (.int j u)) Q E s) :
  OpR X f (rI0 fun i j=>.bl (g i j)):=by
 intro pins s σ H x y v u Q I rx ry h
 obtain⟨i,j,rfl,rfl,q⟩:=h
 obtain⟨t,rfl⟩:=rx
 obtain⟨t',rfl⟩:=ry
 exact rule i j t t' s _ _ ⟨.bl (g i j),H,I,rfl,q⟩
def uk(i j:Int):Prop:=0≤j∧j≤1000000∧i.natAbs<2 ^ 64
theorem Ay:OpR X (binaryOp .Add) (rI0 fun i j=>.int (i+j)):=Dd fun _ _ _ _ _ _ _ q=>add_int q
theorem As:OpR X (binaryOp .Sub) (rI0 fun i j=>.int (i - j)):=Dd fun _ _ _ _ _ _ _ q=>sub_int q
theorem Av:OpR X (binaryOp .Mod) (rI (fun _ j=>0<j) fun i j=>.int (i % j)):=opI fun i j _ _ _ _ _ hc q=>by
 have h1:(0:Int)<j:=hc
 exact mod_int' (by omega) (by rw[Int.fmod_eq_emod_of_nonneg i (by omega)];exact q)
theorem Au:OpR X (binaryOp .Pow) (rI uk fun i j=>.int (i ^ j.toNat)):=opI fun _ _ _ _ _ _ _ hc q=>pow_int_small hc.1 hc.2.1 hc.2.2 q
theorem unI{f:Value→Sem Value}{g:Int→Int}
  (rule:∀(i:Int) (t:Tok) (s:Shared) (Q:Value→Shared→Prop) (E:Value→Shared→Prop),Q (.int (g i) s.toks) { s with toks:=s.toks+1 }→wpAny (model X.prog X.w) X.A (f (.int i t)) Q E s) :
  UnR X f (rU fun i=>.int (g i)):=by
 intro pins s σ H x v Q I rx h
 obtain⟨i,rfl,q⟩:=h
 obtain⟨t,rfl⟩:=rx
 exact rule i t s _ _ ⟨.int (g i),H,I.tok _,⟨_,rfl⟩,q⟩
theorem zr:UnR X (unaryOp .USub) (rU fun i=>.int (-i)):=unI fun _ _ _ _ _ q=>neg_int q
end
noncomputable def CI:V→V→Bool
 | .non,.non=>true|.non,.int _=>true|.int _,.non=>true|.non,.bl _=>true|.bl _,.non=>true|.non,.str _=>true|.str _,.non=>true
 | .int _,.int _=>true|.bl _,.bl _=>true|.str _,.str _=>true|.byt _,.byt _=>true
 | .int _,.str _=>true|.str _,.int _=>true|.bl _,.str _=>true|.str _,.bl _=>true
 | _,_=>false
def rEq:R2:=fun x y H Q=>CI x y=true∧Q (.bl (decide (x=y))) H
def rNe:R2:=fun x y H Q=>CI x y=true∧Q (.bl (!decide (x=y))) H
theorem nK{i j:Int}:decide (V.int i=V.int j)=(i == j):=by
 rw[JD]
 simp
theorem tJ{i j:Bool}:decide (V.bl i=V.bl j)=(i == j):=by
 rw[JD]
 simp
theorem nJ{i j:Str}:decide (V.str i=V.str j)=(i == j):=by
 rw[JD]
 simp
theorem nN{i j:Array UInt8}:decide (V.byt i=V.byt j)=(i.toList == j.toList):=by
 rw[JD]
 cases i
 cases j
 simp
section
variable {X:Cx} {a b c:Expr} {ta tb tc:TE} {pos:Pos}
theorem j4{pins:List (Addr × Obj)}{σ:St}{H:Hp}{s:Shared}{Q:VK}{k k':Bool}(I:Inv X pins σ H s)(q:Q (.bl k) H)(e:k=k'):EP X pins σ Q (.bool k') s:=by
 subst e
 exact⟨.bl k,H,I,rfl,q⟩
theorem Dc:OpR X (compareOp .Eq) rEq:=by
 intro pins s σ H x y v u Q I rx ry h
 obtain⟨hs,q⟩:=h
 cases x with
 | non =>
  cases rx
  cases y with
  | non=>cases ry;exact PySem.EqNone.eq_none_none (j4 I q (by simp))
  | bl j=>cases ry;exact PySem.EqNone.eq_none_bool (j4 I q (by simp))
  | int j=>obtain⟨t',rfl⟩:=ry;exact PySem.EqNone.eq_none_int (j4 I q (by simp))
  | str j=>obtain⟨t',rfl⟩:=ry;exact PySem.EqNone.eq_none_str (j4 I q (by simp))
  | _=>exact absurd (show false=true from hs) HJ
 | bl i =>
  cases rx
  cases y with
  | non=>cases ry;exact PySem.EqNone.eq_bool_none (j4 I q (by simp))
  | bl j=>cases ry;exact eq_bool (j4 I q tJ)
  | str j=>obtain⟨t',rfl⟩:=ry;exact PySem.EqMixed.eq_bool_str (j4 I q (by simp))
  | _=>exact absurd (show false=true from hs) HJ
 | int i =>
  obtain⟨t,rfl⟩:=rx
  cases y with
  | non=>cases ry;exact PySem.EqNone.eq_int_none (j4 I q (by simp))
  | int j=>obtain⟨t',rfl⟩:=ry;exact eq_int (j4 I q nK)
  | str j=>obtain⟨t',rfl⟩:=ry;exact PySem.EqMixed.eq_int_str (j4 I q (by simp))
  | _=>exact absurd (show false=true from hs) HJ
 | str i =>
  obtain⟨t,rfl⟩:=rx
  cases y with
  | non=>cases ry;exact PySem.EqNone.eq_str_none (j4 I q (by simp))
  | bl j=>cases ry;exact PySem.EqMixed.eq_str_bool (j4 I q (by simp))
  | int j=>obtain⟨t',rfl⟩:=ry;exact PySem.EqMixed.eq_str_int (j4 I q (by simp))
  | str j=>obtain⟨t',rfl⟩:=ry;exact eq_str (j4 I q nJ)
  | _=>exact absurd (show false=true from hs) HJ
 | byt i =>
  obtain⟨t,rfl⟩:=rx
  cases y with
  | byt j=>obtain⟨t',rfl⟩:=ry;exact PySem.W.eq_bytes (j4 I q nN)
  | _=>exact absurd (show false=true from hs) HJ
 | _=>cases y<;>exact absurd (show false=true from hs) HJ
theorem CV:OpR X (compareOp .NotEq) rNe:=by
 intro pins s σ H x y v u Q I rx ry h
 obtain⟨hs,q⟩:=h
 cases x with
 | non =>
  cases rx
  cases y with
  | non=>cases ry;exact PySem.EqNone.ne_none_none (j4 I q (by simp))
  | bl j=>cases ry;exact PySem.EqNone.ne_none_bool (j4 I q (by simp))
  | int j=>obtain⟨t',rfl⟩:=ry;exact PySem.EqNone.ne_none_int (j4 I q (by simp))
  | str j=>obtain⟨t',rfl⟩:=ry;exact PySem.EqNone.ne_none_str (j4 I q (by simp))
  | _=>exact absurd (show false=true from hs) HJ
 | bl i =>
  cases rx
  cases y with
  | non=>cases ry;exact PySem.EqNone.ne_bool_none (j4 I q (by simp))
  | bl j=>cases ry;exact ne_bool (j4 I q (congrArg not tJ))
  | str j=>obtain⟨t',rfl⟩:=ry;exact PySem.EqMixed.ne_bool_str (j4 I q (by simp))
  | _=>exact absurd (show false=true from hs) HJ
 | int i =>
  obtain⟨t,rfl⟩:=rx
  cases y with
  | non=>cases ry;exact PySem.EqNone.ne_int_none (j4 I q (by simp))
  | int j=>obtain⟨t',rfl⟩:=ry;exact ne_int (j4 I q (congrArg not nK))
  | str j=>obtain⟨t',rfl⟩:=ry;exact PySem.EqMixed.ne_int_str (j4 I q (by simp))
  | _=>exact absurd (show false=true from hs) HJ
 | str i =>
  obtain⟨t,rfl⟩:=rx
  cases y with
  | non=>cases ry;exact PySem.EqNone.ne_str_none (j4 I q (by simp))
  | bl j=>cases ry;exact PySem.EqMixed.ne_str_bool (j4 I q (by simp))
  | int j=>obtain⟨t',rfl⟩:=ry;exact PySem.EqMixed.ne_str_int (j4 I q (by simp))
  | str j=>obtain⟨t',rfl⟩:=ry;exact ne_str (j4 I q (congrArg not nJ))
  | _=>exact absurd (show false=true from hs) HJ
 | byt i =>
  obtain⟨t,rfl⟩:=rx
  cases y with
  | byt j=>obtain⟨t',rfl⟩:=ry;exact PySem.W.ne_bytes (j4 I q (congrArg not nN))
  | _=>exact absurd (show false=true from hs) HJ
 | _=>cases y<;>exact absurd (show false=true from hs) HJ
theorem CW:OpR X (compareOp .Lt) (rI0 fun i j=>.bl (decide (i<j))):=Az fun _ _ _ _ _ _ _ q=>lt_int q
theorem CY:OpR X (compareOp .LtE) (rI0 fun i j=>.bl (decide (i≤j))):=Az fun _ _ _ _ _ _ _ q=>le_int q
theorem CZ:OpR X (compareOp .Gt) (rI0 fun i j=>.bl (decide (j<i))):=Az fun _ _ _ _ _ _ _ q=>gt_int q
theorem OpR.or{f:Value→Value→Sem Value}{r r':R2}(h:OpR X f r)(h':OpR X f r'):OpR X f (fun x y H Q=>r x y H Q∨r' x y H Q):=by
 intro pins s σ H x y v u Q I rx ry q
 rcases q with q|q
 ·exact h pins s σ H x y v u Q I rx ry q
 ·exact h' pins s σ H x y v u Q I rx ry q
theorem sk(b:Expr){op:CmpOp}(h:op ≠ .In:=by decide)(h2:op ≠ .NotIn:=by decide):behindInMarks op b=false:=by
 have e1:(op == CmpOp.In)=false:=by cases op<;>first|rfl|exact absurd rfl h
 have e2:(op == CmpOp.NotIn)=false:=by cases op<;>first|rfl|exact absurd rfl h2
 cases b<;>simp[behindInMarks,e1,e2]
theorem wc{op:CmpOp}{r:R2}(ho:OpR X (compareOp op) r)(ha:PE X a ta)(hb:PE X b tb)(hm:behindInMarks op b=false):PE X (.Compare a [op] [b] pos) (tOp r ta tb):=by
 intro pins s σ H Q I h
 exact wpAny_Compare1 (Bt ha hb I h fun v u s2 x y H2 I2 rx ry q=>ho pins s2 σ H2 x y v u Q I2 rx ry q) hm
def Cp(t:TE):TT:=fun σ H Q=>t σ H fun x H'=>∃ k,x = .bl k∧Q k H'
theorem vP{op:CmpOp}{r:R2}(ho:OpR X (compareOp op) r)(ha:PE X a ta)(hb:PE X b tb)(hm:behindInMarks op b=false):PT X (.Compare a [op] [b] pos) (Cp (tOp r ta tb)):=by
 intro pins s σ H Q I h
 refine wpAny_isTrue_Compare1 (thn (ha pins s σ H _ I h) fun v s1 ⟨x,H1,I1,r1,q1⟩=>thn (hb pins s1 σ H1 _ I1 q1) fun u s2 ⟨y,H2,I2,r2,q2⟩ =>
  thn (ho pins s2 σ H2 x y v u _ I2 r1 r2 q2) fun c s3 ⟨z,H3,I3,r3,k,e,q3⟩=>?_) hm
 subst e
 cases r3
 exact wpAny_truthy_bool ⟨H3,I3,q3⟩
theorem gj:(sizeLine:Nat)<2 ^ 63:=by rw[sizeLine_eq];decide
theorem iB{x:V}{us:List Value}(r:i6 [x] us):∃ u,us=[u]∧m7 x u:=by
 cases r with
 | cons r1 r2=>cases r2;exact⟨_,rfl,r1⟩
theorem qI{x y:V}{us:List Value}(r:i6 [x,y] us):∃ u w',us=[u,w']∧m7 x u∧m7 y w':=by
 cases r with
 | cons r1 r2 =>
  cases r2 with
  | cons r3 r4=>cases r4;exact⟨_,_,rfl,r1,r3⟩
theorem tS:v7 X (.builtin "abs") (fun xs H Q=>∃ i,xs=[.int i]∧Q (.int (if i<0 then -i else i)) H):=by
 intro pins s σ H xs us Q I r h
 obtain⟨i,rfl,q⟩:=h
 obtain⟨u,rfl,t,rfl⟩:=iB r
 exact call_abs_int fun u tk=>⟨.int (if i<0 then -i else i),H,I.tok _,⟨_,rfl⟩,q⟩
theorem oT(hc:X.calm=true):v7 X (.builtin "max") (fun xs H Q=>∃ i j,xs=[.int i,.int j]∧Q (.int (if j > i then j else i)) H):=by
 intro pins s σ H xs us Q I r h
 obtain⟨i,j,rfl,q⟩:=h
 obtain⟨u,w',rfl,⟨t,rfl⟩,⟨t',rfl⟩⟩:=qI r
 refine max_two_ints (I.ok.hd hc) fun h' tk k=>⟨_,H,I.kept k,?_,q⟩
 by_cases hj:j > i
 ·rw[if_pos hj,if_pos hj];exact⟨_,rfl⟩
 ·rw[if_neg hj,if_neg hj];exact⟨_,rfl⟩
theorem oS(hc:X.calm=true):v7 X (.builtin "min") (fun xs H Q=>∃ i j,xs=[.int i,.int j]∧Q (.int (if j<i then j else i)) H):=by
 intro pins s σ H xs us Q I r h
 obtain⟨i,j,rfl,q⟩:=h
 obtain⟨u,w',rfl,⟨t,rfl⟩,⟨t',rfl⟩⟩:=qI r
 refine min_two_ints (I.ok.hd hc) fun h' tk k=>⟨_,H,I.kept k,?_,q⟩
 by_cases hj:j<i
 ·rw[if_pos hj,if_pos hj];exact⟨_,rfl⟩
 ·rw[if_neg hj,if_neg hj];exact⟨_,rfl⟩
end
structure BA(h:Heap)(x dx C:Addr)(mA:Str→Option Value):Prop where
 obj:h.get? x=some (PySem.W.instObj C dx)
 ns:h.Ns1 dx mA
 ne:dx≠x
theorem oG{h:Heap}{dx:Addr}{mA:Str→Option Value}(n:h.Ns1 dx mA):∃ od,h.get? dx=some od∧∀ name,PySem.W.lookIn name od=some (mA name):=by
 obtain⟨o,es,ep,ho,hd,hk,_,hm⟩:=n
 refine⟨o,ho,fun name=>?_⟩
 have e:=hm name
 unfold nsFind findBy at e
 rw[← Array.find?_toList]at e
 unfold PySem.W.lookIn
 rw[hd]
 dsimp only
 split
 ·rename_i y q
  rw[q]at e
  exact congrArg some e
 ·rename_i q
  rw[q]at e
  have a:es.toList.any (·.refKey)=false:=by
   rw[List.any_eq_false]
   intro y hy
   obtain⟨z,t,hkey⟩:=hk y (Array.mem_toList_iff.mp hy)
   simp[DictEntry.refKey,hkey]
  have a':¬ es.toList.any (·.refKey)=true:=by rw[a];exact HJ
  rw[if_neg a']
  exact congrArg some e
theorem BA.look{h:Heap}{x dx C:Addr}{mA:Str→Option Value}(I:BA h x dx C mA):∃ od,PySem.W.InstAt h x (PySem.W.instObj C dx) C (some od)∧∀ name,PySem.W.lookIn name od=some (mA name) :=
 let ⟨od,ho,hl⟩:=oG I.ns
 ⟨od,⟨I.obj,rfl,rfl,ho⟩,hl⟩
section
variable {prog:Program} {w:World} {A:Around} {E:Value→Shared→Prop} {s:Shared} {K:Hi} {x dx C f:Addr} {mA:Str→Option Value} {name:Str} {v:Value}
end
section
variable {P:Program} {w:World} {H H':Hp} {h h':Heap} {a C dx:Addr} {fs fs':List (Str × V)}
theorem wV(hok:HOk P w H h)(e:H a=some (.ins C dx fs)):∃ mA,BA h a dx C mA∧(∀ f,Bx (fs.lookup f) (mA f))∧PySem.Within mA (fs.map (·.1))∧fs.length≤1000∧H dx=some (.own a):=by
 obtain⟨d,z,ne,ob,mA,n,r,q⟩:=(show t6 P w H h a (.ins C dx fs)from hok a _ e)
 exact⟨mA,⟨ob,n,ne⟩,r,q,z,d⟩
end
structure Cls(K:Hi)(C:Addr):Prop where
 pg:PySem.W.plainGet K C Str.empty=true
 hd:PySem.W.hasDictIn K C=true
 po:PySem.W.plainOver K C=true
 sa:PySem.W.findIn K (.ref C) "__setattr__" = some (some (.builtin "object.__setattr__"))
theorem Cls.get{K:Hi}{C:Addr}(c:Cls K C)(f:Str):PySem.W.plainGet K C f=true:=c.pg
section
variable {X:Cx} {pins:List (Addr × Obj)} {σ:St} {H:Hp} {s:Shared} {a C dx:Addr} {fs:List (Str × V)} {f:Str} {v:V} {A:Around} {E:Value→Shared→Prop}
end
section
variable {X:Cx} {o e value:Expr} {f:Str} {pos pos' tpos:Pos} {ta tv:TE}
end
section
variable {X:Cx} {pins:List (Addr × Obj)} {σ:St} {H:Hp} {s:Shared} {A:Around} {E:Value→Shared→Prop} {Q:Value→Shared→Prop} {c:Value} {b:Bool}
inductive aC (K:Hi) (H:Hp):V→Value→Prop where
 | non:aC K H .non (.type "NoneType")
 | bl (x:Bool):aC K H (.bl x) (.type "bool")
 | int (i:Int):aC K H (.int i) (.type "int")
 | str (x:Str):aC K H (.str x) (.type "str")
 | flt (x:UInt64):aC K H (.flt x) (.type "float")
 | lst {a:Addr} {xs:List V} (e:H a=some (.lst xs)):aC K H (.ref a) (.type "list")
 | frz {a:Addr} {o:Obj} {xs:List V} (e:H a=some (.frz o (.lst xs))):aC K H (.ref a) (.type "list")
 | tup {a:Addr} {xs:List V} (e:H a=some (.tup xs)):aC K H (.ref a) (.type "tuple")
 | dK {a:Addr} {kvs:List (Key × V)} (e:H a=some (.dK kvs)):aC K H (.ref a) (.type "dict")
 | dT {a:Addr} {hs:List Int × List Int→Int} {kvs:List ((List Int × List Int) × Addr × V)} (e:H a=some (.dT hs kvs)):aC K H (.ref a) (.type "dict")
 | ins {a C dx:Addr} {fs:List (Str × V)} (e:H a=some (.ins C dx fs)) (cl:Cls K C) (ha:PySem.W.findIn K (.ref C) "__class__" = some (some (.builtin "object.__class__")))
   (hn:PySem.W.specialIn K (.builtin "object.__class__") "__get__" = some (some (.builtin "getset_descriptor.__get__"))) (htk:PySem.W.takesIn K (.builtin "object.__class__")=some true)
   (hm:PySem.W.mroIn K C (.type "object")=some true):aC K H (.ref a) (.ref C)
theorem J5{x:V}{u t:Value}(I:Inv X pins σ H s)(rx:m7 x u)(ty:aC X.K H x t)(e:PySem.W.kitOne X.K t c=some b)(h:∀ tk,Q (.bool b) { s with toks:=tk }) :
  wpAny (model X.prog X.w) A (call (.builtin "isinstance") [u,c]) Q E s:=by
 cases ty with
 | non=>cases(show u=Value.none from rx);exact PySem.W.kia_one PySem.W.kitx_none I.kIn True.intro e (fun z=>nomatch z) h
 | bl y=>cases(show u=Value.bool y from rx);exact PySem.W.kia_one PySem.W.kitx_bool I.kIn True.intro e (fun z=>nomatch z) h
 | int i=>obtain⟨t,q⟩:=(show ∃ t,u=Value.int i t from rx);cases q;exact PySem.W.kia_one PySem.W.kitx_int I.kIn True.intro e (fun z=>nomatch z) h
 | str y=>obtain⟨t,q⟩:=(show ∃ t,u=Value.str y t from rx);cases q;exact PySem.W.kia_one PySem.W.kitx_str I.kIn True.intro e (fun z=>nomatch z) h
 | flt y=>obtain⟨t,q⟩:=(show ∃ t,u=Value.float y t from rx);cases q;exact PySem.W.kia_one PySem.W.kitx_float I.kIn True.intro e (fun z=>nomatch z) h
 | @lst a xs ea =>
  cases(show u=Value.ref a from rx)
  obtain⟨_,_,n,_,h1⟩:=(show t6 X.prog X.w H s.heap a (.lst xs)from I.hok a _ ea)
  exact PySem.W.kia_one PySem.W.kitx_list I.kIn ⟨_,h1,rfl⟩ e (fun z=>nomatch z) h
 | @frz a ob xs ea =>
  cases(show u=Value.ref a from rx)
  obtain⟨_,_,_,n,_,h1⟩:=(show t6 X.prog X.w H s.heap a (.frz ob (.lst xs))from I.hok a _ ea)
  exact PySem.W.kia_one PySem.W.kitx_list I.kIn ⟨_,h1,rfl⟩ e (fun z=>nomatch z) h
 | @tup a xs ea =>
  cases(show u=Value.ref a from rx)
  obtain⟨_,_,_,p⟩:=(show t6 X.prog X.w H s.heap a (.tup xs)from I.hok a _ ea)
  obtain⟨o,h1,h2,_⟩:=p
  exact PySem.W.kia_one PySem.W.kitx_tuple I.kIn ⟨o,h1,h2⟩ e (fun z=>nomatch z) h
 | @dK a kvs ea =>
  cases(show u=Value.ref a from rx)
  obtain⟨_,_,vs,_,p⟩:=(show t6 X.prog X.w H s.heap a (.dK kvs)from I.hok a _ ea)
  obtain⟨o,es,ep,h1,h2,_⟩:=p
  exact PySem.W.kia_one PySem.W.kitx_dict I.kIn ⟨o,h1,h2.1⟩ e (fun z=>nomatch z) h
 | @dT a hs kvs ea =>
  cases(show u=Value.ref a from rx)
  obtain⟨_,_,xs,_,o,es,ep,h1,h2,_⟩:=(show t6 X.prog X.w H s.heap a (.dT hs kvs)from I.hok a _ ea)
  exact PySem.W.kia_one PySem.W.kitx_dict I.kIn ⟨o,h1,h2.1⟩ e (fun z=>nomatch z) h
 | @ins a C dx fs ea cl ha hn htk hm =>
  cases(show u=Value.ref a from rx)
  obtain⟨mA,O,_⟩:=wV I.hok ea
  obtain⟨od,J,_⟩:=O.look
  exact PySem.W.kia_one (PySem.W.kitx_own (cl.get _) cl.hd ha hn htk hm) I.kIn J e (fun z=>nomatch z) h
end
structure D3(k:Nat)(A:Around):Prop where
 hd:A.handled=none
 dp:A.depth+3*k+5<recursionLimit
 un:A.units+16*k+200<cLine
theorem D3.mono{j k:Nat}{A:Around}(r:D3 k A)(h:j≤k):D3 j A:=⟨r.hd,by have:=r.dp;omega,by have:=r.un;omega⟩
theorem D3.deeper{k:Nat}{A:Around}(r:D3 (k+1) A)(env:Env):D3 k (A.deeper env) :=
 ⟨r.hd,by have:=r.dp;show A.depth+1+3*k+5<_;omega,by have:=r.un;show A.units+3+16*k+200<_;omega⟩
theorem D3.in1{k:Nat}{A:Around}(r:D3 (k+1) A):D3 k A.in1 :=
 ⟨r.hd,by have:=r.dp;show A.depth+3*k+5<_;omega,by have:=r.un;show A.units+1+16*k+200<_;omega⟩
theorem D3.depth{k:Nat}{A:Around}(r:D3 k A):A.depth<recursionLimit:=by have:=r.dp;omega
theorem D3.units{k:Nat}{A:Around}(r:D3 k A):A.units+64<cLine:=by have:=r.un;omega
def Ez:TA:=fun _ H Q=>Q [] H
def Cw(ta:TE)(tr:TA):TA:=fun σ H Q=>ta σ H fun x H1=>tr σ H1 fun xs H2=>Q (x :: xs) H2
section
variable {X:Cx} {e:Expr} {es:List Expr} {te:TE} {t:TA} {pos:Pos}
theorem Ar:PA X [] Ez:=fun _ _ _ _ H Q I h=>Calls.spliced_nil ⟨[],H,I,.nil,h⟩
theorem wg(ha:PE X e te)(hr:PA X es t)(hs:starEach (e :: es) X.env=(false,eval e X.env) :: starEach es X.env:=by rfl):PA X (e :: es) (Cw te t):=by
 intro pos pins s σ H Q I h
 rw[hs]
 show wpAny _ _ (spliced ((false,eval e X.env) :: backTo pos (starEach es X.env))) _ _ s
 refine Calls.spliced_cons (thn (ha pins s σ H _ I h) fun u s1 zz=>?_)
 obtain⟨x,H1,I1,r1,q1⟩:=zz
 exact thn (hr pos pins s1 σ H1 _ I1 q1) fun us s2 ⟨xs,H2,I2,r2,q2⟩=>⟨x :: xs,H2,I2,.cons r1 r2,q2⟩
def Et(t:TA):TE:=fun σ H Q=>t σ H fun xs H1=>xs.length≤sizeLine∧∀ p,H1 p=none→Q (.ref p) (upd H1 p (.tup xs))
def EA(t:TA):TE:=fun σ H Q=>t σ H fun xs H1=>xs.length≤sizeLine∧∀ p,H1 p=none→Q (.ref p) (upd H1 p (.lst xs))
theorem Al{x1}(h:PA X es t):PE X (.Tuple es x1 pos) (Et t):=by
 intro pins s σ H Q I hq
 refine wpAny_Tuple_spliced (thn (h pos pins s σ H _ I hq) fun us s1 ⟨xs,H1,I1,r,z,q⟩=>⟨by rw[← r.length];exact z,?_⟩)
 have hf:H1 s1.heap.objs.size=none:=I1.hok.fresh (Hy _)
 refine⟨.ref s1.heap.objs.size,upd H1 s1.heap.objs.size (.tup xs),I1.laid (t':=s1.toks) (fun b u e=>Hj _ e) (Hy _) ?_,rfl,q _ hf⟩
 exact⟨z,us,r,⟨_,HA _ rfl,rfl,_,rfl⟩⟩
theorem rO(h:PA X es t):PE X (.List es pos) (EA t):=by
 intro pins s σ H Q I hq
 refine wpAny_List_spliced (thn (h pos pins s σ H _ I hq) fun us s1 ⟨xs,H1,I1,r,z,q⟩=>⟨by rw[← r.length];exact z,?_⟩)
 have hf:H1 s1.heap.objs.size=none:=I1.hok.fresh (Hy _)
 refine⟨.ref s1.heap.objs.size,upd H1 s1.heap.objs.size (.lst xs),I1.laid (t':=s1.toks) (fun b u e=>Hj _ e) (Hy _) ?_,rfl,q _ hf⟩
 exact⟨z,us,0,r,HA _ rfl⟩
end
noncomputable abbrev Sp:=List V→Hp→VK→XK→Prop
noncomputable abbrev CXT:=List Env→Hp→Shared→XK→Value→Shared→Prop
structure lJ(P:Program)(w:World)(K:Hi)(mg:Str→Option Value)(base:Heap)(A:Around)(outer:List Env)(s:Shared)(H:Hp):Prop where
 frames:A.frames=some outer
 mod:Mod K mg base
 bs:∀ b o,base.get? b=some o→s.heap.get? b=some o∧H b=none
 bsz:base.objs.size≤s.heap.objs.size
 funs:s.heap.FunFrames base outer
 frf:∀ b∈frs outer,H b=none
 hok:HOk P w H s.heap
 bare:AllBare s.gens
def CE(outer:List Env)(P:Program)(w:World)(H:Hp)(s:Shared)(Q:VK)(u:Value)(s':Shared):Prop :=
 ∃ v H',s'.os=s.os∧AllBare s'.gens∧Un (frs outer) [] H H' s.heap s'.heap∧HOk P w H' s'.heap∧m7 v u∧Q v H'
def CR(CX:CXT)(outer:List Env)(P:Program)(w:World)(H:Hp)(s:Shared)(Q:VK)(E:XK)(r:Result)(s':Shared):Prop :=
 match r with
 | .ok (.ret u)=>CE outer P w H s Q u s'
 | .ok _=>False
 | .error e=>CX outer H s E e s'
structure N3(P:Program)(w:World)(K:Hi)(mg:Str→Option Value)(base:Heap)(CX:CXT)(k:Nat)(f:Addr)(fd:FuncData)(ps:List Str)(sp:Sp):Prop where
 len:∀ vs H Q E,sp vs H Q E→vs.length=ps.length
 run:∀(A:Around) (outer:List Env) (s:Shared) (H:Hp) (args:Args) (us:List Value) (vs:List V) (Q:VK) (E:XK),D3 k A→lJ P w K mg base A outer s H→BindsTo s fd args (ps.zip us)→i6 vs us→sp vs H Q E →
  codeAny (model P w) A (.call (.ref f) args) (CR CX outer P w H s Q E) s
theorem N3.mono{P:Program}{w:World}{K:Hi}{mg:Str→Option Value}{base:Heap}{CX:CXT}{j k:Nat}{f:Addr}{fd:FuncData}{ps:List Str}{sp:Sp}(F:N3 P w K mg base CX j f fd ps sp)(h:j≤k) :
  N3 P w K mg base CX k f fd ps sp:=⟨F.len,fun A outer s H args us vs Q E hr=>F.run A outer s H args us vs Q E (hr.mono h)⟩
theorem N3.imp{P:Program}{w:World}{K:Hi}{mg:Str→Option Value}{base:Heap}{CX:CXT}{k:Nat}{f:Addr}{fd:FuncData}{ps:List Str}{sp sp':Sp}(F:N3 P w K mg base CX k f fd ps sp)
  (h:∀ vs H Q E,sp' vs H Q E→sp vs H Q E):N3 P w K mg base CX k f fd ps sp' :=
 ⟨fun vs H Q E q=>F.len vs H Q E (h _ _ _ _ q),fun A outer s H args us vs Q E hr he hb hv hs=>F.run A outer s H args us vs Q E hr he hb hv (h _ _ _ _ hs)⟩
theorem lJ.in1{P:Program}{w:World}{K:Hi}{mg:Str→Option Value}{base:Heap}{A:Around}{outer:List Env}{s:Shared}{H:Hp}(e:lJ P w K mg base A outer s H) :
  lJ P w K mg base A.in1 outer s H:=⟨e.frames,e.mod,e.bs,e.bsz,e.funs,e.frf,e.hok,e.bare⟩
section
variable {X:Cx} {pins:List (Addr × Obj)} {σ:St} {H:Hp} {s s':Shared}
theorem Inv.env0(I:Inv X pins σ H s):lJ X.prog X.w X.K X.mg X.base X.A X.stack s H :=
 ⟨I.ok.frames,I.ok.mod,I.bs,Hx I.ok.bsz I.sz,I.stack,I.stkFree,I.hok,I.bare⟩
theorem Inv.after{Q:VK}{u:Value}(I:Inv X pins σ H s)(h:CE X.stack X.prog X.w H s Q u s'):EP X pins σ Q u s':=by
 obtain⟨v,H',os,bare,un,hok,r,q⟩:=h
 obtain⟨hh,g,d,t,os'⟩:=s'
 obtain rfl:os'=s.os:=os
 exact⟨v,H',I.call (h':=hh) (g':=g) (d':=d) (t':=t) (ch:=[]) un hok bare (fun b z=>absurd z (by simp)),r,q⟩
end
def Cy(sp:Sp)(dvs:List V)(E:XK)(t:TA):TE:=fun σ H Q=>t σ H fun vs H1=>sp (vs++dvs) H1 Q E
def cM(K:Hi)(fd:FuncData)(ps:List Str)(ds:List Value):Prop :=
 ∀(s:Shared) (us:List Value),K.In s.heap→(us++ds).length=ps.length→BindsTo s fd ⟨us,[]⟩ (ps.zip (us++ds))
theorem cM.all{K:Hi}{fd:FuncData}{ps:List Str}(h:∀ us:List Value,us.length=ps.length→bindArgs fd ⟨us,[]⟩=pure (ps.zip us)):cM K fd ps []:=fun s us _ hl=>by
 rw[Jd]at hl ⊢
 exact .of_eq (h us hl)
def gO(CX:CXT)(X:Cx)(E:XK):Prop:=∀(pins:List (Addr × Obj)) (σ:St) (H:Hp) (s:Shared) (e:Value) (s':Shared),Inv X pins σ H s→CX X.stack H s E e s'→X.xe e s'
section
variable {X:Cx} {CX:CXT} {k:Nat} {f C:Addr} {fd:FuncData} {ps:List Str} {sp:Sp} {dvs:List V} {ds:List Value} {E:XK} {x m:Str} {p pos apos:Pos} {e o:Expr} {es:List Expr} {ta:TE} {t:TA}
theorem zT{pins:List (Addr × Obj)}{σ:St}{H:Hp}{s:Shared}{Q:VK}{us:List Value}{vs:List V}(F:N3 X.prog X.w X.K X.mg X.base CX k f fd ps sp)(hr:D3 k X.A)(hb:cM X.K fd ps ds)(hd:i6 dvs ds)(hx:gO CX X E)
  (I:Inv X pins σ H s) (r:i6 vs us) (h:sp (vs++dvs) H Q E):wpAny (model X.prog X.w) X.A (call (.ref f) us) (EP X pins σ Q) X.xe s:=by
 have r2:i6 (vs++dvs) (us++ds):=r.append hd
 have hl:(us++ds).length=ps.length:=by rw[← r2.length];exact F.len _ _ _ _ h
 refine wpAny_call (codeAny_mono (F.run X.A X.stack s H ⟨us,[]⟩ (us++ds) (vs++dvs) Q E hr I.env0 (hb s us I.kIn hl) r2 h) fun r s' hq=>?_)
 cases r with
 | error e=>exact hx pins σ H s e s' I hq
 | ok fl =>
  cases fl with
  | ret u=>exact I.after hq
  | next=>exact False.elim hq
  | brk=>exact False.elim hq
  | cont=>exact False.elim hq
theorem wd(F:N3 X.prog X.w X.K X.mg X.base CX k f fd ps sp)(hr:D3 k X.A)(hg:Gl X x)(hm:X.mg x=some (.ref f))(hk:PySem.W.keepIn X.K (.ref f)=true)(hb:cM X.K fd ps ds)(hd:i6 dvs ds)(hx:gO CX X E)
  (ha:PA X (e :: es) t) (hdb:(x == ("__debug__" : Str))=false:=by decide) (he:starEach (e :: es) X.env=(false,eval e X.env) :: starEach es X.env:=by rfl) (hpl:(backTo pos (starEach es X.env)).any (·.1)=false:=by rfl) :
  PE X (.Call (.Name x p) (e :: es) [] pos) (Cy sp dvs E t):=by
 intro pins s σ H Q I h
 refine wpAny_Call_Name_kw (wD I hg hm ?_ hdb)
 refine PySem.W.callWith_K (h₀:=X.base) I.ok.mod.kin hk (thn (ha pos pins s σ H _ I h) fun us s1 ⟨vs,H1,I1,r,q⟩=>⟨I1.kIn,?_⟩) he hpl
 exact zT F hr hb hd hx I1 r q
end
section
variable {X:Cx} {CX:CXT} {k:Nat} {f C:Addr} {fd:FuncData} {ps ks:List Str} {sp:Sp} {E:XK} {x m:Str} {p pos apos kpos:Pos} {e o:Expr} {es:List Expr} {kws:List Keyword} {te ta:TE} {t tk:TA} {nm:Option Str}
variable {g:List Value→List Value→List Value} {gV:List V→List V→List V}
end
structure g5(N P:List Str)(sc:Scope):Prop where
 kind:sc.kind = .function
 co:sc.isCoroutine=false
 gen:sc.isGenerator=false
 nd:N.Nodup
 pre:N.take P.length=P
 par:∀ x∈P,sc.names.lookup x=some .local∨sc.names.lookup x=some .cell
 nofree:∀ y∈sc.names,y.2 ≠ .free
theorem eK{kindOf:Str→Option NameKind}{x:Str}:∀{binds:List (Str × Value)} {m:Str→Option Value},(∀ v,(x,v)∉binds)→bindL kindOf binds m x=m x
 | [],_,_=>rfl
 | (n,v) :: r,m,h=>by
  unfold bindL
  rw[eK fun w hw=>h w (Hl _ hw)]
  split
  ·have:x≠n:=by rintro rfl;exact h v Hq
   simp[this]
  ·rfl
theorem eM{kindOf:Str→Option NameKind}{x:Str}:∀{binds:List (Str × Value)} {m:Str→Option Value},(∀ v,(x,v)∉binds)→bindC kindOf binds m x=m x
 | [],_,_=>rfl
 | (n,v) :: r,m,h=>by
  unfold bindC
  rw[eM fun w hw=>h w (Hl _ hw)]
  split
  ·rfl
  ·have:x≠n:=by rintro rfl;exact h v Hq
   simp[this]
theorem eL{kindOf:Str→Option NameKind}{x:Str}{v:Value}:∀{P:List Str} {vs:List Value} {i:Nat} {m:Str→Option Value},P.Nodup→P[i]? = some x→vs[i]? = some v→kindOf x=some .local →
  bindL kindOf (P.zip vs) m x=some v
 | [],_,_,_,_,h,_,_=>by simp at h
 | _ :: _,[],_,_,_,_,h,_=>by simp at h
 | p :: P,w :: vs,0,m,nd,h1,h2,hk=>by
  simp at h1 h2;subst h1;subst h2
  show bindL kindOf ((p,w) :: P.zip vs) m p=_
  unfold bindL
  rw[eK fun v hv=>(JF.mp nd).1 (Kq hv).1,if_pos hk]
  simp
 | p :: P,w :: vs,i+1,m,nd,h1,h2,hk=>by
  show bindL kindOf ((p,w) :: P.zip vs) m x=_
  unfold bindL
  exact eL (i:=i) (JF.mp nd).2 (by simpa using h1) (by simpa using h2) hk
theorem eN{kindOf:Str→Option NameKind}{x:Str}{v:Value}:∀{P:List Str} {vs:List Value} {i:Nat} {m:Str→Option Value},P.Nodup→P[i]? = some x→vs[i]? = some v→kindOf x≠some .local →
  bindC kindOf (P.zip vs) m x=some v
 | [],_,_,_,_,h,_,_=>by simp at h
 | _ :: _,[],_,_,_,_,h,_=>by simp at h
 | p :: P,w :: vs,0,m,nd,h1,h2,hk=>by
  simp at h1 h2;subst h1;subst h2
  show bindC kindOf ((p,w) :: P.zip vs) m p=_
  unfold bindC
  rw[eM fun v hv=>(JF.mp nd).1 (Kq hv).1,if_neg hk]
  simp
 | p :: P,w :: vs,i+1,m,nd,h1,h2,hk=>by
  show bindC kindOf ((p,w) :: P.zip vs) m x=_
  unfold bindC
  exact eN (i:=i) (JF.mp nd).2 (by simpa using h1) (by simpa using h2) hk
noncomputable def start(N:List Str)(vs:List V):St:=vs.map some++IJ (N.length - vs.length) none
noncomputable def jO(CX:CXT)(P:Program)(w:World)(K:Hi)(mg:Str→Option Value)(base:Heap)(N:List Str)(qual:Str)(scope:Scope)(f:Addr)(cd:Value)(A:Around)(outer:List Env)(s:Shared)(H:Hp)(E:XK):Cx where
 prog:=P
 w:=w
 K:=K
 mg:=mg
 base:=base
 A:=A.deeper (envOfC qual scope s.heap.objs.size f cd)
 N:=N
 s₀:=s
 H₀:=H
 env:=envOfC qual scope s.heap.objs.size f cd
 outer:=outer
 stack:=envOfC qual scope s.heap.objs.size f cd :: outer
 ex:=[]
 calm:=true
 fn:=fun _=>true
 pn:=[]
 xe:=fun e s'=>wpAny (model P w) (A.deeper (envOfC qual scope s.heap.objs.size f cd)) (leaving (envOfC qual scope s.heap.objs.size f cd) e) (fun _ s''=>CX outer H s E e s'') (fun e' s''=>CX outer H s E e' s'') s'
theorem jU{sc:Scope}{n:Nat}{x:Str}(h:sc.names.lookup x=some .cell):∃ c,(cellsFrom n sc.names []).lookup x=some c:=by
 have q:=PySem.W.cellsFrom_some sc.names n [] (.inl h)
 exact Option.isSome_iff_exists.mp q
theorem oK{CX:CXT}{P:Program}{w:World}{K:Hi}{mg:Str→Option Value}{base:Heap}{N ps:List Str}{qual:Str}{scope:Scope}{f:Addr}{cd:Value}{A:Around}{outer:List Env}{s s1:Shared}{H:Hp}{E:XK}{us:List Value}{vs:List V}
  (S:g5 N ps scope) (hd:A.handled=none) (e0:lJ P w K mg base A outer s H) (hl:vs.length=ps.length) (r:i6 vs us)
  (x:InCallC s s.heap.objs.size (bindL (envOfC qual scope s.heap.objs.size f cd).kindOf (ps.zip us) fun _=>none) (cellsFrom (s.heap.objs.size+1) scope.names []) (bindC (envOfC qual scope s.heap.objs.size f cd).kindOf (ps.zip us) fun _=>none) s1) :
  Inv (jO CX P w K mg base N qual scope f cd A outer s H E) [] (start N vs) H s1:=by
 have hpl:ps.length≤N.length:=by have:=congrArg Jj S.pre;rw[HS]at this;omega
 obtain⟨h1,tk,rfl,hk⟩:=x.done
 have noA:∀ b:Addr,b∉(jO CX P w K mg base N qual scope f cd A outer s H E).ex:=fun b z=>absurd (show b∈([]:List Addr)from z) (by simp)
 refine⟨⟨e0.mod,S.kind,rfl,rfl,Hy _,fun y z c h1 h2=>?_,fun y hy=>?_,fun y c _ h=>?_,fun _=>hd,Around.frames_deeper e0.frames,.inr ⟨rfl,rfl⟩,fun b z=>absurd z (noA b),e0.bs,e0.bsz,fun b _ _=>noA b,fun b z=>absurd z (noA b),e0.funs,e0.frf⟩,
  rfl,e0.bare,Un.kept hk,⟨_,x.toInCall.ns,fun i y v h1 h2 h3=>?_⟩,fun y c h=>⟨_,x.cell y c h⟩,e0.hok.fresh (Hy _),fun y c h=>?_,fun p hp=>absurd (show p∈([]:List (Addr × Obj))from hp) (by simp),e0.hok.kept hk,?_⟩
 ·exact name_of_addr x.apart (PySem.mem_of_lookup h1) (PySem.mem_of_lookup h2)
 ·have hy:scope.names.lookup y=some .cell∨scope.names.lookup y=some .free:=hy
  rcases hy with hy|hy
  ·exact jU hy
  ·exact absurd rfl (S.nofree _ (PySem.mem_of_lookup hy))
 ·exact Jn (x.above y c (PySem.mem_of_lookup h))
 ·have hi:i<vs.length:=by
   unfold start at h2
   by_cases hi:i<vs.length
   ·exact hi
   ·rw[Ig (by simpa using hi)]at h2
    rw[Ir]at h2
    split at h2<;>cases h2
  have ha:vs[i]? = some v:=by
   unfold start at h2
   rw[IB (by simpa using hi),HK]at h2
   cases e:vs[i]? with
   | none=>rw[e]at h2;cases h2
   | some a=>rw[e]at h2;cases h2;rfl
  obtain⟨u,hu,rv⟩:=r.get ha
  have hp:ps[i]? = some y:=by
   rw[← S.pre,Ka (by omega)];exact h1
  have ndP:ps.Nodup:=by rw[← S.pre];exact S.nd.sublist (List.take_sublist _ _)
  refine⟨u,rv,?_⟩
  rcases S.par y (HG hp)with k|k
  ·exact .inl ⟨k,eL ndP hp hu k⟩
  ·obtain⟨c,e⟩:=jU (n:=s.heap.objs.size+1) k
   refine .inr ⟨.inl k,c,e,?_⟩
   have q:=x.cell y c e
   rw[eN ndP hp hu (by show scope.names.lookup y≠_;rw[k];decide)]at q
   exact q
 ·exact e0.hok.fresh (Jn (x.above y c (PySem.mem_of_lookup h)))
 ·unfold start
  show _=N.length
  rw[HE,Hk,Jp]
  omega
theorem DN{CX:CXT}{P:Program}{w:World}{K:Hi}{mg:Str→Option Value}{base:Heap}{k:Nat}{f:Addr}{name qual:Str}{params:Arguments}{body:List Stmt}{scope:Scope}{dV kV doc pm cdv ct oc:Value}{an od:Option Addr}
  {osl:Array (Option Value)} {N ps:List Str} {sp:Sp} (lk:K.lookup f=some ⟨oc,od,.func (PySem.W.fnOf name qual params body scope dV kV doc pm an cdv ct),osl⟩) (hcd:PySem.W.codeIn K cdv qual=true) (S:g5 N ps scope)
  (len:∀ vs H Q E,sp vs H Q E→vs.length=ps.length)
  (hbody:∀(A:Around) (outer:List Env) (s:Shared) (H:Hp) (vs:List V) (Q:VK) (E:XK),D3 k (A.deeper (envOfC qual scope s.heap.objs.size f cdv))→sp vs H Q E →
   ∃ t,PSs (jO CX P w K mg base N qual scope f cdv A outer s H E) body t∧t { nx:=fun _ H'=>Q .non H',rt:=Q } (start N vs) H) :
  N3 P w K mg base CX (k+1) f (PySem.W.fnOf name qual params body scope dV kV doc pm an cdv ct) ps sp:=by
 refine⟨len,fun A outer s H args us vs Q E hr e0 hb r hsp=>?_⟩
 have hl:=len _ _ _ _ hsp
 have KX:K.In s.heap:=e0.mod.kin.keeps fun b o e=>(e0.bs b o e).1
 have lim:s.heap.NoLimit:=e0.mod.nolimit.keeps fun b o e=>(e0.bs b o e).1
 have hkind:∀ y∈ps.zip us,scope.names.lookup y.1=some .local∨(scope.names.lookup y.1=some .cell∧((cellsFrom (s.heap.objs.size+1) scope.names []).lookup y.1).isSome=true):=fun⟨n,v⟩ hy=>by
  rcases S.par n (Kq hy).1 with q|q
  ·exact .inl q
  ·exact .inr ⟨q,PySem.W.cellsFrom_some _ _ _ (.inl q)⟩
 refine codeAny_call_function hr.depth (KX _ _ lk) rfl S.co S.gen rfl (PySem.W.codeRec_of KX hcd) (hb _ _ _ _ ?_)
 refine wpAny_newFunctionEnv_cells S.kind hkind fun env he s1 x=>?_
 subst he
 refine⟨lim.keeps x.toInCall.keep,codeAny_func ?_⟩
 obtain⟨t,ht,hq⟩:=hbody A outer s H vs Q E (hr.deeper _) hsp
 have I:Inv (jO CX P w K mg base N qual scope f cdv A outer s H E) [] (start N vs) H s1:=oK S hr.hd e0 hl r x
 refine wpAny_mono (ht [] s1 (start N vs) H _ I hq) (fun fl s' hs=>?_) fun e s' hs=>hs
 have fin:∀{σ':St} {H':Hp} {v:V} {u:Value},Inv (jO CX P w K mg base N qual scope f cdv A outer s H E) [] σ' H' s'→m7 v u→Q v H'→CE outer P w H s Q u s' :=
  fun{σ' H' v u} J rv q=>⟨v,H',J.os,J.bare,J.base,J.hok,rv,q⟩
 cases fl with
 | ret u =>
  obtain⟨v,σ',H',J,rv,q⟩:=hs
  exact fin J rv q
 | next =>
  obtain⟨σ',H',J,q⟩:=hs
  exact fin (v:=V.non) (u:=Value.none) J rfl q
 | brk =>
  obtain⟨_,_,_,q⟩:=hs
  exact False.elim q
 | cont =>
  obtain⟨_,_,_,q⟩:=hs
  exact False.elim q
section
variable {X:Cx} {x:Str} {p pos:Pos} {e:Expr} {es:List Expr} {t:TA} {id T:String} {r:List V→Hp→VK→Prop}
def tCB(r:List V→Hp→VK→Prop)(t:TA):TE:=fun σ H Q=>t σ H fun vs H1=>r vs H1 Q
theorem rS(hc:v7 X (.builtin id) r)(hg:Gl X x)(hm:X.mg x=none)(hv:bootBuiltins x=some (.builtin id))(ha:PA X (e :: es) t)(hn:x ≠ "__name__" := by decide)(hdb:(x == ("__debug__" : Str))=false:=by decide)
  (he:starEach (e :: es) X.env=(false,eval e X.env) :: starEach es X.env:=by rfl) (hpl:(backTo pos (starEach es X.env)).any (·.1)=false:=by rfl):PE X (.Call (.Name x p) (e :: es) [] pos) (tCB r t):=by
 intro pins s σ H Q I h
 refine wpAny_Call_Name_kw (U5 I hg hm hv ?_ hn hdb)
 exact PyProof.Rows.callWith_builtin1 (thn (ha pos pins s σ H _ I h) fun us s1 ⟨vs,H1,I1,r1,q1⟩=>hc pins s1 σ H1 vs us Q I1 r1 q1) he hpl
theorem eo(hc:v7 X (.type T) r)(hg:Gl X x)(hm:X.mg x=none)(hv:bootBuiltins x=some (.type T))(ha:PA X (e :: es) t)(hn:x ≠ "__name__" := by decide)(hdb:(x == ("__debug__" : Str))=false:=by decide)
  (he:starEach (e :: es) X.env=(false,eval e X.env) :: starEach es X.env:=by rfl) (hpl:(backTo pos (starEach es X.env)).any (·.1)=false:=by rfl):PE X (.Call (.Name x p) (e :: es) [] pos) (tCB r t):=by
 intro pins s σ H Q I h
 refine wpAny_Call_Name_kw (U5 I hg hm hv ?_ hn hdb)
 exact PyProof.Rows.callWith_type1 (thn (ha pos pins s σ H _ I h) fun us s1 ⟨vs,H1,I1,r1,q1⟩=>hc pins s1 σ H1 vs us Q I1 r1 q1) he hpl
end
end L2
namespace HT
open PySem PyProof.Rows
noncomputable def sD:List Int→List Int→Bool
 | [],[]=>false
 | [],_ :: _=>true
 | _ :: _,[]=>false
 | x :: xs,y :: ys=>if x=y then sD xs ys else decide (x<y)
theorem sZ(A:Around)(s:Shared)(a:Int)(t:Tok)(c:Int)(u:Tok):∃ e,SeqAt.EqAt A s (.int a t) (.int c u) e∧(e=true↔a=c) :=
 ⟨(a == c),SeqAt.EqAt.int_int a t c u,by simp⟩
section
open PySem.SeqAt
open PySem.AutoSeq1 (wpAny_loadPart')
open PySem.MeetsSeq PySem.MeetsSeq2 PySem.MeetsSeq3
end
section
variable {prog:Program} {w:World} {A:Around} {E:Value→Shared→Prop} {s:Shared}
noncomputable def sIx(n d:Nat):Option Int→Nat
 | none=>d
 | some v=>if v<0 then(v+(n:Int)).toNat else min v.toNat n
theorem zO(n d:Nat)(hd:d≤n)(o:Option Int):sIx n d o≤n:=by
 cases o with
 | none=>exact hd
 | some v =>
  show(if v<0 then(v+(n:Int)).toNat else min v.toNat n)≤n
  by_cases hv:v<0
  ·rw[if_pos hv];omega
  ·rw[if_neg hv];exact Ki _ _
theorem nS(v:Int)(n d:Nat):(if v<0 then max (v+(n:Int)) 0 else min v (n:Int))=((sIx n d (some v):Nat):Int):=by
 show(if v<0 then max (v+(n:Int)) 0 else min v (n:Int))=(((if v<0 then(v+(n:Int)).toNat else min v.toNat n):Nat):Int)
 by_cases hv:v<0
 ·simp only[if_pos hv];omega
 ·simp only[if_neg hv];omega
theorem lC(lo hi:Option Int)(n:Nat):Builtin.Slice.sliceAdjust lo hi 1 (n:Int)=(((sIx n 0 lo:Nat):Int),((sIx n n hi:Nat):Int)):=by
 have h1:¬ ((1:Int)<0):=by omega
 unfold Builtin.Slice.sliceAdjust
 simp only[h1,if_false]
 refine Prod.ext ?_ ?_
 ·cases lo with
  | none=>rfl
  | some v=>exact nS v n 0
 ·cases hi with
  | none=>rfl
  | some v=>exact nS v n n
theorem kM(i j:Nat):Builtin.Slice.slicePlaces (i:Int) (j:Int) 1=j - i:=by
 unfold Builtin.Slice.slicePlaces
 have h1:(1:Int) > 0:=by omega
 simp only[h1,if_true,Int.ediv_one]
 split<;>omega
theorem bH{v:Value}{o:Option Int}{Q:Option Int→Shared→Prop}(p:IsPart v o)(h:Q o s):wpAny (model prog w) A (Builtin.Slice.slicePartIndex v) Q E s:=by
 cases p with
 | none=>exact slicePart_none h
 | int i t=>exact slicePart_int h
theorem Y2{sl:Addr}{vl vu:Value}{lo hi:Option Int}{n:Nat}{Q:Int × Int × Nat→Shared→Prop}(hs:s.heap.IsSliceOf sl vl vu .none)(pl:IsPart vl lo)(pu:IsPart vu hi)
  (h:Q (((sIx n 0 lo:Nat):Int),1,sIx n n hi - sIx n 0 lo) s):wpAny (model prog w) A (Builtin.Slice.sliceApplied (.ref sl) (pure (n:Int))) Q E s:=by
 obtain⟨os,hos,hcs,hds⟩:=id hs
 unfold Builtin.Slice.sliceApplied Builtin.Slice.sliceFields
 refine Hh (Hh (wpAny_field hos hds (x:=vl) rfl (Hh (wpAny_field hos hds (x:=vu) rfl (Hh (wpAny_field hos hds (x:=.none) rfl (Hn ?_)))))))
 refine Hh (slicePart_none ?_)
 show wpAny _ _ (if ((1:Int) == 0)=true then _ else _) _ _ s
 rw[if_neg (by decide)]
 refine Hh (bH pl (Hh (bH pu (Hh (Hn ?_)))))
 show wpAny _ _ (match Builtin.Slice.sliceAdjust lo hi 1 (n:Int)with|(lo,hi)=>pure (lo,(1:Int),Builtin.Slice.slicePlaces lo hi 1)) _ _ s
 rw[lC lo hi n]
 show wpAny _ _ (pure (((sIx n 0 lo:Nat):Int),(1:Int),Builtin.Slice.slicePlaces ((sIx n 0 lo:Nat):Int) ((sIx n n hi:Nat):Int) 1)) _ _ s
 rw[kM]
 exact Hn h
theorem rL(xs:Array Value)(i k:Nat):((Ih k).filterMap fun(m:Nat)=>xs[((i:Int)+(m:Int)*1).toNat]?).toArray=((xs.toList.drop i).take k).toArray:=by
 have e:(fun(m:Nat)=>xs[((i:Int)+(m:Int)*1).toNat]?)=fun m=>xs[i+m]?:=by
  funext m
  have:((i:Int)+(m:Int)*1).toNat=i+m:=by omega
  rw[this]
 rw[e]
 have:=pick_run xs i k
 rw[List.filterMap_map]at this
 have e2:((fun x=>xs[x]?) ∘ fun x=>i+x)=fun m=>xs[i+m]?:=rfl
 rw[e2]at this
 rw[this]
theorem X4{t sl:Addr}{items:Array Value}{vl vu:Value}{lo hi:Option Int}{Q:Value→Shared→Prop}(ht:IsTup s.heap t items)(hs:s.heap.IsSliceOf sl vl vu .none)(pl:IsPart vl lo)(pu:IsPart vu hi)
  (hw:¬ (sIx items.size 0 lo=0∧sIx items.size items.size hi=items.size))
  (h:Q (.ref s.heap.objs.size) { s with heap:=s.heap.push { cls:=.type "tuple",data:=.seq ((items.toList.drop (sIx items.size 0 lo)).take (sIx items.size items.size hi - sIx items.size 0 lo)).toArray } })
  (hsz:items.size≤sizeLine):wpAny (model prog w) A (getItem (.ref t) (.ref sl)) Q E s:=by
 have htake:sizeOk (.seq ((items.toList.drop (sIx items.size 0 lo)).take (sIx items.size items.size hi - sIx items.size 0 lo)).toArray):=by
  show((items.toList.drop (sIx items.size 0 lo)).take (sIx items.size items.size hi - sIx items.size 0 lo)).toArray.size≤sizeLine
  rw[HC,HS,Ia,Array.length_toList]
  omega
 have hj:sIx items.size items.size hi≤items.size:=zO _ _ (Hy _) hi
 obtain⟨os,hos,hcs,hds⟩:=id hs
 have hTs:s.TypeIs (.ref sl) "slice" := ⟨os,hos,hcs⟩
 unfold getItem
 try with_reducible refine wpAny_holding ?_
 first|refine Hh (Hn ?_)|skip
 refine Hh (wpAny_sequenceKey ht.typeIs (by decide) ?_)
 refine Hh (wpAny_callSpecial?_slot (name:=Str.ofString "__getitem__") ht.typeIs PyProof.Rows.slot_tuple_getitem
  (wpAny_call_entry PyProof.Rows.slot_tuple_getitem ht.typeIs entry_tuple_getitem ?_ (args_tuple_getitem _ _)))
 show wpAny _ _ (Builtin.Tuple.tupleItemsOf (.ref t) >>= _) _ _ s
 refine Hh (tupleItemsOf_ ht ?_)
 refine Hh (wpAny_typeOf hTs ?_)
 rw[if_pos (by decide)]
 refine Hh (Y2 hs pl pu ?_)
 have hno:¬ ((((sIx items.size 0 lo:Nat):Int) == 0 && (1:Int) == 1 && (sIx items.size items.size hi - sIx items.size 0 lo) == items.size)=true):=by
  intro q
  rw[IW,IW]at q
  have q1:((sIx items.size 0 lo:Nat):Int)=0:=eq_of_beq q.1.1
  have q2:sIx items.size items.size hi - sIx items.size 0 lo=items.size:=eq_of_beq q.2
  exact hw ⟨by omega,by omega⟩
 show wpAny _ _ (if (((sIx items.size 0 lo:Nat):Int) == 0 && (1:Int) == 1 && (sIx items.size items.size hi - sIx items.size 0 lo) == items.size)=true then _ else _) _ _ s
 rw[if_neg hno,rL]
 first
  | exact Hh (m:=Builtin.Tuple.tupleExact _) (wpAny_newObj_type (Hn ⟨_,rfl,Hn h⟩) htake)
  | exact Hh (m:=Builtin.Tuple.tupleExact _) (wpAny_newObj_type (Hh (Hn (Hn ⟨_,rfl,Hn h⟩))) htake)
  | exact Hh (Hh (m:=Builtin.Tuple.tupleExact _) (wpAny_newObj_type (Hn (Hn ⟨_,rfl,Hn h⟩)) htake))
  | exact Hh (Hh (m:=Builtin.Tuple.tupleExact _) (wpAny_newObj_type (Hn ⟨_,rfl,Hn h⟩) htake))
end
end HT
namespace L2
open PySem PySem.Spec PyProof.Rows
noncomputable abbrev TO:=St→Hp→(Option Int→Hp→Prop)→Prop
def PO(X:Cx)(e:Option Expr)(t:TO):Prop :=
 ∀(pins:List (Addr × Obj)) (s:Shared) (σ:St) (H:Hp) (Q:Option Int→Hp→Prop),Inv X pins σ H s→t σ H Q →
  wpAny (model X.prog X.w) X.A (evalPart e X.env) (fun u s'=>∃ o H',Inv X pins σ H' s'∧IsPart u o∧Q o H') X.xe s
def vt:TO:=fun _ H Q=>Q none H
def Cq(t:TE):TO:=fun σ H Q=>t σ H fun x H1=>∃ i,x = .int i∧Q (some i) H1
theorem cz{ns:List Int}:∀{us:List Value},i6 (ns.map V.int) us→IntsAre us ns:=by
 induction ns with
 | nil=>intro us r;rw[IA]at r;cases r;exact .nil
 | cons n ns ih =>
  intro us r
  rw[HL]at r
  cases r with
  | cons r1 r2 =>
   obtain⟨t,e⟩:=r1
   subst e
   exact .cons n t (ih r2)
section
variable {X:Cx} {e:Expr} {te:TE} {lo hi:Option Expr} {tl th:TO} {pos p2:Pos}
theorem vW:PO X none vt:=by
 intro pins s σ H Q I h
 rw[evalPart_none]
 exact Hn ⟨none,H,I,.none,h⟩
theorem vV(h:PE X e te):PO X (some e) (Cq te):=by
 intro pins s σ H Q I hw
 rw[evalPart_some]
 refine thn (h pins s σ H _ I hw) fun u s1 zz=>?_
 obtain⟨x,H1,I1,r1,q1⟩:=zz
 obtain⟨i,rfl,q⟩:=q1
 obtain⟨t,rfl⟩:=r1
 exact⟨some i,H1,I1,.int i t,q⟩
def SlR(X:Cx)(r:V→Option Int→Option Int→Hp→VK→Prop):Prop :=
 ∀(pins:List (Addr × Obj)) (s:Shared) (σ:St) (H:Hp) (x:V) (v vl vu:Value) (lo hi:Option Int) (sl:Addr) (Q:VK),Inv X pins σ H s→m7 x v→s.heap.IsSliceOf sl vl vu .none→IsPart vl lo→IsPart vu hi→r x lo hi H Q →
  ∃ T id,typeLookup (.type T) "__getitem__" = pure (some (.builtin id))∧s.TypeIs v T∧wpAny (model X.prog X.w) X.A (getItem v (.ref sl)) (EP X pins σ Q) X.xe s
theorem SlR.or{r r':V→Option Int→Option Int→Hp→VK→Prop}(h:SlR X r)(h':SlR X r'):SlR X (fun x lo hi H Q=>r x lo hi H Q∨r' x lo hi H Q):=by
 intro pins s σ H x v vl vu lo hi sl Q I rx hs pl pu q
 rcases q with q|q
 ·exact h pins s σ H x v vl vu lo hi sl Q I rx hs pl pu q
 ·exact h' pins s σ H x v vl vu lo hi sl Q I rx hs pl pu q
def tSl(r:V→Option Int→Option Int→Hp→VK→Prop)(te:TE)(tl th:TO):TE:=fun σ H Q=>te σ H fun x H1=>tl σ H1 fun l H2=>th σ H2 fun u H3=>r x l u H3 Q
theorem jd{r:V→Option Int→Option Int→Hp→VK→Prop}(hr:SlR X r)(he:PE X e te)(hl:PO X lo tl)(hu:PO X hi th):PE X (.Subscript e (.Slice lo hi none p2) pos) (tSl r te tl th):=by
 intro pins s σ H Q I h
 refine Subscript_ (thn (he pins s σ H _ I h) fun v s1 zz=>?_)
 obtain⟨x,H1,I1,r1,q1⟩:=zz
 refine wpAny_Slice (thn (hl pins s1 σ H1 _ I1 q1) fun vl s2 ⟨l,H2,I2,pl,q2⟩=>thn (hu pins s2 σ H2 _ I2 q2) fun vu s3 zz=>?_)
 obtain⟨u,H3,I3,pu,q3⟩:=zz
 rw[evalPart_none]
 refine Hn ?_
 have I4:Inv X pins σ H3 { s3 with heap:=s3.heap.push { cls:=.type "slice",data:=.fields #[vl,vu,.none] } }:=I3.kept (t':=s3.toks) fun b ob q=>Hj _ q
 obtain⟨T,id,hT,ht,hg⟩:=hr pins { s3 with heap:=s3.heap.push { cls:=.type "slice",data:=.fields #[vl,vu,.none] } } σ H3 x v vl vu l u s3.heap.objs.size Q I4 r1 (Heap.IsSliceOf.new ..) pl pu q3
 show wpAny (model X.prog X.w) X.A (subscriptTail e (.Slice lo hi none p2) v (.ref s3.heap.objs.size)) (EP X pins σ Q) X.xe { s3 with heap:=s3.heap.push { cls:=.type "slice",data:=.fields #[vl,vu,.none] } }
 exact tail_any (ops:=[.ref s3.heap.objs.size,v]) ht hT hg (by with_unfolding_all rfl)
noncomputable def jP(xs:List V)(lo hi:Option Int):List V:=(xs.drop (HT.sIx xs.length 0 lo)).take (HT.sIx xs.length xs.length hi - HT.sIx xs.length 0 lo)
theorem ar(xs:List V)(lo hi:Option Int):(jP xs lo hi).length≤xs.length:=by
 unfold jP
 rw[HS,Ia]
 omega
noncomputable def EF(K:Hi):V→Option Int→Option Int→Hp→VK→Prop:=fun x lo hi H Q=>∃ a xs,x = .ref a∧SqT K H a xs ∧
 ¬ (HT.sIx xs.length 0 lo=0∧HT.sIx xs.length xs.length hi=xs.length)∧∀ p,H p=none→Q (.ref p) (upd H p (.tup (jP xs lo hi)))
theorem zI:SlR X (EF X.K):=by
 intro pins s σ H x v vl vu lo hi sl Q I rx hs pl pu h
 obtain⟨a,xs,rfl,hx,hw,q⟩:=h
 cases rx
 obtain⟨its,r,ht,hz⟩:=I.tuple hx
 have hlen:its.toArray.size=xs.length:=by rw[HC];exact r.length.symm
 refine⟨"tuple",_,PyProof.Rows.slot_tuple_getitem.lookup,ht.typeIs,?_⟩
 refine HT.X4 ht hs pl pu (by rw[hlen];exact hw) ?_ (by rw[hlen];exact hz)
 rw[hlen]
 refine⟨.ref s.heap.objs.size,_,I.laid (t':=s.toks) (o:=.tup (jP xs lo hi)) (fun b ob q=>Hj _ q) (Hy _) ?_,rfl,q _ (I.hok.fresh (Hy _))⟩
 exact⟨Hx (ar xs lo hi) hz,_,(r.drop (HT.sIx xs.length 0 lo)).take (HT.sIx xs.length xs.length hi - HT.sIx xs.length 0 lo),IsTup.new _ _⟩
end
noncomputable def ixN(n:Nat)(i:Int):Option Nat:=if 0≤i then(if i<n then some i.toNat else none)else if -(n:Int)≤i then some (i+n).toNat else none
noncomputable def atI{α:Type}(xs:List α)(i:Int):Option α:=(ixN xs.length i).bind fun j=>xs[j]?
theorem nB{n:Nat}{i:Int}{j:Nat}(h:ixN n i=some j):seqIndex? i n=some j∧j<n∧-(n:Int)≤i∧i<n:=by
 unfold ixN at h
 by_cases h0:0≤i
 ·rw[if_pos h0]at h
  by_cases h1:i<n
  ·rw[if_pos h1]at h
   have e:i.toNat=j:=Option.some.inj h
   exact⟨by rw[seqIndex_of h0 h1,e],by omega,by omega,h1⟩
  ·rw[if_neg h1]at h;cases h
 ·rw[if_neg h0]at h
  by_cases h1:-(n:Int)≤i
  ·rw[if_pos h1]at h
   have e:(i+n).toNat=j:=Option.some.inj h
   exact⟨by rw[seqIndex_neg (by omega) h1,e],by omega,h1,by omega⟩
  ·rw[if_neg h1]at h;cases h
theorem nU{α:Type}{xs:List α}{i:Int}{v:α}(h:atI xs i=some v):∃ j,seqIndex? i xs.length=some j∧xs[j]? = some v∧j<xs.length∧-(xs.length:Int)≤i∧i<xs.length:=by
 unfold atI at h
 cases e:ixN xs.length i with
 | none=>rw[e]at h;cases h
 | some j =>
  rw[e]at h
  obtain⟨h1,h2,h3,h4⟩:=nB e
  exact⟨j,h1,h,h2,h3,h4⟩
def gN(b:Expr):Prop:=∀ o i,subscripted b false o i=operate [o,i] (getItem o i)
def IxR(X:Cx)(r:R2):Prop :=
 ∀(value slice:Expr) (pins:List (Addr × Obj)) (s:Shared) (σ:St) (H:Hp) (x y:V) (v u:Value) (Q:VK),Inv X pins σ H s→m7 x v→m7 y u→r x y H Q →
  subscripted slice false v u=operate [v,u] (getItem v u)→wpAny (model X.prog X.w) X.A (subscriptTail value slice v u) (EP X pins σ Q) X.xe s
def MtR(X:Cx)(id:String)(r:V→List V→Hp→VK→Prop):Prop :=
 ∀(pins:List (Addr × Obj)) (s:Shared) (σ:St) (H:Hp) (x:V) (xs:List V) (v:Value) (us:List Value) (Q:VK),Inv X pins σ H s→m7 x v→i6 xs us→r x xs H Q →
  wpAny (model X.prog X.w) X.A (call (.builtin id) (v :: us)) (EP X pins σ Q) X.xe s
section
variable {X:Cx} {a b:Expr} {ta tb:TE} {pos:Pos}
theorem IxR.or{r r':R2}(h:IxR X r)(h':IxR X r'):IxR X (fun x y H Q=>r x y H Q∨r' x y H Q):=by
 intro value slice pins s σ H x y v u Q I rx ry q hs
 rcases q with q|q
 ·exact h value slice pins s σ H x y v u Q I rx ry q hs
 ·exact h' value slice pins s σ H x y v u Q I rx ry q hs
theorem MtR.or{id:String}{r r':V→List V→Hp→VK→Prop}(h:MtR X id r)(h':MtR X id r'):MtR X id (fun x xs H Q=>r x xs H Q∨r' x xs H Q):=by
 intro pins s σ H x xs v us Q I rx rs q
 rcases q with q|q
 ·exact h pins s σ H x xs v us Q I rx rs q
 ·exact h' pins s σ H x xs v us Q I rx rs q
theorem CQ{r:R2}(hr:IxR X r)(ha:PE X a ta)(hb:PE X b tb)(hs:gN b):PE X (.Subscript a b pos) (tOp r ta tb):=by
 intro pins s σ H Q I h
 exact Subscript_ (Bt ha hb I h fun v u s2 x y H2 I2 rx ry q=>hr a b pins s2 σ H2 x y v u Q I2 rx ry q (hs _ _))
def EI(K:Hi):R2:=fun x y H Q=>∃ p xs i v,x = .ref p∧y = .int i∧SqL K H p xs∧atI xs i=some v∧Q v H
def EH(K:Hi):R2:=fun x y H Q=>∃ p xs i v,x = .ref p∧y = .int i∧SqT K H p xs∧atI xs i=some v∧Q v H
theorem wU:IxR X (EI X.K):=by
 intro value slice pins s σ H x y v u Q I rx ry h hs
 obtain⟨p,xs,i,z,rfl,rfl,hq,he,q⟩:=h
 cases rx
 obtain⟨t,rfl⟩:=ry
 obtain⟨its,r,pl,hz⟩:=I.list hq
 obtain⟨j,h1,h2,h3,h4,h5⟩:=nU he
 obtain⟨w,ew,rw'⟩:=r.get h2
 have hl:=r.length
 have hn:=gj
 have fin:EP X pins σ Q w s:=⟨z,H,I,rw',q⟩
 by_cases h0:0≤i
 ·have hj:i.toNat=j:=by
   rw[seqIndex_of h0 h5]at h1
   exact Option.some.inj h1
  exact item_listR pl.isList h0 (by omega) (by rw[hj];simpa using ew) fin hs
 ·have hj:(i+(its.toArray.size:Int)).toNat=j:=by
   rw[seqIndex_neg (by omega) h4]at h1
   rw[HC,← hl]
   exact Option.some.inj h1
  exact subscriptTail_builtinR (x:=w) pl.isList.typeIs slot_list_getitem.lookup
   (wpAny_getItem_list_neg (Q:=fun r s'=>r=w∧EP X pins σ Q r s') pl.isList (by omega) (by rw[HC]<;>omega) (by omega) (by rw[hj];simpa using ew) ⟨rfl,fin⟩) hs
theorem AQ:IxR X (EH X.K):=by
 intro value slice pins s σ H x y v u Q I rx ry h hs
 obtain⟨p,xs,i,z,rfl,rfl,hq,he,q⟩:=h
 cases rx
 obtain⟨t,rfl⟩:=ry
 obtain⟨its,r,pl,hz⟩:=I.tuple hq
 obtain⟨j,h1,h2,h3,h4,h5⟩:=nU he
 obtain⟨w,ew,rw'⟩:=r.get h2
 have hl:=r.length
 have hn:=gj
 have fin:EP X pins σ Q w s:=⟨z,H,I,rw',q⟩
 exact subscriptTail_builtinR (x:=w) pl.typeIs slot_tuple_getitem.lookup
  (getItem_tuple (j:=j) (Q:=fun r s'=>r=w∧EP X pins σ Q r s') pl (by omega) (by omega) (by rw[HC,← hl];exact h1) (by simpa using ew) ⟨rfl,fin⟩) hs
theorem kR(its:List Value)(n j:Nat)(u:Value):Obj.mapSeq (·.setIfInBounds j u) { cls:=.type "list",data:=.seq its.toArray n } = { cls:=.type "list",data:=.seq (its.set j u).toArray n }:=by
 simp[Obj.mapSeq]
theorem Inv.lst{pins:List (Addr × Obj)}{σ:St}{H:Hp}{s:Shared}{p:Addr}{xs:List V}(I:Inv X pins σ H s)(h:H p=some (.lst xs)) :
  ∃(its:List Value) (n:Nat),i6 xs its∧s.heap.get? p=some { cls:=.type "list",data:=.seq its.toArray n }∧xs.length≤sizeLine:=by
 obtain⟨z,its,n,r,e⟩:=I.hok p _ h
 exact⟨its,n,r,e,z⟩
theorem Inv.lstUpd{pins:List (Addr × Obj)}{σ:St}{H:Hp}{s:Shared}{p:Addr}{xs ys:List V}{its its':List Value}{n n':Nat}{f:Obj→Obj}(I:Inv X pins σ H s)(h:H p=some (.lst xs))
  (ho:s.heap.get? p=some { cls:=.type "list",data:=.seq its.toArray n }) (hf:f { cls:=.type "list",data:=.seq its.toArray n } = { cls:=.type "list",data:=.seq its'.toArray n' }) (r:i6 ys its') (hz:ys.length≤sizeLine) (t:Nat) :
  Inv X pins σ (upd H p (.lst ys)) { s with heap:=s.heap.update p f,toks:=t }:=by
 have e:(s.heap.update p f).get? p=some { cls:=.type "list",data:=.seq its'.toArray n' }:=by
  rw[Kr f ho (by rw[hf]<;>rfl),hf]
 refine I.write (x:=p) (e:=p) (by rw[h];trivial) (.inl rfl) (fun b u hb q=>(Km _ _ (Ne.symm hb)).trans q) ⟨_,e⟩ ?_
 exact⟨hz,its',n',r,e⟩
noncomputable def CL:V→V→V→Hp→(Hp→Prop)→Prop:=fun o i v H Q=>∃ p xs k j,o = .ref p∧i = .int k∧H p=some (.lst xs)∧ixN xs.length k=some j∧Q (upd H p (.lst (xs.set j v)))
theorem qV:Bz X CL:=by
 intro pins s σ H o i v ov iv u Q I ro ri rv h
 obtain⟨p,xs,k,j,rfl,rfl,hp,hj,q⟩:=h
 cases ro
 obtain⟨t,rfl⟩:=ri
 obtain⟨its,n,r,ho,hz⟩:=I.lst hp
 obtain⟨h1,h2,h3,h4⟩:=nB hj
 have hl:=r.length
 have hn:=gj
 have I':Inv X pins σ (upd H p (.lst (xs.set j v))) { s with heap:=s.heap.update p (Obj.mapSeq (·.setIfInBounds j u)) } :=
  I.lstUpd hp ho (kR its n j u) (r.set rv j) (by rw[Lv];exact hz) s.toks
 by_cases h0:0≤k
 ·have hk:k.toNat=j:=by
   rw[seqIndex_of h0 h4]at h1
   exact Option.some.inj h1
  exact PySem.W.ki_setAt ho h0 (by omega) (by rw[HC,← hl];exact h4) (by rw[hk];exact⟨_,I',q⟩)
 ·have hk:(k+(its.toArray.size:Int)).toNat=j:=by
   rw[seqIndex_neg (by omega) h3]at h1
   rw[HC,← hl]
   exact Option.some.inj h1
  exact PySem.W.ki_setBack ho (by omega) (by rw[HC,← hl];exact h3) (by omega) (by rw[hk];exact⟨_,I',q⟩)
theorem eW(lo hi:Option Int)(n:Nat):(sliceBounds lo hi none n).1=((HT.sIx n 0 lo:Nat):Int)∧(sliceBounds lo hi none n).2.1=((HT.sIx n n hi:Nat):Int)∧(sliceBounds lo hi none n).2.2=1:=by
 refine⟨?_,?_,rfl⟩
 ·cases lo with
  | none=>simp[sliceBounds,HT.sIx]
  | some i =>
   simp only[sliceBounds,HT.sIx,Lq,show(1:Int) > 0 by decide,if_true]
   by_cases h:i<0
   ·simp only[h,if_true]<;>omega
   ·simp only[h,if_false]<;>omega
 ·cases hi with
  | none=>simp[sliceBounds,HT.sIx]
  | some i =>
   simp only[sliceBounds,HT.sIx,Lq,show(1:Int) > 0 by decide,if_true]
   by_cases h:i<0
   ·simp only[h,if_true]<;>omega
   ·simp only[h,if_false]<;>omega
theorem cN(its:List Value)(lo hi:Option Int):slicePick its.toArray lo hi none=((its.drop (HT.sIx its.length 0 lo)).take (HT.sIx its.length its.length hi - HT.sIx its.length 0 lo)).toArray:=by
 obtain⟨h1,h2,h3⟩:=eW lo hi its.toArray.size
 unfold slicePick
 rw[h1,h2,h3]
 simp only[sliceRange_one,pick_run,HC]<;>rfl
noncomputable def EG(K:Hi):V→Option Int→Option Int→Hp→VK→Prop:=fun x lo hi H Q=>∃ a xs,x = .ref a∧SqL K H a xs∧∀ p,H p=none→Q (.ref p) (upd H p (.lst (jP xs lo hi)))
theorem mO:SlR X (EG X.K):=by
 intro pins s σ H x v vl vu lo hi sl Q I rx hs pl pu h
 obtain⟨a,xs,rfl,hx,q⟩:=h
 cases rx
 obtain⟨its,r,ht,hz⟩:=I.list hx
 have hlen:=r.length
 refine⟨"list",_,slot_list_getitem.lookup,ht.isList.typeIs,?_⟩
 refine wpAny_getItem_list_slice ht.isList hs pl pu .none (by simp) ?_ (by rw[HC]<;>omega)
 rw[cN,← hlen]
 refine⟨.ref s.heap.objs.size,_,I.laid (t':=s.toks) (o:=.lst (jP xs lo hi)) (fun b ob q=>Hj _ q) (Hy _) ?_,rfl,q _ (I.hok.fresh (Hy _))⟩
 exact⟨Hx (ar xs lo hi) hz,_,0,(r.drop (HT.sIx xs.length 0 lo)).take (HT.sIx xs.length xs.length hi - HT.sIx xs.length 0 lo),HA _ rfl⟩
theorem gH:v7 X (.builtin "len") (fun xs H Q=>∃ p ys,xs=[.ref p]∧(SqL X.K H p ys∨SqT X.K H p ys)∧Q (.int ys.length) H):=by
 intro pins s σ H xs us Q I r h
 obtain⟨p,ys,rfl,hq,q⟩:=h
 obtain⟨u,rfl,rx⟩:=iB r
 cases rx
 have hn:=gj
 rcases hq with hq|hq
 ·obtain⟨its,r',pl,hz⟩:=I.list hq
  have hlen:=r'.length
  exact Calls.call_len_list pl.isList (by simp only[HC]<;>omega) ⟨.int ys.length,H,I.tok _,⟨s.toks+1,by rw[HC,hlen]⟩,q⟩
 ·obtain⟨its,r',pl,hz⟩:=I.tuple hq
  have hlen:=r'.length
  exact len_tuple pl (by simp only[HC]<;>omega) ⟨.int ys.length,H,I.tok _,⟨s.toks+1,by rw[HC,hlen]⟩,q⟩
theorem v7.or{f:Value}{r r':List V→Hp→VK→Prop}(h:v7 X f r)(h':v7 X f r'):v7 X f (fun xs H Q=>r xs H Q∨r' xs H Q):=by
 intro pins s σ H xs us Q I rs q
 rcases q with q|q
 ·exact h pins s σ H xs us Q I rs q
 ·exact h' pins s σ H xs us Q I rs q
theorem gG:v7 X (.type "list") (fun xs H Q=>∃ p ys,xs=[.ref p]∧(SqL X.K H p ys∨SqT X.K H p ys)∧∀ l,H l=none→Q (.ref l) (upd H l (.lst ys))):=by
 intro pins s σ H xs us Q I r h
 obtain⟨p,ys,rfl,hq,q⟩:=h
 obtain⟨u,rfl,rx⟩:=iB r
 cases rx
 have fin:∀(its:List Value),i6 ys its→ys.length≤sizeLine→∀(h':Heap) (c':Nat),(∀ b o',s.heap.get? b=some o'→h'.get? b=some o') →
   h'.get? s.heap.objs.size=some { cls:=.type "list",dict:=none,data:=.seq its.toArray c',slots:=#[] }→EP X pins σ Q (.ref s.heap.objs.size) { s with heap:=h' }:=fun its r' hz h' c' kp e =>
  ⟨.ref s.heap.objs.size,_,I.laid (t':=s.toks) kp (Hy _) (show t6 X.prog X.w _ h' _ (.lst ys)from⟨hz,its,c',r',e⟩),rfl,q _ (I.hok.fresh (Hy _))⟩
 rcases hq with hq|hq
 ·obtain⟨its,r',pl,hz⟩:=I.list hq
  have hlen:=r'.length
  obtain⟨o,ho,hc,n,hd⟩:=pl.isList
  exact call_list_seq p (.inl rfl) ho hc hd (fun h' c' kp e=>fin its r' hz h' c' kp e) (by simp only[HC]<;>omega)
 ·obtain⟨its,r',pl,hz⟩:=I.tuple hq
  have hlen:=r'.length
  obtain⟨o,ho,hc,n,hd⟩:=pl
  exact call_list_seq p (.inr rfl) ho hc hd (fun h' c' kp e=>fin its r' hz h' c' kp e) (by simp only[HC]<;>omega)
theorem df:v7 X (.type "tuple") (fun xs H Q=>∃ p ys,xs=[.ref p]∧((SqL X.K H p ys∧∀ l,H l=none→Q (.ref l) (upd H l (.tup ys)))∨(SqT X.K H p ys∧Q (.ref p) H))):=by
 intro pins s σ H xs us Q I r h
 obtain⟨p,ys,rfl,h⟩:=h
 obtain⟨u,rfl,rx⟩:=iB r
 cases rx
 rcases h with⟨hq,q⟩|⟨hq,q⟩
 ·obtain⟨its,r',pl,hz⟩:=I.list hq
  have hlen:=r'.length
  refine call_tuple_list pl.isList (fun h' kp=>?_) (by simp only[HC]<;>omega)
  have I1:Inv X pins σ H { s with heap:=h' }:=I.kept (t':=s.toks) kp
  have I2:Inv X pins σ (upd H h'.objs.size (.tup ys)) { s with heap:=h'.push { cls:=.type "tuple",data:=.seq its.toArray } } :=
   I1.laid (t':=s.toks) (fun b o e=>Hj _ e) (Hy _) (show t6 X.prog X.w _ _ _ (.tup ys)from⟨hz,its,r',IsTup.new _ _⟩)
  exact⟨.ref h'.objs.size,_,I2,rfl,q _ (I1.hok.fresh (Hy _))⟩
 ·obtain⟨its,r',pl,hz⟩:=I.tuple hq
  exact call_tuple_same pl ⟨.ref p,H,I,rfl,q⟩
def tyV(K:Hi)(T:String)(x:V)(H:Hp):Prop:=match x with
 | .str _=>T = "str"
 | .int _=>T = "int"
 | .ref p=>(T = "list" ∧ ∃ xs,SqL K H p xs)∨(T = "tuple" ∧ ∃ o,K.lookup p=some o∧o.cls = .type "tuple" ∧ o.dict=none) ∨
   (T = "dict" ∧ ((∃ kvs,H p=some (.dK kvs)) ∨ ∃ hs kvs,H p=some (.dT hs kvs)))∨(T = "set" ∧ ∃ S n,H p=some (.set S n))
 | _=>False
theorem qJ{pins:List (Addr × Obj)}{σ:St}{H:Hp}{s:Shared}{T:String}{x:V}{v:Value}(I:Inv X pins σ H s)(r:m7 x v)(ty:tyV X.K T x H) :
  s.TypeIs v T∧∀ a,v = .ref a→∃ ob,s.heap.get? a=some ob∧ob.dict=none:=by
 cases x with
 | str z =>
  obtain⟨t,rfl⟩:=r
  cases(show T = "str" from ty)
  exact⟨typeIs_str s z t,fun _ e=>nomatch e⟩
 | int i =>
  obtain⟨t,rfl⟩:=r
  cases(show T = "int" from ty)
  exact⟨typeIs_int s i t,fun _ e=>nomatch e⟩
 | ref p =>
  cases r
  rcases ty with⟨rfl,xs,hq⟩|⟨rfl,o,hk,hc,hd⟩|⟨rfl,hk⟩|⟨rfl,S,n,hk⟩
  ·obtain⟨its,_,pl,_⟩:=I.list hq
   refine⟨pl.isList.typeIs,fun a e=>?_⟩
   cases e
   obtain⟨o,n,e,c,hd,_⟩:=pl
   exact⟨o,e,hd⟩
  ·refine⟨⟨o,I.kIn p o hk,hc⟩,fun a e=>?_⟩
   cases e
   exact⟨o,I.kIn _ o hk,hd⟩
  ·have z:∃ o,s.heap.get? p=some o∧o.ExactDict:=by
    rcases hk with⟨kvs,hk⟩|⟨hs,kvs,hk⟩
    ·obtain⟨_,_,_,_,o,_,_,e,ex,_⟩:=I.hok p _ hk
     exact⟨o,e,ex⟩
    ·obtain⟨_,_,_,_,o,_,_,e,ex,_⟩:=I.hok p _ hk
     exact⟨o,e,ex⟩
   obtain⟨o,e,ex⟩:=z
   refine⟨⟨o,e,ex.1⟩,fun a e2=>?_⟩
   cases e2
   exact⟨o,e,ex.2.1⟩
  ·obtain⟨o,_,_,_,e,ex,_⟩:=I.hok p _ hk
   refine⟨⟨o,e,ex.1⟩,fun a e2=>?_⟩
   cases e2
   exact⟨o,e,ex.2.1⟩
 | _=>exact False.elim ty
def ED(K:Hi)(T:String)(r:V→List V→Hp→VK→Prop)(to:TE):TE:=fun σ H Q=>to σ H fun x H1=>tyV K T x H1∧r x [] H1 Q
def tBM(K:Hi)(T:String)(r:V→List V→Hp→VK→Prop)(to:TE)(t:TA):TE:=fun σ H Q=>to σ H fun x H1=>tyV K T x H1∧t σ H1 fun xs H2=>r x xs H2 Q
variable {o e:Expr} {es:List Expr} {to:TE} {t:TA} {name:Str} {apos cpos:Pos} {T id:String} {r:V→List V→Hp→VK→Prop}
theorem rT(pa:PlainAttrs T)(slot:Slot T name id)(hty:typeOf (.builtin id)=pure (.type "method_descriptor"))(hm:MtR X id r)(ho:PE X o to)
  (hbase:attributeBase o name X.env (eval o X.env)=eval o X.env:=by rfl) (hline:(apos.endLine == cpos.line)=true:=by rfl):PE X (.Call (.Attribute o name apos) [] [] cpos) (ED X.K T r to):=by
 intro pins s σ H Q I h
 refine wpAny_Call_method0_late hbase hline (thn (ho pins s σ H _ I h) fun v s1 zz=>?_)
 obtain⟨x,H1,I1,r1,ty,q1⟩:=zz
 obtain⟨h1,h2⟩:=qJ I1 r1 ty
 exact⟨T,id,pa,slot,hty,h1,h2,Calls.callWith_builtin rfl (PySem.evalArgs_none (hm pins s1 σ H1 x [] v [] Q I1 r1 .nil q1))⟩
theorem CS(pa:PlainAttrs T)(slot:Slot T name id)(hty:typeOf (.builtin id)=pure (.type "method_descriptor"))(hm:MtR X id r)(ho:PE X o to)(ha:PA X (e :: es) t)
  (hbase:attributeBase o name X.env (eval o X.env)=eval o X.env:=by rfl)
  (hfew:((backTo cpos (starEach (e :: es) X.env)).all (fun x=>!x.1) && (backToKw cpos (keywordEach [] X.env)).all (fun x=>x.1.isSome)
   && decide ((e :: es).length+([]:List Keyword).length+(if ([]:List Keyword).isEmpty then 0 else 1)<30))=true:=by rfl)
  (hline:(apos.endLine == cpos.line)=true:=by rfl) (hs:starEach (e :: es) X.env=(false,eval e X.env) :: starEach es X.env:=by rfl) (hplain:(backTo cpos (starEach es X.env)).any (·.1)=false:=by rfl) :
  PE X (.Call (.Attribute o name apos) (e :: es) [] cpos) (tBM X.K T r to t):=by
 intro pins s σ H Q I h
 refine wpAny_Call_method_late hbase hfew hline rfl (thn (ho pins s σ H _ I h) fun v s1 zz=>?_)
 obtain⟨x,H1,I1,r1,ty,q1⟩:=zz
 obtain⟨h1,h2⟩:=qJ I1 r1 ty
 refine⟨T,id,pa,slot,hty,h1,h2,?_⟩
 have hA:=ha cpos pins s1 σ H1 _ I1 q1
 rw[hs]at hA ⊢
 refine Calls.callWith_builtin (by show(false || (backTo cpos (starEach es X.env)).any (·.1))=false;rw[hplain]<;>rfl) (Calls.evalArgs_plain ?_)
 exact thn hA fun us s2 ⟨vs,H2,I2,r2,q2⟩=>hm pins s2 σ H2 x vs v us Q I2 r1 r2 q2
end
def MtM(X:Cx)(id:String)(r:V→List V→Hp→VK→Prop):Prop :=
 ∀(pins:List (Addr × Obj)) (s:Shared) (σ:St) (H:Hp) (x:V) (xs:List V) (v:Value) (us:List Value) (Q:VK),Inv X pins σ H s→m7 x v→i6 xs us→r x xs H Q →
  wpAny (model X.prog X.w) X.A (call (.builtin id) (v :: us)) (EP X pins σ Q) X.xe s
theorem i6.one{x:V}{us:List Value}(h:i6 [x] us):∃ u,us=[u]∧m7 x u:=by
 cases h with|cons r t=>cases t;exact⟨_,rfl,r⟩
theorem i6.two{x y:V}{us:List Value}(h:i6 [x,y] us):∃ u v,us=[u,v]∧m7 x u∧m7 y v:=by
 cases h with|cons r t=>cases t with|cons q t2=>cases t2;exact⟨_,_,rfl,r,q⟩
theorem i6.zero:∀{us:List Value},i6 [] us→us=[]
 | _,.nil=>rfl
theorem i6.reverse{xs:List V}{us:List Value}(h:i6 xs us):i6 xs.reverse us.reverse:=by
 induction h with
 | nil=>exact .nil
 | cons r t ih=>rw[Jk,Jk];exact i6.append ih (.cons r .nil)
section
variable {X:Cx} {pins:List (Addr × Obj)} {σ:St} {H:Hp} {s:Shared} {l b:Addr} {xs ys zs:List V}
theorem Inv.lset{its its':List Value}{n:Nat}{f:Array Value→Array Value}{t':Nat}(I:Inv X pins σ H s)(hH:H l=some (.lst xs))
  (e:s.heap.get? l=some { cls:=.type "list",data:=.seq its.toArray n }) (hf:f its.toArray=its'.toArray) (hv:i6 ys its') (hz:ys.length≤sizeLine) :
  Inv X pins σ (upd H l (.lst ys)) { s with heap:=s.heap.update l (Obj.mapSeq f),toks:=t' }:=by
 have q:=PySem.IsL.update e f
 rw[hf]at q
 refine I.write (x:=l) (e:=l) (by rw[hH];exact trivial) (.inl rfl) (fun b' u hb hu=>(Km s.heap (Obj.mapSeq f) (Ne.symm hb)).trans hu) ⟨_,q⟩ ?_
 exact⟨hz,its',_,hv,q⟩
theorem Inv.lnew{its:List Value}{t':Nat}(I:Inv X pins σ H s)(hv:i6 ys its)(hz:ys.length≤sizeLine) :
  Inv X pins σ (upd H s.heap.objs.size (.lst ys)) { s with heap:=s.heap.push { cls:=.type "list",data:=.seq its.toArray },toks:=t' } :=
 I.laid (fun _ _ q=>Hj _ q) (Hy _) ⟨hz,its,0,hv,HA _ rfl⟩
theorem Inv.fresh(I:Inv X pins σ H s):H s.heap.objs.size=none:=I.hok.fresh (Hy _)
theorem Inv.lstM(I:Inv X pins σ H s)(hH:H l=some (.lst xs)):xs.length≤sizeLine∧∃(its:List Value) (n:Nat),i6 xs its∧xs.length=its.length∧s.heap.get? l=some { cls:=.type "list",data:=.seq its.toArray n }:=by
 obtain⟨z,its,n,r,e⟩:=I.hok l _ hH
 exact⟨z,its,n,r,r.length,e⟩
end
section
variable {X:Cx}
noncomputable def mX:V→List V→Hp→VK→Prop:=fun x vs H Q=>∃ l xs y,x = .ref l∧vs=[y]∧H l=some (.lst xs)∧xs.length<sizeLine∧Q .non (upd H l (.lst (xs++[y])))
theorem ey:MtM X "list.append" mX:=by
 intro pins s σ H x vs v us Q I rx rv h
 obtain⟨l,xs,y,rfl,rfl,hH,hz,q⟩:=h
 cases rx
 obtain⟨u,rfl,ru⟩:=rv.one
 obtain⟨z,its,n,r,hl,e⟩:=I.lstM hH
 refine call_meets F.slot_list_append ⟨_,e,rfl⟩ F.entry_list_append (F.args_list_append_2 _ _) (PySem.list_append l its.toArray n u (by rw[HC];omega)) ⟨e,?_⟩
 refine⟨.non,_,I.lset (its':=its++[u]) hH e (by simp) (r.append (.cons ru .nil)) ?_,rfl,q⟩
 rw[HE,Jq]
 omega
noncomputable def iZ:V→List V→Hp→VK→Prop:=fun x vs H Q=>∃ l xs,x = .ref l∧vs=[]∧H l=some (.lst xs)∧Q .non (upd H l (.lst xs.reverse))
theorem kQ:MtM X "list.reverse" iZ:=by
 intro pins s σ H x vs v us Q I rx rv h
 obtain⟨l,xs,rfl,rfl,hH,q⟩:=h
 cases rx
 have hus:=rv.zero
 subst hus
 obtain⟨z,its,n,r,hl,e⟩:=I.lstM hH
 refine call_meets F.slot_list_reverse ⟨_,e,rfl⟩ F.entry_list_reverse (F.args_list_reverse_1 _) (AutoSeq1.list_reverse_list_0 l its.toArray n (by rw[HC];omega)) ⟨e,?_⟩
 refine⟨.non,_,I.lset (its':=its.reverse) hH e (by simp) r.reverse ?_,rfl,q⟩
 rw[List.length_reverse]
 omega
end
section
variable {prog:Program} {w:World} {A:Around} {E:Value→Shared→Prop} {s:Shared}
end
section
variable {X:Cx}
end
end L2
namespace Att
open PySem PySem.W PySem.Calls PyProof.Rows
theorem az{P:Params}{h:Heap}:∀(ns:List Int) (vs:List Value),WellAll P h vs (ns.map WData.int)→IntsAre vs ns:=by
 intro ns
 induction ns with
 | nil =>
  intro vs w
  rw[IA]at w
  cases w
  exact .nil
 | cons n ns ih =>
  intro vs w
  rw[HL]at w
  cases w with
  | cons a b =>
   cases a
   exact .cons _ _ (ih _ b)
theorem oi{l:OpenLaw}{n:Nat}(hn:l.most=some n){P:Params}{h:Heap}{args:List WData}{vals:List Value}
  (hpre:l.row.toRowW.claim.pre args=true) (hwl:WellAll P h vals args) :
  ∃ a vs ns,vals=[Value.ref a]∧args=[WData.list (ns.map WData.int)]∧h.get? a=some { cls:=.type "list",data:=.seq vs.toArray }∧IntsAre vs ns∧ns.length≤n:=by
 have hsh:WShape.hasAll [] args [.list .int]=true:=(pre_splitW hpre).1
 have hc:l.pre.holds [] { args:=args } = true:=(pre_splitW hpre).2
 obtain⟨d,r,rfl,h1,h2⟩:=hasAllW_cons hsh
 obtain rfl:=hasAllW_nil h2
 obtain⟨xs,rfl,h3⟩:=hasW_list h1
 obtain⟨ns,rfl⟩:=items_int h3
 have hlen:ns.length≤n:=by
  unfold OpenLaw.pre at hc
  have h4:(WTm.not (.lt (.lit (.int (n:Int))) (.len (.arg 0)))).holds [] { args:=[.list (ns.map .int)] } = true:=by
   have h4:=(holds_andW hc).1
   rw[hn]at h4
   exact h4
  have h5:=condW_of h4 (w_not (w_lt w_lit (w_len_list (w_arg rfl))))
  rw[Hk]at h5
  refine Nat.le_of_not_lt fun q=>?_
  have q':(n:Int)<((ns.length:Nat):Int):=by omega
  first
   | (rw[decide_eq_true q']at h5;exact absurd h5 (by decide))
   | (simp at h5;omega)
 cases hwl with
 | cons w1 w2 =>
  cases w2
  cases w1 with
  | list ho hall=>exact⟨_,_,ns,rfl,rfl,ho,az ns _ hall,hlen⟩
theorem ou(l:OpenLaw)(args:List WData):l.row.toRowW.claim.post args (.bool true) args=true :=
 postW_of (r:=l.row.toRowW) (X:=(true == true))
  (show WShape.has [] (.bool true) .bool=true by first|rfl|decide|simp[WShape.has,WShape.arms,WShape.armsAll])
  (show(WTm.eq .res (.lit (.bool true))).value [] { args:=args,res:=some (.bool true),after:=args } = some (.bool (true == true))from w_eq_bool (w_res rfl) w_lit) rfl
theorem jW{l:OpenLaw}{n:Nat}{q:Program}{loose:List Str}{XP:(Str→Option Value)→Heap→Prop}{YP:World→Heap→Prop}{d:DefRec}
  (hn:l.most=some n) (hdf:d.params.defaults=[])
  (call:∀(w:World) (s₀ s₁:Shared) (mg mb:Str→Option Value) (fa:Addr) (o:Obj) (pm cd doc:Value) (a:Addr) (vs:List Value) (ns:List Int),
   Ground q loose [] XP w s₀ mg mb s₁.heap→YP w s₁.heap →
   s₁.heap.get? fa=some o→o.data = .func (docDef d.name d.params d.body d.scope pm cd doc)→s₁.heap.CodeRec cd d.name→mg d.name=some (.ref fa) →
   s₁.heap.get? a=some { cls:=.type "list",data:=.seq vs.toArray }→IntsAre vs ns→ns.length≤n→s₁.gens = #[] →
   codeAny (model l.prog w) callerA (.call (.ref fa) ⟨[.ref a],[]⟩) (fun r s'=>r = .ok (.ret (.bool true))∧OldK s₁.heap s'.heap∧s'.os=s₁.os∧AllBare s'.gens) s₁) :
  WalkO q loose XP YP l.row.toRowW d [] (fun f vs=>PySem.call f vs):=by
 intro w s₀ s₁ mg mb G Y fa o pm cd doc dV kV ho hd hcd hD hmg hg args vals as hpre hlay hrd hwl hlo
 obtain rfl:dV = .none:=Dflts.none hD hdf
 obtain rfl:kV = .none:=Dflts.noKw hD
 obtain⟨a,vs,ns,rfl,rfl,hobj,hints,hlen⟩:=oi hn hpre hwl
 refine enter_call (codeAny_mono (call w s₀ s₁ mg mb fa o pm cd doc a vs ns G Y ho (fd_plain hd) hcd hmg hobj hints hlen hg) fun r s' hq=>?_)
 obtain⟨rfl,h2,h3,h4⟩:=hq
 exact⟨.inl ⟨.bool true,.bool true,[],rfl,fun _=>rfl,.bool true,ou l _,fun _=>⟨List.Pairwise.nil,fun _ hm=>(nomatch hm)⟩⟩,h2,h3,h4⟩
section
variable {prog:Program} {w:World} {A:Around} {E:Value→Shared→Prop} {s:Shared} {K:Frag}
end
end Att
namespace L2
open PySem PySem.Spec PyProof.Rows
theorem dS:∀{vs:List Value} {ns:List Int},IntsAre vs ns→i6 (ns.map V.int) vs
 | _,_,.nil=>.nil
 | _,_,.cons n t h=>.cons ⟨t,rfl⟩ (dS h)
def oX(H:Hp):Prop:=∀ b,H b=none ∨ ∃ o xs,H b=some (.frz o (.lst xs))
theorem sG{P:Program}{w:World}{K:Hi}{mg mb:Str→Option Value}{CX:CXT}{k:Nat}{fa a:Addr}{fd:FuncData}{x:Str}{sp:Sp}{s₁:Shared}{vs:List Value}{ns:List Int}
  (KX:K.In s₁.heap) (hns:s₁.heap.Ns mainGlobals mg) (hb:s₁.heap.Ns builtinsNs mb) (hbb:∀ x:Str,x ≠ "__name__" → mb x=bootBuiltins x) (hlim:s₁.heap.NoLimit) (hsee:s₁.heap.NoSeer) (hg:s₁.gens = #[])
  (ha:s₁.heap.get? a=some { cls:=.type "list",data:=.seq vs.toArray }) (hi:IntsAre vs ns) (hl:ns.length≤sizeLine) (hr:D3 k callerA)
  (F:∀ base:Heap,K.In base→base.Ns mainGlobals mg→base.NoSeer→N3 P w K mg base CX k fa fd [x] sp) (hbind:∀(s:Shared) (u:Value),BindsTo s fd ⟨[u],[]⟩ [(x,u)])
  (hsp:∀ H:Hp,oX H→SqL K H a (ns.map V.int)→sp [.ref a] H (fun v _=>v = .bl true) fun _ _ _=>False)
  (hCX:∀ H e s',CX [] H s₁ (fun _ _ _=>False) e s'→False) :
  codeAny (model P w) callerA (.call (.ref fa) ⟨[.ref a],[]⟩) (fun r s'=>r = .ok (.ret (.bool true))∧OldK s₁.heap s'.heap∧s'.os=s₁.os∧AllBare s'.gens) s₁:=by
 have rv:=dS hi
 have lenV:=hi.length
 have core:∀ H:Hp,oX H→SqL K H a (ns.map V.int)→HOk P w H s₁.heap→(∀ b,H b≠none→b=a)→(H a≠none→K.lookup a=none) →
   codeAny (model P w) callerA (.call (.ref fa) ⟨[.ref a],[]⟩) (fun r s'=>r = .ok (.ret (.bool true))∧OldK s₁.heap s'.heap∧s'.os=s₁.os∧AllBare s'.gens) s₁:=by
  intro H hO hS hok hA hK
  have base_of:∀{b:Addr} {o:Obj},s₁.heap.get? b=some o→H b=none→(gq s₁.heap H).get? b=some o:=fun e n=>sR e n
  have noA:∀{b:Addr} {o:Obj} {es:Array DictEntry} {ep:Nat},s₁.heap.get? b=some o→o.data = .dict es ep→H b=none:=fun{b o es ep} e d=>by
   cases q:H b with
   | none=>rfl
   | some u =>
    have e':b=a:=hA b (by rw[q];simp)
    subst e'
    rw[ha]at e;cases e
    have d':Data.seq vs.toArray _=Data.dict es ep:=d
    cases d'
  have noM:∀{b:Addr} {o:Obj},s₁.heap.get? b=some o→o.cls = .type "module" → H b=none:=fun{b o} e d=>by
   cases q:H b with
   | none=>rfl
   | some u =>
    have e':b=a:=hA b (by rw[q];simp)
    subst e'
    rw[ha]at e;cases e
    have d':Value.type "list" = Value.type "module" := d
    exact absurd d' (by decide)
  have nsK:∀{b:Addr} {m:Str→Option Value},s₁.heap.Ns b m→(gq s₁.heap H).Ns b m:=fun{b m} ⟨o,es,ep,e,d,r⟩=>⟨o,es,ep,base_of e (noA e d),d,r⟩
  have hKb:K.In (gq s₁.heap H):=fun b o e=>base_of (KX b o e) (by
   cases q:H b with
   | none=>rfl
   | some u =>
    have e':b=a:=hA b (by rw[q];simp)
    subst e'
    rw[hK (by rw[q];simp)]at e;cases e)
  have hM:Mod K mg (gq s₁.heap H):=⟨hKb,nsK hns,⟨mb,nsK hb,hbb⟩,let ⟨mc,h1,h2⟩:=hlim;⟨mc,nsK h1,h2⟩⟩
  have e0:lJ P w K mg (gq s₁.heap H) callerA [] s₁ H:=⟨rfl,hM,fun b o e=>wt e,Lm (oM _ _),trivial,fun b hb=>absurd (show b∈([]:List Addr)from hb) (by simp),hok,.of_eq hg⟩
  refine codeAny_mono ((F _ hKb (nsK hns) (let ⟨s1,s2,s3,s4⟩:=hsee;⟨let ⟨mc,h1,h2⟩:=s1;⟨mc,nsK h1,h2⟩,let ⟨mc,h1,h2⟩:=s2;⟨mc,nsK h1,h2⟩,let ⟨mc,h1,h2⟩:=s3;⟨mc,nsK h1,h2⟩,let ⟨mc,bm,ob,h1,h2,h3,h4,h5⟩:=s4;⟨mc,bm,ob,nsK h1,h2,base_of h3 (noM h3 h4),h4,h5⟩⟩)).run callerA [] s₁ H ⟨[.ref a],[]⟩ [.ref a] [.ref a] _ _ hr e0 (hbind s₁ (.ref a)) (.cons rfl .nil) (hsp H hO hS)) fun r s' h=>?_
  cases r with
  | error e=>exact(hCX H e s' h).elim
  | ok fl =>
   cases fl with
   | next=>exact False.elim h
   | brk=>exact False.elim h
   | cont=>exact False.elim h
   | ret u =>
    obtain⟨v,H',os,bare,un,hok',r',q⟩:=h
    have q':v = .bl true:=q
    subst q'
    obtain rfl:u=Value.bool true:=r'
    refine⟨rfl,OldK.of_keep fun b o e=>?_,os,bare⟩
    cases q:H b with
    | none=>exact un.keep b o e q (by intro z;exact absurd (show b∈([]:List Addr)from z) (by simp)) (by simp)
    | some u =>
     rcases hO b with z|⟨ob,xs,z⟩
     ·rw[q]at z;cases z
     ·have z2:=un.frzs b ob _ z
      obtain⟨e1,_⟩:=hok b _ z
      obtain⟨e2,_⟩:=hok' b _ z2
      rw[e]at e1;cases e1
      exact e2
 cases hk:K.lookup a with
 | some o =>
  have e:=KX a o hk
  rw[ha]at e
  cases e
  refine core (fun _=>none) (fun _=>.inl rfl) (.inr ⟨_,vs.toArray,_,hk,rfl,rfl,rfl,by rw[HC,lenV];exact hl,by simpa using rv⟩) (fun b u z=>by have z':(none:Option HO)=some u:=z;cases z') (fun b z=>absurd rfl z) fun z=>absurd rfl z
 | none =>
  refine core (fun b=>if b=a then some (.frz { cls:=.type "list",data:=.seq vs.toArray } (.lst (ns.map V.int)))else none) (fun b=>?_) (.inl (.inr ⟨{ cls:=.type "list",data:=.seq vs.toArray },if_pos rfl⟩)) (fun b u z=>?_) (fun b z=>?_) fun _=>hk
  ·by_cases hb:b=a
   ·exact .inr ⟨_,_,if_pos hb⟩
   ·exact .inl (if_neg hb)
  ·by_cases hb:b=a
   ·have z':=(if_pos hb).symm.trans z
    cases z'
    subst hb
    exact⟨ha,by rw[Hk];exact hl,vs,_,rv,ha⟩
   ·have z':=(if_neg hb).symm.trans z
    cases z'
  ·by_cases hb:b=a
   ·exact hb
   ·exact absurd (if_neg hb) z
theorem vp{l:PySem.W.OpenLaw}{n k:Nat}{q:Program}{loose:List Str}{XP:(Str→Option Value)→Heap→Prop}{YP:World→Heap→Prop}{d:DefRec}{K:Params→Hi}{CX:World→CXT}{sp:World→Sp}{x:Str}
  (hq:PyProof.Rows.importsNone q=true) (hn:l.most=some n) (hn2:n≤sizeLine) (hdf:d.params.defaults=[]) (hr:D3 k callerA)
  (hY:∀(w:World) (h:Heap),YP w h→(K w.params).In h)
  (F:∀(w:World) (mg:Str→Option Value) (fa:Addr) (h:Heap),(K w.params).In h→h.Ns mainGlobals mg→mg d.name=some (.ref fa) →
   ∃ fd:FuncData,(∀(s:Shared) (u:Value),BindsTo s fd ⟨[u],[]⟩ [(x,u)]) ∧
    ∀ base:Heap,(K w.params).In base→base.Ns mainGlobals mg→base.NoSeer→N3 l.prog w (K w.params) mg base (CX w) k fa fd [x] (sp w))
  (hsp:∀(w:World) (H:Hp) (a:Addr) (ns:List Int),ns.length≤n→oX H→SqL (K w.params) H a (ns.map V.int)→sp w [.ref a] H (fun v _=>v = .bl true) fun _ _ _=>False)
  (hCX:∀(w:World) (H:Hp) (s:Shared) (e:Value) (s':Shared),CX w [] H s (fun _ _ _=>False) e s'→False) :
  PySem.W.WalkO q loose XP YP l.row.toRowW d [] (fun f vs=>PySem.call f vs):=by
 refine Att.jW hn hdf fun w s₀ s₁ mg mb fa o pm cd doc a vs ns G Y ho hd hcd hmg hobj hints hlen hg=>?_
 have KX:=hY w _ Y
 obtain⟨fd,hb,hF⟩:=F w mg fa _ KX G.T.g hmg
 exact sG KX G.T.g G.T.b G.T.builtins G.T.nolimit (G.T.seer hq) hg hobj hints (Hx hlen hn2) hr hF hb (fun H hO hS=>hsp w H a ns hlen hO hS) fun H e s'=>hCX w H s₁ e s'
theorem qG{l:PySem.W.OpenLaw}{n k:Nat}{q:Program}{loose:List Str}{XP:(Str→Option Value)→Heap→Prop}{YP:World→Heap→Prop}{d:DefRec}{K:Params→Hi}{CX:CXT}{sp:Hi→Sp}{x:Str}
  (hq:PyProof.Rows.importsNone q=true) (hn:l.most=some n) (hn2:n≤sizeLine) (hdf:d.params.defaults=[]) (hr:D3 k callerA)
  (hY:∀(w:World) (h:Heap),YP w h→(K w.params).In h)
  (F:∀(w:World) (mg:Str→Option Value) (fa:Addr) (h:Heap),(K w.params).In h→h.Ns mainGlobals mg→mg d.name=some (.ref fa) →
   ∃ fd:FuncData,(∀(s:Shared) (u:Value),BindsTo s fd ⟨[u],[]⟩ [(x,u)]) ∧
    ∀ base:Heap,(K w.params).In base→base.Ns mainGlobals mg→base.NoSeer→N3 l.prog w (K w.params) mg base CX k fa fd [x] (sp (K w.params)))
  (hsp:∀(K:Hi) (H:Hp) (a:Addr) (ns:List Int),ns.length≤n→oX H→SqL K H a (ns.map V.int)→sp K [.ref a] H (fun v _=>v = .bl true) fun _ _ _=>False)
  (hCX:∀(H:Hp) (s:Shared) (e:Value) (s':Shared),CX [] H s (fun _ _ _=>False) e s'→False) :
  PySem.W.WalkO q loose XP YP l.row.toRowW d [] (fun f vs=>PySem.call f vs) :=
 vp (K:=K) (CX:=fun _=>CX) (sp:=fun w=>sp (K w.params)) hq hn hn2 hdf hr hY F (fun w H a ns h1 h2 h3=>hsp (K w.params) H a ns h1 h2 h3) fun _ H s e s'=>hCX H s e s'
noncomputable def L8(s:Stmt):Arguments:=match s with
 | .FunctionDef _ a _ _ _ _ _ _ _ _=>a
 | _=>{ posonlyargs:=[],args:=[],vararg:=none,kwonlyargs:=[],kw_defaults:=[],kwarg:=none,defaults:=[] }
noncomputable def E2(s:Stmt):List Stmt:=match s with
 | .FunctionDef _ _ b _ _ _ _ _ _ _=>b
 | _=>[]
noncomputable def e6(s:Stmt):Scope:=match s with
 | .FunctionDef _ _ _ _ _ _ sc _ _ _=>sc
 | _=>{ kind:=.function,names:=[],isGenerator:=false,isCoroutine:=false }
abbrev CX0:CXT:=fun _ _ _ _ _ _=>False
abbrev E0:XK:=fun _ _ _=>False
theorem CU{X:Cx}:gO CX0 X E0:=fun _ _ _ _ _ _ _ h=>h.elim
section
variable {P:Program} {w:World} {K:Hi} {mg:Str→Option Value} {base:Heap}
end
section
variable {X:Cx}
end
theorem Dv{A B:Prop}(h:B):if false=true then A else B:=by
 rw[if_neg HJ]
 exact h
theorem Dt{A B:Prop}(h:A):if true=true then A else B:=by
 rw[if_pos rfl]
 exact h
end L2
end
namespace RM
open Rat
noncomputable def bl(n:Nat):Nat:=n.log2+1
theorem X0(n:Nat):n<2 ^ bl n:=Nat.lt_log2_self
theorem cG{n k:Nat}(h:n<2 ^ k)(hk:0<k):bl n≤k:=by
 unfold bl
 rcases KY n with h0|h0
 ·subst h0;rw[Nat.log2_zero];omega
 ·have:=(Kf (KI.mp h0)).mpr h
  omega
theorem tY(n:Nat):0<bl n:=Nat.succ_pos _
theorem gJ{m n:Nat}(h:m≤n):bl m≤bl n:=cG (HV h (X0 n)) (tY n)
theorem Q4(m n:Nat):bl (m*n)≤bl m+bl n:=by
 refine cG ?_ (Nat.add_pos_left (tY m) _)
 rw[IH]
 exact IX (X0 m) (X0 n)
theorem Bs(m n:Nat):bl (m+n)≤max (bl m) (bl n)+1:=by
 refine cG ?_ (Nat.succ_pos _)
 have h1:=X0 m
 have h2:=X0 n
 have e1:2 ^ bl m≤2 ^ max (bl m) (bl n):=HD (by decide) (Ks _ _)
 have e2:2 ^ bl n≤2 ^ max (bl m) (bl n):=HD (by decide) (Kj _ _)
 rw[JR]
 omega
noncomputable def sz(q:Rat):Nat:=max (bl q.num.natAbs) (bl q.den)
theorem J9(q:Rat):bl q.num.natAbs≤sz q:=Ks _ _
theorem B8(q:Rat):bl q.den≤sz q:=Kj _ _
theorem ym{q:Rat}{n:Nat}(h1:bl q.num.natAbs≤n)(h2:bl q.den≤n):sz q≤n:=Kz.mpr ⟨h1,h2⟩
theorem AB(a b:Int):(divInt a b).num.natAbs≤a.natAbs:=by
 rw[num_divInt]
 rcases Int.lt_trichotomy b 0 with h|h|h
 ·rw[JQ h]
  refine Hx (JY _ _) ?_
  simp
 ·subst h;simp
 ·rw[Kn h,Int.one_mul]
  exact JY _ _
theorem Bd(a b:Int)(hb:b≠0):(divInt a b).den≤b.natAbs:=by
 rw[den_divInt,if_neg hb]
 exact JH _ _
theorem Q8(a b:Int)(hb:b≠0):sz (divInt a b)≤max (bl a.natAbs) (bl b.natAbs) :=
 ym (Hx (gJ (AB a b)) (Ks _ _)) (Hx (gJ (Bd a b hb)) (Kj _ _))
theorem B5(q:Rat):(q.den:Int)≠0:=by have:=q.den_nz;omega
theorem lD(q r:Rat):q+r=divInt (q.num*r.den+r.num*q.den) (q.den*r.den):=by
 conv=>lhs;rw[← num_divInt_den q,← num_divInt_den r]
 rw[divInt_add_divInt _ _ (B5 q) (B5 r)]
theorem sr(q r:Rat):q*r=divInt (q.num*r.num) (q.den*r.den):=by
 conv=>lhs;rw[← num_divInt_den q,← num_divInt_den r]
 rw[divInt_mul_divInt]
theorem Ba(q r:Rat):q / r=divInt (q.num*r.den) (q.den*r.num):=by
 rw[div_def]
 conv=>lhs;rw[← num_divInt_den q,← num_divInt_den r]
 rw[inv_divInt,divInt_mul_divInt]
theorem bY(a b:Int):(a+b).natAbs≤a.natAbs+b.natAbs:=Lg a b
theorem km(q r:Rat):sz (q+r)≤sz q+sz r+1:=by
 rw[lD]
 have hb:((q.den:Int)*(r.den:Int))≠0:=IM (B5 q) (B5 r)
 refine Hx (Q8 _ _ hb) (Kz.mpr ⟨?_,?_⟩)
 ·refine Hx (gJ (bY _ _)) (Hx (Bs _ _) ?_)
  rw[HX,HX]
  have h1:=Q4 q.num.natAbs (r.den:Int).natAbs
  have h2:=Q4 r.num.natAbs (q.den:Int).natAbs
  have a1:=J9 q
  have a2:=J9 r
  have a3:=B8 q
  have a4:=B8 r
  simp only[HF]at h1 h2 ⊢
  omega
 ·rw[HX]
  have h1:=Q4 (q.den:Int).natAbs (r.den:Int).natAbs
  have a3:=B8 q
  have a4:=B8 r
  simp only[HF]at h1 ⊢
  omega
theorem t8(q r:Rat):sz (q*r)≤sz q+sz r:=by
 rw[sr]
 have hb:((q.den:Int)*(r.den:Int))≠0:=IM (B5 q) (B5 r)
 refine Hx (Q8 _ _ hb) (Kz.mpr ⟨?_,?_⟩)
 ·rw[HX]
  have h1:=Q4 q.num.natAbs r.num.natAbs
  have a1:=J9 q
  have a2:=J9 r
  omega
 ·rw[HX]
  have h1:=Q4 (q.den:Int).natAbs (r.den:Int).natAbs
  have a3:=B8 q
  have a4:=B8 r
  simp only[HF]at h1 ⊢
  omega
theorem F8(q:Rat):sz (-q)=sz q:=by
 unfold sz
 rw[Kg,KJ,IC]
theorem N6(q r:Rat):sz (q - r)≤sz q+sz r+1:=by
 rw[Rat.sub_eq_add_neg]
 have:=km q (-r)
 rw[F8]at this
 exact this
theorem zy(q r:Rat)(hr:r≠0):sz (q / r)≤sz q+sz r:=by
 rw[Ba]
 have hn:r.num≠0:=fun h=>hr (JJ.mp h)
 have hb:((q.den:Int)*r.num)≠0:=IM (B5 q) hn
 refine Hx (Q8 _ _ hb) (Kz.mpr ⟨?_,?_⟩)
 ·rw[HX]
  have h1:=Q4 q.num.natAbs (r.den:Int).natAbs
  have a1:=J9 q
  have a4:=B8 r
  simp only[HF]at h1 ⊢
  omega
 ·rw[HX]
  have h1:=Q4 (q.den:Int).natAbs r.num.natAbs
  have a3:=B8 q
  have a2:=J9 r
  simp only[HF]at h1 ⊢
  omega
theorem qP(q:Rat){n:Nat}(hn:0<n)(h1:q.num.natAbs<2 ^ n)(h2:q.den<2 ^ n):sz q≤n:=ym (cG h1 hn) (cG h2 hn)
theorem vw:sz 0=1:=by decide
theorem qQ:sz 1=1:=by decide
theorem cA(a b:Nat)(h:b≠0):Ii a b=Ii b (a % b):=by
 rw[Ln,Nat.gcd_rec,Ln]
theorem L7{a g:Int}(h:g ∣ a):a.fdiv g=a / g:=by
 obtain⟨c,rfl⟩:=h
 by_cases hg:g=0
 ·subst hg;simp
 ·rw[Int.mul_fdiv_cancel_left _ hg,Int.mul_ediv_cancel_left _ hg]
theorem AG(a b:Int)(hb:b≠0)(share:Int)(hs:share=if b<0 then -((Ii a.natAbs b.natAbs:Nat):Int)else((Ii a.natAbs b.natAbs:Nat):Int)) :
  a.fdiv share=(divInt a b).num∧b.fdiv share=((divInt a b).den:Int):=by
 have hg:Ii a.natAbs b.natAbs=LN b a:=by unfold LN;exact Ln _ _
 have da:((LN b a:Nat):Int) ∣ a:=Int.gcd_dvd_right b a
 have db:((LN b a:Nat):Int) ∣ b:=Int.gcd_dvd_left b a
 rw[hg]at hs
 rw[num_divInt,den_divInt,if_neg hb]
 by_cases h:b<0
 ·rw[if_pos h]at hs
  subst hs
  rw[L7 (Int.neg_dvd.mpr da),L7 (Int.neg_dvd.mpr db),JQ h]
  refine⟨?_,?_⟩
  ·rw[Int.ediv_neg,Int.neg_one_mul,KN da]
  ·rw[Int.ediv_neg,← KN db]
   have e:-b=((b.natAbs:Nat):Int):=by omega
   rw[e]
   norm_cast
 ·rw[if_neg h]at hs
  subst hs
  have hp:0<b:=by omega
  rw[L7 da,L7 db,Kn hp,Int.one_mul]
  refine⟨rfl,?_⟩
  have e:b=((b.natAbs:Nat):Int):=by omega
  conv=>lhs;rw[e]
  norm_cast
theorem yr(q r:Rat):decide (q.num*(r.den:Int)<r.num*(q.den:Int))=decide (q<r):=by
 by_cases h:q<r
 ·rw[decide_eq_true h,decide_eq_true ((Rat.lt_iff q r).mp h)]
 ·rw[decide_eq_false h,decide_eq_false (fun z=>h ((Rat.lt_iff q r).mpr z))]
end RM
namespace L2
open PySem PySem.Spec PyProof.Rows
section
variable {prog:Program} {w:World} {A:Around} {R:Result→Shared→Prop} {s:Shared}
noncomputable def mL(ifs:List Expr)(env:Env):Sem Bool:=forIn ifs true fun c r=>if r=true then do let ok ← isTrue c env (eval c env);pure (ForInStep.yield ok)else pure (ForInStep.yield r)
theorem gB{elt target iter:Expr}{ifs:List Expr}{scope:Scope}{pos:Pos}{it acc:Value}{env:Env}(I:Nat→Shared→Prop)
  (turn:∀ n s,I n s→wpAny (model prog w) A (pyNext it) (fun r s₁=>match r with
   | none=>R (.ok .next) s₁
   | some v=>wpAny (model prog w) A (letOwnedTupleGo target it v) (fun _ s₁'=>wpAny (model prog w) A (assign target env v) (fun _ s₂=>wpAny (model prog w) A (mL ifs env) (fun ok s₂'=>if ok=true then wpAny (model prog w) A (eval elt env) (fun x s₃ =>
     wpAny (model prog w) A (call (.builtin "list.append") [acc,x]) (fun _ s₄=>∃ m,m<n∧I m s₄) (notedBy (model prog w) A env fun e s'=>R (.error e) s') s₃)
     (notedBy (model prog w) A env fun e s'=>R (.error e) s') s₂' else ∃ m,m<n∧I m s₂') (notedBy (model prog w) A env fun e s'=>R (.error e) s') s₂) (notedBy (model prog w) A env fun e s'=>R (.error e) s') s₁') (notedBy (model prog w) A env fun e s'=>R (.error e) s') s₁) (notedBy (model prog w) A env fun e s'=>R (.error e) s') s)
  (n:Nat) (h:I n s) :
  codeAny (model prog w) A (.compLoop (.ListComp elt [⟨target,iter,ifs,0⟩] scope pos) 0 it acc env) R s:=by
 refine codeAny_loop rfl I (fun n s hI=>?_) n h
 show wpAny _ _ ((compTurn (.ListComp elt [⟨target,iter,ifs,0⟩] scope pos) 0 it acc env).onRaise (fun x=>do noteFrame x env;theTreesLotGoes x)) _ _ s
 refine wpAny_noted ?_
 rw[compTurn_list]
 refine Hh (wpAny_standAt (Hh (wpAny_mono (turn n s hI) (fun r s₁ h₁=>?_) fun _ _ h'=>h')))
 cases r with
 | none=>exact Hn h₁
 | some v =>
  refine Hh (wpAny_mono h₁ (fun _ s₁' h₁'=>?_) fun _ _ h'=>h')
  refine Hh (wpAny_mono h₁' (fun _ s₂ h₂=>Hh (wpAny_mono h₂ (fun ok s₂' h₃=>?_) fun _ _ h'=>h')) fun _ _ h'=>h')
  cases ok with
  | true =>
   refine Hh (Hh (wpAny_mono h₃ (fun x s₃ h₄=>Hh (wpAny_mono h₄ (fun _ s₄ h₅=>Hn (Hn ⟨rfl,h₅⟩)) fun _ _ h'=>h')) fun _ _ h'=>h'))
  | false=>exact Hh (Hn (Hn ⟨rfl,h₃⟩))
end
def aD(X:Cx)(ifs:List Expr)(t:TT):Prop :=
 ∀(pins:List (Addr × Obj)) (s:Shared) (σ:St) (H:Hp) (Q:Bool→Hp→Prop),Inv X pins σ H s→t σ H Q→wpAny (model X.prog X.w) X.A (mL ifs X.env) (TP X pins σ Q) X.xe s
def Er:TT:=fun _ H Q=>Q true H
theorem rK{X:Cx}:aD X [] Er:=fun pins s σ H Q I q=>Hn ⟨H,I,q⟩
noncomputable def Q3(cells:List (Str × Addr)):List (Str × NameKind)→List (Str × Addr)→List (Str × Addr)
 | [],acc=>acc
 | (n,k) :: r,acc=>if k == .free then Q3 cells r ((n,(cells.lookup n).getD 0) :: acc)else Q3 cells r acc
theorem U8{env:Env}:∀(names:List (Str × NameKind)) (acc:List (Str × Addr)),(∀ n,(n,NameKind.free)∈names→∃ c,env.cells.lookup n=some c) →
  (forIn names acc (fun(x:Str × NameKind) (cs:List (Str × Addr))=>if (x.2 == NameKind.free)=true then(do let a ← cellOf env x.1;pure (ForInStep.yield ((x.1,a) :: cs)))else pure (ForInStep.yield cs)):Sem (List (Str × Addr)))=pure (Q3 env.cells names acc)
 | [],acc,_=>rfl
 | (n,k) :: r,acc,h=>by
  rw[ID]
  unfold Q3
  by_cases hk:(k == NameKind.free)=true
  ·have e:k = .free:=by cases k<;>first|rfl|(exact absurd hk (by decide))
   subst e
   obtain⟨c,hc⟩:=h n Hq
   rw[if_pos hk,if_pos hk]
   have e1:cellOf env n=pure c:=by unfold cellOf;rw[hc]
   rw[e1,pure_bind,pure_bind,hc]
   exact U8 r _ fun m hm=>h m (Hl _ hm)
  ·rw[if_neg hk,if_neg hk,pure_bind]
   exact U8 r _ fun m hm=>h m (Hl _ hm)
theorem jT{scope:Scope}{env:Env}(h:∀ n,(n,NameKind.free)∈scope.names→∃ c,env.cells.lookup n=some c):closureFor scope env=pure (Q3 env.cells scope.names []):=by
 have:=U8 (env:=env) scope.names [] h
 unfold closureFor
 first
  | (simp only[]at this ⊢;rw[← this];simp only[bind_pure];rfl)
  | (rw[← this];rfl)
  | (simp only[bind_pure,pure_bind];exact this)
theorem L9{cells:List (Str × Addr)}{x:Str}{c:Addr}:∀(names:List (Str × NameKind)) (acc:List (Str × Addr)),(∀ n,(n,NameKind.free)∈names→∃ c,cells.lookup n=some c)→(∀ y d,acc.lookup y=some d→cells.lookup y=some d)→(Q3 cells names acc).lookup x=some c→cells.lookup x=some c
 | [],acc,_,ha,h=>ha x c h
 | (n,k) :: r,acc,hn,ha,h=>by
  unfold Q3 at h
  by_cases hk:(k == NameKind.free)=true
  ·rw[if_pos hk]at h
   have e:k = .free:=by cases k<;>first|rfl|(exact absurd hk (by decide))
   subst e
   obtain⟨d,hd⟩:=hn n Hq
   refine L9 r _ (fun m hm=>hn m (Hl _ hm)) (fun y e hy=>?_) h
   rw[IY]at hy
   split at hy
   ·rename_i hz
    have hz':y=n:=by simpa using hz
    subst hz'
    rw[hd]at hy ⊢
    cases hy;rfl
   ·exact ha y e hy
  ·rw[if_neg hk]at h
   exact L9 r _ (fun m hm=>hn m (Hl _ hm)) ha h
theorem S5{cells:List (Str × Addr)}{x:Str}:∀(names:List (Str × NameKind)) (acc:List (Str × Addr)),((x,NameKind.free)∈names ∨ ∃ c,acc.lookup x=some c)→∃ c,(Q3 cells names acc).lookup x=some c
 | [],acc,h=>by
  rcases h with h|h
  ·cases h
  ·exact h
 | (n,k) :: r,acc,h=>by
  unfold Q3
  by_cases hk:(k == NameKind.free)=true
  ·rw[if_pos hk]
   refine S5 r _ ?_
   by_cases hx:x=n
   ·right;rw[IY];simp[hx]
   ·rcases h with h|⟨c,h⟩
    ·rcases Hr.mp h with z|z
     ·injection z with z1 _;exact absurd z1 hx
     ·exact .inl z
    ·right
     refine⟨c,?_⟩
     rw[IY]
     have:(x == n)=false:=by simpa using hx
     rw[this];exact h
  ·rw[if_neg hk]
   refine S5 r _ ?_
   rcases h with h|h
   ·rcases Hr.mp h with z|z
    ·injection z with _ z2
     subst z2
     exact absurd rfl hk
    ·exact .inl z
   ·exact .inr h
theorem ao{scope:Scope}{env:Env}{x:Str}{k:NameKind}(h:(relabel scope env).names.lookup x=some k)(hk:k = .cell∨k = .free)(hcell:∀ y∈scope.names,y.2 ≠ .cell):(x,NameKind.free)∈scope.names:=by
 have go:∀(l:List (Str × NameKind)),(∀ y∈l,y.2 ≠ .cell)→(l.map fun(n,k)=>if (k == NameKind.free && env.scope.kind == .function && env.kindOf n == some .cell)=true then(n,NameKind.cell)else(n,k)).lookup x=some k→(x,NameKind.free)∈l:=by
  intro l
  induction l with
  | nil=>intro _ h;cases h
  | cons p r ih =>
   intro hl h
   obtain⟨n,j⟩:=p
   rw[HL,IY]at h
   by_cases hj:j = .free
   ·subst hj
    by_cases hx:x=n
    ·subst hx;exact Hq
    ·refine Hl _ (ih (fun y hy=>hl y (Hl _ hy)) ?_)
     have e:∀ b:Bool,(x == (if b=true then(n,NameKind.cell)else(n,NameKind.free)).1)=false:=fun b=>by cases b<;>simpa using hx
     dsimp only at h
     rw[e]at h
     exact h
   ·have e:(j == NameKind.free)=false:=by simpa using hj
    have hc:=hl (n,j) Hq
    dsimp only at h
    rw[e]at h
    simp only[LH,HW,if_false]at h
    by_cases hx:x=n
    ·have:(x == n)=true:=by simpa using hx
     rw[this]at h
     have h':j=k:=by simpa using h
     subst h'
     rcases hk with z|z
     ·exact absurd z hc
     ·exact absurd z hj
    ·have:(x == n)=false:=by simpa using hx
     rw[this]at h
     exact Hl _ (ih (fun y hy=>hl y (Hl _ hy)) h)
 exact go scope.names hcell h
noncomputable def cxF(X:Cx)(scope:Scope)(cl:List (Str × Addr))(N':List Str)(s3:Shared)(H3:Hp)(C:Addr)(fp:List Addr)(pins:List (Addr × Obj)):Cx :=
 { X with N:=N',s₀:=s3,H₀:=H3,env:=compEnvC scope cl C X.env,outer:=X.stack,ex:=fp,fn:=fun _=>false,pn:=X.pn++pins,xe:=fun _ _=>False }
noncomputable def gE(n:Nat)(caps:List Nat)(σ:St):St:=IJ n none++caps.map fun i=>(σ[i]?).getD none
def kj(n:Nat)(caps:List Nat)(wi:TI)(g:TG)(tc:TT)(te:TE):TE:=fun σ H Q=>wi σ H fun J H1=>∀ D,H1 D=none→∃ W:Nat→Nat→Hp→Prop,(∃ m,W 0 m (upd H1 D (.lst [])))∧∀ i m H,W i m H →
 (J.stop i H∧Q (.ref D) H)∨(J.go i H∧∀ x H',J.yld i H x H'→g x (gE n caps σ) H' fun σ2 H2=>tc σ2 H2 fun b H2'=>if b=true then te σ2 H2' fun v H3=>∃ ys,H3 D=some (.lst ys)∧ys.length<sizeLine∧∃ m',m'<m∧W (i+1) m' (upd H3 D (.lst (ys++[v])))else ∃ m',m'<m∧W (i+1) m' H2')
section
variable {X:Cx} {elt tg iter:Expr} {scope:Scope} {cl:List (Str × Addr)} {tgs cps:List Str} {caps:List Nat} {wi:TI} {g:TG} {tc:TT} {te:TE} {pos:Pos} {ifs:List Expr}
def uj(s3:Shared)(H3:Hp)(fp:List Addr)(cl:List (Str × Addr))(x:Str)(v:V):Prop :=
 ∃(u:Value) (c:Addr) (o:Obj),m7 v u∧cl.lookup x=some c∧s3.heap.get? c=some o∧o.data = .cell (some u)∧H3 c=none∧c∉fp
theorem Inv.reset{pins pins':List (Addr × Obj)}{σ0 σ':St}{H3 H':Hp}{s3 s':Shared}{fp:List Addr}{C:Addr}(I:Inv (cxF X scope cl (tgs++cps) s3 H3 C fp pins) pins' σ' H' s')
  (hsc:∀ x∈cps,(relabel scope X.env).names.lookup x=some .cell∨(relabel scope X.env).names.lookup x=some .free) (hl:caps.length=cps.length)
  (hc:∀(j:Nat) (x:Str) (v:V),cps[j]? = some x→(caps.map fun i=>(σ0[i]?).getD none)[j]? = some (some v)→uj s3 H3 fp cl x v) :
  Inv (cxF X scope cl (tgs++cps) s3 H3 C fp pins) pins' (gE tgs.length caps σ0) H' s':=by
 obtain⟨m,hn,_⟩:=I.loc
 refine⟨I.ok,I.os,I.bare,I.base,⟨m,hn,fun i x v e1 e2 e3=>?_⟩,I.cell,I.free,I.freeC,I.pin,I.hok,by simp[gE,cxF,hl]⟩
 have e1:(tgs++cps)[i]? = some x:=e1
 unfold gE at e2
 rw[Jx]at e1 e2
 rw[Jp]at e2
 by_cases hi:i<tgs.length
 ·rw[if_pos hi]at e2
  rw[Ir]at e2
  split at e2<;>cases e2
 ·rw[if_neg hi]at e1 e2
  obtain⟨u,c,o,r,h1,h2,h3,h4,h5⟩:=hc (i - tgs.length) x v e1 e2
  obtain⟨sl,k⟩:=I.base.any h2 h4 h5
  refine⟨u,r,.inr ⟨?_,c,h1,_,k,h3⟩⟩
  rcases hsc x (HG e1)with z|z
  ·exact .inl z
  ·exact .inr z
theorem jS{pins:List (Addr × Obj)}{σ0:St}{σ:St}{H3:Hp}{s3:Shared}{fp:List Addr}{it D C:Addr}{tn:Nat→Heap→Prop}{J:It}{h₁:Heap}{tk:Nat}{m:Str→Option Value}{R:Result→Shared→Prop}{Qd:Hp→Prop}
  (hc:X.calm=true) (hcell:∀ x∈scope.names,x.2 ≠ .cell) (hkind:scope.kind = .function)
  (hcl:∀ x c,cl.lookup x=some c→X.env.cells.lookup x=some c) (hhas:∀ x,(x,NameKind.free)∈scope.names→∃ c,cl.lookup x=some c)
  (hsc:∀ x∈cps,(relabel scope X.env).names.lookup x=some .cell∨(relabel scope X.env).names.lookup x=some .free) (hl:caps.length=cps.length)
  (hcap:∀(j:Nat) (x:Str) (v:V),cps[j]? = some x→(caps.map fun i=>(σ0[i]?).getD none)[j]? = some (some v)→uj s3 H3 fp cl x v)
  (hg:∀ cl s3 H3 C fp pins,PG (cxF X scope cl (tgs++cps) s3 H3 C fp pins) tg g) (hq:∀ cl s3 H3 C fp pins,aD (cxF X scope cl (tgs++cps) s3 H3 C fp pins) ifs tc) (he:∀ cl s3 H3 C fp pins,PE (cxF X scope cl (tgs++cps) s3 H3 C fp pins) elt te)
  (I3:Inv X pins σ H3 s3) (T:lE X.prog X.w X.K tg J fp it tn) (st3:tn 0 s3.heap) (f3:∀ b∈fp,V0 X pins H3 b) (hC:C=s3.heap.objs.size) (hn:h₁.Ns C m) (hk:∀ b o,s3.heap.get? b=some o→h₁.get? b=some o)
  (W:Nat→Nat→Hp→Prop) (m0:Nat) (w0:W 0 m0 H3)
  (turn:∀ i m H,W i m H→(J.stop i H∧Qd H)∨(J.go i H∧∀ x H',J.yld i H x H'→g x (gE tgs.length caps σ0) H' fun σ2 H2=>tc σ2 H2 fun b H2'=>if b=true then te σ2 H2' fun v H3=>∃ ys,H3 D=some (.lst ys)∧ys.length<sizeLine∧∃ m',m'<m∧W (i+1) m' (upd H3 D (.lst (ys++[v])))else ∃ m',m'<m∧W (i+1) m' H2'))
  (hR:∀ s' H' σ',Inv (cxF X scope cl (tgs++cps) s3 H3 C fp pins) [] σ' H' s'→Qd H'→R (.ok .next) s') :
  codeAny (model X.prog X.w) X.A (.compStart (.ListComp elt [⟨tg,iter,ifs,0⟩] scope pos) 0 (.ref it) (.ref D) (compEnvC scope cl C X.env)) R { s3 with heap:=h₁,toks:=tk }:=by
 have lt3:∀ b∈fp,b<s3.heap.objs.size:=fun b hb=>by
  obtain⟨o,e,_⟩:=T.obj 0 _ st3 b hb
  exact Hv e
 have ok':(cxF X scope cl (tgs++cps) s3 H3 C fp pins).Ok:={
  mod:=I3.ok.mod
  kind:=hkind
  glob:=I3.ok.glob
  blt:=I3.ok.blt
  above:=Lm hC.symm
  inj:=fun x y c e e'=>I3.ok.inj x y c (hcl x c e) (hcl y c e')
  has:=fun x h=>by
   rcases h with h|h
   ·exact hhas x (ao h (.inl rfl) hcell)
   ·exact hhas x (ao h (.inr rfl) hcell)
  cab:=fun x c h=>by cases h
  hd:=fun _=>I3.ok.hd hc
  frames:=I3.ok.frames
  stk:=.inl rfl
  exf:=fun b hb=>⟨fun z=>by
   have z':b=C:=z
   have h1:=lt3 b hb
   rw[z',hC]at h1
   exact IG _ h1,fun x c e=>(f3 b hb).2.2.2.2.1 x c (hcl x c e)⟩
  bs:=fun b o e=>I3.bs b o e
  bsz:=Hx I3.ok.bsz I3.sz
  noex:=fun b o e hb=>by
   obtain⟨_,_,_,q,_⟩:=f3 b hb
   rcases q with q|q
   ·exact I3.ok.noex b o e q
   ·have h1:=Hv e
    exact absurd (Ho (Ho h1 I3.ok.bsz) q) (IG _)
  exfs:=fun b hb z=>by
   obtain⟨_,q1,q2,_⟩:=f3 b hb
   rcases Hr.mp (I3.stkSub b z)with y|y
   ·exact q1 y
   ·exact q2 y
  funs:=I3.stack
  frf:=I3.stkFree }
 have J0:Inv (cxF X scope cl (tgs++cps) s3 H3 C fp pins) [] (IJ (tgs++cps).length none) H3 { s3 with heap:=h₁,toks:=tk }:={
  ok:=ok'
  os:=rfl
  bare:=I3.bare
  base:=Un.kept hk
  loc:=⟨m,hn,fun i x v _ e _=>by
   rw[Ir]at e
   split at e<;>cases e⟩
  cell:=fun x c e=>by
   obtain⟨v,o,ho,hd⟩:=I3.cell x c (hcl x c e)
   exact⟨v,o,hk c o ho,hd⟩
  free:=I3.hok.fresh (Lm hC.symm)
  freeC:=fun x c e=>I3.freeC x c (hcl x c e)
  pin:=fun p hp=>by
   have hp':p∈X.pn++pins:=by simpa[cxF]using hp
   obtain⟨a1,a2,a3,a4,a5⟩:=I3.pin p hp'
   refine⟨hk _ _ a1,a2,fun z=>?_,fun z=>?_,a5⟩
   ·have z':p.1=C:=z
    have h1:=Hv a1
    rw[z',hC]at h1
    exact IG _ h1
   ·rcases Hr.mp (I3.stkSub _ z)with y|y
    ·exact a3 y
    ·exact a4 y
  hok:=I3.hok.kept hk
  len:=by simp[cxF] }
 have stat:∀{H':Hp},(∀ b∈fp,H' b=none)→∀ b∈fp,V0 (cxF X scope cl (tgs++cps) s3 H3 C fp pins) [] H' b:=fun hn b hb=>by
  obtain⟨_,_,_,_,_,q⟩:=f3 b hb
  exact⟨hn b hb,(ok'.exf b hb).1,ok'.exfs b hb,.inl hb,(ok'.exf b hb).2,fun p hp=>q p (by simpa[cxF]using hp)⟩
 have loop:codeAny (model X.prog X.w) X.A (.compLoop (.ListComp elt [⟨tg,iter,ifs,0⟩] scope pos) 0 (.ref it) (.ref D) (compEnvC scope cl C X.env)) R { s3 with heap:=h₁,toks:=tk }:=by
  refine gB (fun n s'=>∃ i σ' H',Inv (cxF X scope cl (tgs++cps) s3 H3 C fp pins) [] σ' H' s'∧tn i s'.heap∧(∀ b∈fp,H' b=none)∧W i n H') ?_ m0
   ⟨0,_,H3,J0,T.keep _ _ _ st3 fun b hb o e=>hk b o e,fun b hb=>(f3 b hb).1,w0⟩
  rintro n s4 ⟨i,σ4,H4,I4,st4,fr4,w4⟩
  rcases turn i n H4 w4 with⟨stop,qn⟩|⟨go,step⟩
  ·refine thn (T.done (cxF X scope cl (tgs++cps) s3 H3 C fp pins) rfl rfl rfl hc i [] s4 σ4 H4 _ I4 (stat fr4) st4 stop) fun r s5 zz=>?_
   obtain⟨hr,I5⟩:=zz
   subst hr
   exact hR s5 H4 σ4 I5 qn
  ·refine thn (T.item (cxF X scope cl (tgs++cps) s3 H3 C fp pins) rfl rfl rfl hc i [] s4 σ4 H4 _ I4 (stat fr4) st4 go) fun r s5 zz=>?_
   obtain⟨u,hr,h5⟩:=zz
   subst hr
   refine thn h5 fun _ s6 zz=>?_
   obtain⟨x,H6,I6,r6,y6,st6,fr6⟩:=zz
   have I6w:=I6.reset hsc hl hcap
   have I6':=I6w.pinned (stat fr6) (T.obj _ _ st6)
   refine wpAny_mono (hg cl s3 H3 C fp pins _ s6 _ H6 x u _ I6' r6 (step x H6 y6)) (fun _ s7 ⟨σ7,H7,I7,q7⟩=>?_) fun _ _ z=>z.elim
   refine wpAny_mono (hq cl s3 H3 C fp pins _ s7 σ7 H7 _ I7 q7) (fun b s7' ⟨H7',I7',q7'⟩=>?_) fun _ _ z=>z.elim
   cases b with
   | false =>
    obtain⟨m',hm,w8⟩:=q7'
    refine⟨m',hm,i+1,σ7,H7',I7'.unpinned,T.keep _ _ _ st6 fun b hb o e=>(I7'.pin (b,o) (HI _ (HI _ (C2 hb e)))).1,fun b hb=>?_,w8⟩
    obtain⟨o,e,d⟩:=T.obj _ _ st6 b hb
    exact(I7'.pin (b,o) (HI _ (HI _ (C2 hb e)))).2.1
   | true =>
    refine wpAny_mono (he cl s3 H3 C fp pins _ s7' σ7 H7' _ I7' q7') (fun v s8 ⟨y,H8,I8,r8,q8⟩=>?_) fun _ _ z=>z.elim
    obtain⟨ys,hy,hz,m',hm,w8⟩:=q8
    refine wpAny_mono (ey (X:=cxF X scope cl (tgs++cps) s3 H3 C fp pins) _ s8 σ7 H8 (.ref D) [y] (.ref D) [v] (fun _ H9=>W (i+1) m' H9) I8 rfl (.cons r8 .nil) ⟨D,ys,y,rfl,rfl,hy,hz,w8⟩) (fun _ s9 ⟨_,H9,I9,_,w9⟩=>?_) fun _ _ z=>z.elim
    refine⟨m',hm,i+1,σ7,H9,I9.unpinned,T.keep _ _ _ st6 fun b hb o e=>(I9.pin (b,o) (HI _ (HI _ (C2 hb e)))).1,fun b hb=>?_,w9⟩
    obtain⟨o,e,d⟩:=T.obj _ _ st6 b hb
    exact(I9.pin (b,o) (HI _ (HI _ (C2 hb e)))).2.1
 exact codeAny_compStart_list loop (T.self _ 0 _ _ _ (T.keep _ _ _ st3 fun b hb o e=>hk b o e) loop)
theorem eI(hc:X.calm=true)(hcell:∀ x∈scope.names,x.2 ≠ .cell)(hkind:scope.kind = .function)(hnames:∀ x∈scope.names,x.2 = .local→scope.names.lookup x.1=some .local)
  (hfr:∀ x∈scope.names,x.2 = .free→x.1∈cps) (hN:caps.map (fun i=>X.N[i]?)=cps.map some) (hX:∀ x∈cps,X.env.scope.names.lookup x=some .cell∧scope.names.lookup x=some .free)
  (hsc:∀ x∈cps,(relabel scope X.env).names.lookup x=some .cell∨(relabel scope X.env).names.lookup x=some .free)
  (hi:PI X tg iter wi) (hg:∀ cl s3 H3 C fp pins,PG (cxF X scope cl (tgs++cps) s3 H3 C fp pins) tg g) (hq:∀ cl s3 H3 C fp pins,aD (cxF X scope cl (tgs++cps) s3 H3 C fp pins) ifs tc) (he:∀ cl s3 H3 C fp pins,PE (cxF X scope cl (tgs++cps) s3 H3 C fp pins) elt te)
  (hs:∀ x,foldedSetIterable iter X.env x=pure x) {use:Option (Value→Sem Unit)} {Qf:Value→Shared→Prop} {pins:List (Addr × Obj)} {s:Shared} {σ:St} {H:Hp} {Q:VK} (I:Inv X pins σ H s) (h:kj tgs.length caps wi g tc te σ H Q)
  (hU:∀(D C:Addr) (s':Shared) (H4:Hp) (m4:Str→Option Value),s'.heap.Ns C m4→V0 X pins H4 C→(∀ h',Heap.SameBut C s'.heap h'→Inv X pins σ H4 { s' with heap:=h' })→Q (.ref D) H4→compPost (model X.prog X.w) X.A X.xe use Qf (.ref D) C (.ok .next) s') :
  wpAny (model X.prog X.w) X.A (comprehension (.ListComp elt [⟨tg,iter,ifs,0⟩] scope pos) scope X.env (firstIterPos [⟨tg,iter,ifs,0⟩] pos) (newList []) false (eval iter X.env) use) Qf X.xe s:=by
 have hl:caps.length=cps.length:=by
  have:=congrArg Jj hN
  simpa using this
 have hcells:∀ n,(n,NameKind.free)∈scope.names→∃ c,X.env.cells.lookup n=some c:=fun n hn=>I.ok.has n (.inl (hX n (hfr _ hn rfl)).1)
 refine wpAny_comprehension_free (use:=use) rfl hs (jT hcells) hkind hnames (thn (hi pins s σ H _ I h) fun v s1 h1=>thn h1 fun itv s2 h2=>?_)
 obtain⟨it,fp,tn,J,H',e,I2,T,st2,f2,hW⟩:=h2
 subst e
 refine wpAny_newObj_type (hd:=by size_fits) (wpAny_newFunctionEnv hcell (by intro y hy;simp at hy) (fun h₁ hns₁ hsb₁=>?_) hkind)
 dsimp only at hns₁ hsb₁ ⊢
 have I3:=I2.lnew (ys:=[]) (its:=[]) (t':=s2.toks) .nil (Ic _)
 obtain⟨W,⟨m0,w0⟩,turn⟩:=hW _ I2.fresh
 have st3:tn 0 (s2.heap.push { cls:=.type "list",data:=.seq ([]:List Value).toArray }):=T.keep _ _ _ st2 fun b hb o e=>Hj _ e
 have f3:∀ b∈fp,V0 X pins (upd H' s2.heap.objs.size (.lst [])) b:=fun b hb=>by
  obtain⟨q0,q⟩:=f2 b hb
  obtain⟨o,e,_⟩:=T.obj 0 _ st2 b hb
  exact⟨by rw[g9 (HQ (Hv e))];exact q0,q⟩
 have old:∀ b o,(s2.heap.push { cls:=.type "list",data:=.seq ([]:List Value).toArray }).get? b=some o→h₁.get? b=some o:=fun b o e =>
  hsb₁.extBut b o (HQ (Hv e)) (Hj _ e)
 have hcap:∀(j:Nat) (x:Str) (v:V),cps[j]? = some x→(caps.map fun i=>(σ[i]?).getD none)[j]? = some (some v) →
   uj { s2 with heap:=s2.heap.push { cls:=.type "list",data:=.seq ([]:List Value).toArray },toks:=s2.toks } (upd H' s2.heap.objs.size (.lst [])) fp (Q3 X.env.cells scope.names []) x v:=fun j x v ex ev=>by
  have hx:=hX x (HG ex)
  have hj:(caps.map (fun i=>X.N[i]?))[j]? = some (some x):=by rw[hN,HK,ex];rfl
  rw[HK]at ev hj
  cases hcj:caps[j]? with
  | none=>rw[hcj]at ev;cases ev
  | some i =>
   rw[hcj]at ev hj
   have ev':(σ[i]?).getD none=some v:=by simpa using ev
   have hj':X.N[i]? = some x:=by simpa using hj
   have es:σ[i]? = some (some v):=by
    cases q:σ[i]? with
    | none=>rw[q]at ev';cases ev'
    | some w=>rw[q]at ev';rw[show w=some v by simpa using ev']
   obtain⟨m,hn,hlook⟩:=I3.loc
   obtain⟨u,ru,lk⟩:=hlook i x v hj' es (.inr (.inl hx.1))
   rcases lk with⟨k1,_⟩|⟨_,c,hc1,o,ho,hd⟩
   ·have k1':X.env.scope.names.lookup x=some .local:=k1
    rw[hx.1]at k1';cases k1'
   ·have hmem:(x,NameKind.free)∈scope.names:=by
     have hlk:=hx.2
     have go:∀ l:List (Str × NameKind),l.lookup x=some .free→(x,NameKind.free)∈l:=by
      intro l
      induction l with
      | nil=>intro z;cases z
      | cons p r ih =>
       intro z
       obtain⟨n,k⟩:=p
       rw[IY]at z
       split at z
       ·rename_i q;have q':x=n:=by simpa using q
        have z':k = .free:=by simpa using z
        rw[q',z'];exact Hq
       ·exact Hl _ (ih z)
     exact go _ hlk
    obtain⟨c',hc'⟩:=S5 (cells:=X.env.cells) scope.names [] (.inl hmem)
    have:=L9 scope.names [] hcells (fun y d z=>by cases z) hc'
    rw[hc1]at this
    cases this
    refine⟨u,c,o,ru,hc',ho,hd,I3.freeC x c hc1,fun hb=>?_⟩
    exact(f3 c hb).2.2.2.2.1 x c hc1 rfl
 refine jS (s3:={ s2 with heap:=s2.heap.push { cls:=.type "list",data:=.seq ([]:List Value).toArray },toks:=s2.toks }) (Qd:=fun H=>Q (.ref s2.heap.objs.size) H) (tk:=s2.toks+([]:List (Str × Value)).length) (cl:=Q3 X.env.cells scope.names [])
  hc hcell hkind (fun x c z=>L9 scope.names [] hcells (fun y d z=>by cases z) z) (fun x z=>S5 scope.names [] (.inl z)) hsc hl hcap hg hq he I3 T st3 f3 rfl hns₁ old W m0 w0 turn fun s' H4 σ4 I4 q4=>?_
 obtain⟨m4,hn4,_⟩:=I4.loc
 have hCfree:H4 _=none:=I4.free
 have nC:∀ b u,H4 b=some u→b≠(s2.heap.push { cls:=.type "list",data:=.seq ([]:List Value).toArray }).objs.size:=fun b u e z=>by
  rw[z]at e
  have:=e.symm.trans hCfree
  cases this
 have lt:∀ b o,(s2.heap.push { cls:=.type "list",data:=.seq ([]:List Value).toArray }).get? b=some o→b≠(s2.heap.push { cls:=.type "list",data:=.seq ([]:List Value).toArray }).objs.size:=fun b o e=>HQ (Hv e)
 have ub:=I4.base
 have fC:V0 X pins H4 (s2.heap.push { cls:=.type "list",data:=.seq ([]:List Value).toArray }).objs.size:=I3.fpOk (Hy _) hCfree
 refine hU _ _ s' H4 m4 hn4 fC (fun h' hsb=>?_) q4
 have un:Un (frs X.stack) fp (upd H' s2.heap.objs.size (.lst [])) H4 (s2.heap.push { cls:=.type "list",data:=.seq ([]:List Value).toArray }) h':={
  keep:=fun b o e n x y=>(hsb.2 b (lt b o e)).trans (ub.keep b o e n x y)
  slot:=fun b o e n x y=>let ⟨q,z⟩:=ub.slot b o e n x y;⟨q,(hsb.2 b (lt b o e)).trans z⟩
  free:=ub.free
  there:=fun b o e y=>let ⟨q,z⟩:=ub.there b o e y;⟨q,(hsb.2 b (lt b o e)).trans z⟩
  tups:=ub.tups
  frzs:=ub.frzs
  tbls:=ub.tbls }
 refine I3.call' (s':={ s' with heap:=h' }) I4.os un (fun b u e=>?_) I4.bare fun b hb=>?_
 ·refine(I4.hok b u e).stay (fun c v hcv q=>(hsb.2 c ?_).trans q) (fun _ q=>q) fun _ _ q=>q
  rcases hcv with z|z
  ·rw[z];exact nC b u e
  ·exact nC c _ z
 ·obtain⟨q0,q1,q2,q3,q4,q5⟩:=f3 b hb
  exact⟨q3,q1,q4,q5⟩
theorem rR(hc:X.calm=true)(hcell:∀ x∈scope.names,x.2 ≠ .cell)(hkind:scope.kind = .function)(hnames:∀ x∈scope.names,x.2 = .local→scope.names.lookup x.1=some .local)
  (hfr:∀ x∈scope.names,x.2 = .free→x.1∈cps) (hN:caps.map (fun i=>X.N[i]?)=cps.map some) (hX:∀ x∈cps,X.env.scope.names.lookup x=some .cell∧scope.names.lookup x=some .free)
  (hsc:∀ x∈cps,(relabel scope X.env).names.lookup x=some .cell∨(relabel scope X.env).names.lookup x=some .free)
  (hi:PI X tg iter wi) (hg:∀ cl s3 H3 C fp pins,PG (cxF X scope cl (tgs++cps) s3 H3 C fp pins) tg g) (hq:∀ cl s3 H3 C fp pins,aD (cxF X scope cl (tgs++cps) s3 H3 C fp pins) ifs tc) (he:∀ cl s3 H3 C fp pins,PE (cxF X scope cl (tgs++cps) s3 H3 C fp pins) elt te)
  (hs:∀ x,foldedSetIterable iter X.env x=pure x:=by intro _;rfl):PE X (.ListComp elt [⟨tg,iter,ifs,0⟩] scope pos) (kj tgs.length caps wi g tc te):=by
 intro pins s σ H Q I h
 rw[eval_ListComp]
 exact eI hc hcell hkind hnames hfr hN hX hsc hi hg hq he hs I h fun D C s' H4 m4 hn4 fC hI q4=>⟨m4,hn4,fun h' hsb=>⟨.ref D,H4,hI h' hsb,rfl,q4⟩⟩
def PU(X:Cx)(i:Nat)(x:Str)(pos':Pos)(e:Expr)(te:TE):Prop:=∀(pins:List (Addr × Obj)) (s:Shared) (σ:St) (H:Hp) (Q:VK),Inv X pins σ H s→te σ H Q →
 wpAny (model X.prog X.w) X.A (evalThenUse e X.env (assign (.Name x pos') X.env)) (fun _ s'=>∃ v H',Inv X pins (σ.set i (some v)) H' s'∧Q v H') X.xe s
theorem PU.imp{X:Cx}{i:Nat}{x:Str}{pos':Pos}{e:Expr}{t t':TE}(h:PU X i x pos' e t)(f:∀ σ H Q,t' σ H Q→t σ H Q):PU X i x pos' e t':=fun pins s σ H Q I q=>h pins s σ H Q I (f σ H Q q)
theorem vS{i:Nat}{x:Str}{pos' pos:Pos}{e:Expr}{te:TE}(h:PU X i x pos' e te)(hs:swapsWith e (some (.Name x pos')) pos.line X.env=pure true):PS X (.Assign [.Name x pos'] e pos) (zw te (sV i)):=by
 intro pins s σ H D I q
 rw[exec_Assign_Name_used _ _ _ _ hs]
 refine Hh (wpAny_standAt (Hh (thn (h pins s σ H _ I q) fun _ s1 ⟨v,H1,I1,q1⟩=>Hn ?_)))
 exact⟨_,H1,I1,q1⟩
theorem rG(hc:X.calm=true)(hcell:∀ x∈scope.names,x.2 ≠ .cell)(hkind:scope.kind = .function)(hnames:∀ x∈scope.names,x.2 = .local→scope.names.lookup x.1=some .local)
  (hfr:∀ x∈scope.names,x.2 = .free→x.1∈cps) (hN:caps.map (fun i=>X.N[i]?)=cps.map some) (hX:∀ x∈cps,X.env.scope.names.lookup x=some .cell∧scope.names.lookup x=some .free)
  (hsc:∀ x∈cps,(relabel scope X.env).names.lookup x=some .cell∨(relabel scope X.env).names.lookup x=some .free)
  (hi:PI X tg iter wi) (hg:∀ cl s3 H3 C fp pins,PG (cxF X scope cl (tgs++cps) s3 H3 C fp pins) tg g) (hq:∀ cl s3 H3 C fp pins,aD (cxF X scope cl (tgs++cps) s3 H3 C fp pins) ifs tc) (he:∀ cl s3 H3 C fp pins,PE (cxF X scope cl (tgs++cps) s3 H3 C fp pins) elt te)
  {i:Nat} {x:Str} {pos':Pos} (hNd:X.N.Nodup) (hxi:X.N[i]? = some x) (hx:Loc X.env.scope x) (hf:X.fn x=true∨X.env.scope.names.lookup x=some .local)
  (hs:∀ x,foldedSetIterable iter X.env x=pure x:=by intro _;rfl):PU X i x pos' (.ListComp elt [⟨tg,iter,ifs,0⟩] scope pos) (kj tgs.length caps wi g tc te):=by
 intro pins s σ H Q I h
 refine Hh (thn (eI (use:=some (assign (.Name x pos') X.env)) (Qf:=fun _ s'=>∃ v H',Inv X pins (σ.set i (some v)) H' s'∧Q v H') hc hcell hkind hnames hfr hN hX hsc hi hg hq he hs I h fun D C s' H4 m4 hn4 fC hI q4=>?_) fun _ s1 z=>Hn z)
 have I4:Inv X pins σ H4 s':=hI s'.heap (Heap.SameBut.refl _ _)
 show wpAny _ _ (assign (.Name x pos') X.env (.ref D)) _ _ s'
 refine wpAny_assign_Name (dU (v:=.ref D) I4 hNd hxi hx rfl (fun s2 I2 ⟨a,hsb,ha⟩=>?_) hf)
 have hac:C≠a:=by
  rcases ha with ha|ha
  ·rw[ha];exact fC.2.1
  ·exact Ne.symm (fC.2.2.2.2.1 x a ha)
 refine⟨m4,hn4.sameBut hsb hac,fun h' hs'=>⟨.ref D,H4,?_,q4⟩⟩
 exact I2.turned (t':=s2.toks) (fun b o hb e=>hs'.extBut b o hb e) fC.1 fC.2.1 fC.2.2.2.1 fC.2.2.2.2.1 fC.2.2.2.2.2
end
end L2
namespace L2
open PySem
noncomputable def SI:Bool→Heap→Addr→Addr→Nat→Prop
 | true,h,it,a,i=>h.IsListIter it a i
 | false,h,it,a,i=>h.IsTupleIter it a i
noncomputable def SS:Bool→Heap→Addr→Array Value→Prop
 | true,h,a,xs=>h.IsList a xs
 | false,h,a,xs=>h.IsTuple a xs
theorem SI.at{k:Bool}{h h':Heap}{it a:Addr}{i:Nat}(x:SI k h it a i)(f:∀ o,h.get? it=some o→h'.get? it=some o):SI k h' it a i:=by
 cases k<;>(obtain⟨o,e,r⟩:=x;exact⟨o,f o e,r⟩)
theorem SS.at{k:Bool}{h h':Heap}{a:Addr}{xs:Array Value}(x:SS k h a xs)(f:∀ o,h.get? a=some o→h'.get? a=some o):SS k h' a xs:=by
 cases k<;>(obtain⟨o,e,r⟩:=x;exact⟨o,f o e,r⟩)
theorem SI.obj{k:Bool}{h:Heap}{it a:Addr}{i:Nat}(x:SI k h it a i):∃ o,h.get? it=some o∧∀ v,o.data ≠ .cell v:=by
 cases k<;>(obtain⟨o,e,c,d⟩:=x;exact⟨o,e,fun v z=>by rw[d]at z;cases z⟩)
theorem SS.obj{k:Bool}{h:Heap}{a:Addr}{xs:Array Value}(x:SS k h a xs):∃ o,h.get? a=some o:=by
 cases k<;>(obtain⟨o,e,_⟩:=x;exact⟨o,e⟩)
section
variable {prog:Program} {w:World} {A:Around} {E:Value→Shared→Prop} {s:Shared}
theorem og{p t:Addr}{n:Nat}{xs:Array Value}{v:Value}{Q:Value→Shared→Prop}(hp:s.heap.IsTupleIter p t n)(ht:s.heap.IsTuple t xs)(hv:xs[n]? = some v)
  (q:∀ h',h'.IsTupleIter p t (n+1)→Heap.SameBut p s.heap h'→Q v { s with heap:=h' }):wpAny (model prog w) A (Builtin.SmallTypes.nextOf (.ref p)) Q E s:=by
 obtain⟨ob,e1,e2,e3⟩:=id hp
 obtain⟨ot,f1,_,cap,f2⟩:=ht
 unfold Builtin.SmallTypes.nextOf
 refine Hh (wpAny_callSpecial?_slot (name:=Str.ofString "__next__") hp.typeIs F.slot_tuple_iterator_next (wpAny_call_entry F.slot_tuple_iterator_next hp.typeIs F.entry_tuple_iterator_next ?_ (F.args_tuple_iterator_next_1 _)))
 show wpAny _ _ (field (.ref p) 0 >>= _) _ _ s
 refine Hh (wpAny_field e1 e3 (x:=.ref t) rfl ?_)
 show wpAny _ _ (if (Value.ref t == Value.none)=true then _ else _) _ _ s
 rw[if_neg (fun z:(Value.ref t == Value.none)=true=>nomatch z)]
 show wpAny _ _ (field (.ref p) 1 >>= _) _ _ s
 refine Hh (wpAny_field e1 e3 (x:=.int n 0) rfl ?_)
 show wpAny _ _ (seqItems? (.ref t) >>= _) _ _ s
 refine Hh (wpAny_seqItems f1 f2 ?_)
 simp only[IE,hv]
 refine Hh (wpAny_setField e1 e3 (by simp) (Hn ⟨v,rfl,Hn (q _ ⟨_,Kr _ e1 (Obj.isFreed_of_fields (Obj.data_mapFields e3 _)),(Obj.cls_mapFields ..).trans e2,?_⟩ (Heap.SameBut.update ..))⟩))
 rw[Obj.data_mapFields e3];simp[rawInt]
theorem qL{p t:Addr}{n:Nat}{xs:Array Value}{Q:Value→Shared→Prop}(hA:A.handled=none)(hp:s.heap.IsTupleIter p t n)(ht:s.heap.IsTuple t xs)(hv:xs[n]? = none)
  (q:∀ h' e,Heap.ExtBut p s.heap h'→(∃ o,h'.get? e=some o∧o.cls = .type "StopIteration")→E (.ref e) { s with heap:=h' }):wpAny (model prog w) A (Builtin.SmallTypes.nextOf (.ref p)) Q E s:=by
 obtain⟨ob,e1,e2,e3⟩:=id hp
 obtain⟨ot,f1,_,cap,f2⟩:=ht
 unfold Builtin.SmallTypes.nextOf
 refine Hh (wpAny_callSpecial?_slot (name:=Str.ofString "__next__") hp.typeIs F.slot_tuple_iterator_next (wpAny_call_entry F.slot_tuple_iterator_next hp.typeIs F.entry_tuple_iterator_next ?_ (F.args_tuple_iterator_next_1 _)))
 show wpAny _ _ (field (.ref p) 0 >>= _) _ _ s
 refine Hh (wpAny_field e1 e3 (x:=.ref t) rfl ?_)
 show wpAny _ _ (if (Value.ref t == Value.none)=true then _ else _) _ _ s
 rw[if_neg (fun z:(Value.ref t == Value.none)=true=>nomatch z)]
 show wpAny _ _ (field (.ref p) 1 >>= _) _ _ s
 refine Hh (wpAny_field e1 e3 (x:=.int n 0) rfl ?_)
 show wpAny _ _ (seqItems? (.ref t) >>= _) _ _ s
 refine Hh (wpAny_seqItems f1 f2 ?_)
 simp only[IE,hv]
 refine Hh (wpAny_rule (Hh (wpAny_setField e1 e3 (by simp) ?_)))
 show wpAny _ _ (newExc (.type "StopIteration") [] >>= _) _ _ _
 refine Hh ?_;simp only[newExc,newTuple]
 refine Hh (wpAny_newObj_type ?_ (by size_fits));refine Hh (m:=firstArgMember _ _) (wpAny_of_eq (a:=Value.none) (by first|rfl|(simp only[firstArgMember];rfl)) ?_)
 refine wpAny_newObj_type ?_ (by size_fits);simp only[raiseNew];refine Hh (wpAny_handled ?_)
 first|rw[show A.in1.handled=none from hA]|rw[hA]
 refine Hh (Hn (wpAny_throw (q _ _ (((Heap.SameBut.update ..).extBut.push _).push _) ⟨_,HA _ rfl,rfl⟩)))
theorem aG{k:Bool}{p a:Addr}{n:Nat}{xs:Array Value}{v:Value}{Q:Value→Shared→Prop}(hp:SI k s.heap p a n)(ha:SS k s.heap a xs)(hv:xs[n]? = some v)
  (q:∀ h',SI k h' p a (n+1)→Heap.SameBut p s.heap h'→Q v { s with heap:=h' }):wpAny (model prog w) A (Builtin.SmallTypes.nextOf (.ref p)) Q E s:=by
 cases k with
 | true=>exact wpAny_nextOf_list_item hp ha hv q
 | false=>exact og hp ha hv q
theorem ku{k:Bool}{p a:Addr}{n:Nat}{xs:Array Value}{Q:Value→Shared→Prop}(hA:A.handled=none)(hp:SI k s.heap p a n)(ha:SS k s.heap a xs)(hv:xs[n]? = none)
  (q:∀ h' e,Heap.ExtBut p s.heap h'→(∃ o,h'.get? e=some o∧o.cls = .type "StopIteration")→E (.ref e) { s with heap:=h' }):wpAny (model prog w) A (Builtin.SmallTypes.nextOf (.ref p)) Q E s:=by
 cases k with
 | true=>exact wpAny_nextOf_list_end hA hp ha hv q
 | false=>exact qL hA hp ha hv q
theorem SI.but{k:Bool}{h h':Heap}{it a b:Addr}{i:Nat}(x:SI k h it a i)(e:Heap.ExtBut b h h')(n:it≠b):SI k h' it a i:=x.at fun o z=>e it o n z
theorem SS.but{k:Bool}{h h':Heap}{a b:Addr}{xs:Array Value}(x:SS k h a xs)(e:Heap.ExtBut b h h')(n:a≠b):SS k h' a xs:=x.at fun o z=>e a o n z
theorem um{z TI TO p1 p2 l1 l2:Addr}{c1 c2:Bool}{n1 n2:Nat}{xs ys:Array Value}{v1 v2 u1 u2:Value}{Q:Option Value→Shared→Prop}(D:ZipApart z TI TO p1 p2 l1 l2)
  (iz:IsZip s.heap z TI TO .none) (iI:IsPair s.heap TI (.ref p1) (.ref p2)) (iO:IsPair s.heap TO u1 u2) (g1:SI c1 s.heap p1 l1 n1) (g2:SI c2 s.heap p2 l2 n2) (m1:SS c1 s.heap l1 xs) (m2:SS c2 s.heap l2 ys) (w1:xs[n1]? = some v1) (w2:ys[n2]? = some v2)
  (q:∀ h',IsZip h' z TI TO (rawInt s.heap.objs.size)→IsPair h' TO v1 v2→SI c1 h' p1 l1 (n1+1)→SI c2 h' p2 l2 (n2+1)→IsPair h' s.heap.objs.size v1 v2→h'.objs.size=s.heap.objs.size+1 →
   (∀ b o,b≠z→b≠TO→b≠p1→b≠p2→s.heap.get? b=some o→h'.get? b=some o)→Q (some (.ref s.heap.objs.size)) { s with heap:=h' }):wpAny (model prog w) A (pyNext (.ref z)) Q E s:=by
 have ty:s.TypeIs (.ref z) "zip" := ⟨_,iz,rfl⟩
 unfold pyNext
 refine Hh (wpAny_attempt (wpAny_callSpecial?_slot (name:=Str.ofString "__next__") ty F.slot_zip_next (wpAny_call_entry F.slot_zip_next ty F.entry_zip_next ?_ (F.args_zip_next_1 _))))
 show wpAny _ _ (field (.ref z) 2 >>= _) _ _ _
 refine Hh (wpAny_field iz rfl (x:=.bool false) rfl ?_)
 show wpAny _ _ (field (.ref z) 3 >>= _) _ _ _
 refine Hh (wpAny_field iz rfl (x:=.ref TI) rfl (Hh (wpAny_seqItems iI rfl ?_)))
 show wpAny _ _ (Builtin.SmallTypes.ownedTupleIsFree (.ref z) >>= _) _ _ _
 refine Hh ?_;unfold Builtin.SmallTypes.ownedTupleIsFree
 refine Hh (wpAny_field iz rfl (x:=.none) rfl (Hn ?_));simp only[if_true]
 refine Hh (wpAny_rule (Hh (wpAny_field iz rfl (x:=.ref TO) rfl (Hh (wpAny_setField_rec iz (by simp) fun ha za sa=>?_)))))
 replace za:IsZip ha z TI TO .ellipsis:=za
 refine Hh ?_;simp only[Lr,Lw,ID,Jm]
 refine Hh (Hh (wpAny_onRaise ?_))
 show wpAny _ _ (Builtin.SmallTypes.nextOf (.ref p1) >>= _) _ _ _
 refine Hh (aG (g1.but sa.extBut D.i1z) (m1.but sa.extBut D.l1z) w1 fun hb gb sb=>Hn ?_)
 have oB:IsPair hb TO u1 u2:=sb.extBut _ _ D.TOi1 (sa.extBut _ _ D.TOz iO)
 refine Hh (wpAny_seqItems oB rfl (Hh (wpAny_updateSeq_pair oB fun hc oC sc=>?_)))
 replace oC:IsPair hc TO v1 u2:=oC
 refine Hh (wpAny_letGo (Hn (Hh (Hh (wpAny_onRaise ?_)))))
 show wpAny _ _ (Builtin.SmallTypes.nextOf (.ref p2) >>= _) _ _ _
 refine Hh (aG (((g2.but sa.extBut D.i2z).but sb.extBut D.i12.symm).but sc.extBut D.TOi2.symm) (((m2.but sa.extBut D.l2z).but sb.extBut D.l2i1).but sc.extBut D.l2TO) w2 fun hd gd sd=>Hn ?_)
 have oD:IsPair hd TO v1 u2:=sd.extBut _ _ D.TOi2 oC
 refine Hh (wpAny_seqItems oD rfl (Hh (wpAny_updateSeq_pair oD fun he oE se=>?_)))
 replace oE:IsPair he TO v1 v2:=oE
 refine Hh (wpAny_letGo (Hn (Hn (Hh (wpAny_seqItems oE rfl (Hh (wpAny_newTuple ?_)))))))
 have zs:he.objs.size=s.heap.objs.size:=by rw[se.1,sd.1,sc.1,sb.1,sa.1]
 have zE:IsZip he z TI TO .ellipsis:=se.extBut _ _ D.TOz.symm (sd.extBut _ _ D.i2z.symm (sc.extBut _ _ D.TOz.symm (sb.extBut _ _ D.i1z.symm za)))
 have kE:∀ b o,b≠z→b≠TO→b≠p1→b≠p2→s.heap.get? b=some o→he.get? b=some o:=fun b o b1 b2 b3 b4 e=>se.extBut _ _ b2 (sd.extBut _ _ b4 (sc.extBut _ _ b2 (sb.extBut _ _ b3 (sa.extBut _ _ b1 e))))
 have gE1:SI c1 he p1 l1 (n1+1):=((gb.but sc.extBut D.TOi1.symm).but sd.extBut D.i12).but se.extBut D.TOi1.symm
 have gE2:SI c2 he p2 l2 (n2+1):=gd.but se.extBut D.TOi2.symm
 have ltz:z<he.objs.size:=Hv zE
 show wpAny _ _ (Builtin.SmallTypes.ownedTupleHandOut (.ref z) (.ref he.objs.size) >>= _) _ _ _
 refine Hh ?_;unfold Builtin.SmallTypes.ownedTupleHandOut
 refine Hh (wpAny_setField_rec (Hj _ zE) (by simp) fun hf zf sf=>?_)
 replace zf:IsZip hf z TI TO (rawInt he.objs.size):=zf
 refine wpAny_setField_rec zf (by simp) fun hg zg sg=>?_
 replace zg:IsZip hg z TI TO (rawInt he.objs.size):=zg
 have lift:∀ b o,b≠z→he.get? b=some o→hg.get? b=some o:=fun b o b1 e=>sg.extBut _ _ b1 (sf.extBut _ _ b1 (Hj _ e))
 have tG:IsPair hg he.objs.size v1 v2:=sg.extBut _ _ (Jo ltz) (sf.extBut _ _ (Jo ltz) (HA _ rfl))
 have zz:hg.objs.size=he.objs.size+1:=by rw[sg.1,sf.1,Il]
 rw[zs]at zg tG zz
 refine Hn ⟨_,rfl,Hn ?_⟩
 show Q (some (.ref he.objs.size)) _
 rw[zs]
 exact q hg zg (lift _ _ D.TOz oE) (gE1.at fun o e=>lift _ o D.i1z e) (gE2.at fun o e=>lift _ o D.i2z e) tG zz fun b o b1 b2 b3 b4 e=>lift b o b1 (kE b o b1 b2 b3 b4 e)
theorem yX{z TI TO p1 p2 l1 l2:Addr}{c1 c2:Bool}{n1 n2:Nat}{xs ys:Array Value}{u1 u2:Value}{Q:Option Value→Shared→Prop}(hA:A.handled=none)(D:ZipApart z TI TO p1 p2 l1 l2)
  (iz:IsZip s.heap z TI TO .none) (iI:IsPair s.heap TI (.ref p1) (.ref p2)) (iO:IsPair s.heap TO u1 u2) (g1:SI c1 s.heap p1 l1 n1) (g2:SI c2 s.heap p2 l2 n2) (m1:SS c1 s.heap l1 xs) (m2:SS c2 s.heap l2 ys) (fin:xs[n1]? = none∨ys[n2]? = none)
  (q:∀ h',(∀ b o,b≠z→b≠TO→b≠p1→b≠p2→s.heap.get? b=some o→h'.get? b=some o)→Q none { s with heap:=h' }):wpAny (model prog w) A (pyNext (.ref z)) Q E s:=by
 have ty:s.TypeIs (.ref z) "zip" := ⟨_,iz,rfl⟩
 unfold pyNext
 have out:∀(h':Heap) (e:Addr),(∀ b o,b≠z→b≠TO→b≠p1→b≠p2→s.heap.get? b=some o→h'.get? b=some o)→(∃ o,h'.get? e=some o∧o.cls = .type "StopIteration") →
   wpAny (model prog w) A (do if ← isInstance (.ref e) (.type "StopIteration")then pure none else throw (.ref e):Sem (Option Value)) Q E { s with heap:=h' }:=fun h' e k ⟨o,e1,e2⟩ =>
  Hh (wpAny_isInstance (T := "StopIteration") (b:=true) ⟨o,e1,e2⟩ isSubtype_stop (Hn (q h' k)))
 refine Hh (wpAny_attempt (wpAny_callSpecial?_slot (name:=Str.ofString "__next__") ty F.slot_zip_next (wpAny_call_entry F.slot_zip_next ty F.entry_zip_next ?_ (F.args_zip_next_1 _))))
 show wpAny _ _ (field (.ref z) 2 >>= _) _ _ _
 refine Hh (wpAny_field iz rfl (x:=.bool false) rfl ?_)
 show wpAny _ _ (field (.ref z) 3 >>= _) _ _ _
 refine Hh (wpAny_field iz rfl (x:=.ref TI) rfl (Hh (wpAny_seqItems iI rfl ?_)))
 show wpAny _ _ (Builtin.SmallTypes.ownedTupleIsFree (.ref z) >>= _) _ _ _
 refine Hh ?_;unfold Builtin.SmallTypes.ownedTupleIsFree
 refine Hh (wpAny_field iz rfl (x:=.none) rfl (Hn ?_));simp only[if_true]
 refine Hh (wpAny_rule (Hh (wpAny_field iz rfl (x:=.ref TO) rfl (Hh (wpAny_setField_rec iz (by simp) fun ha za sa=>?_)))))
 replace za:IsZip ha z TI TO .ellipsis:=za
 refine Hh ?_;simp only[Lr,Lw,ID,Jm]
 refine Hh (Hh (wpAny_onRaise ?_))
 show wpAny _ _ (Builtin.SmallTypes.nextOf (.ref p1) >>= _) _ _ _
 cases w1:xs[n1]? with
 | none =>
  refine Hh (ku hA (g1.but sa.extBut D.i1z) (m1.but sa.extBut D.l1z) w1 fun hb e sb zz=>?_)
  obtain⟨oe,oe1,oe2⟩:=zz
  have zb:IsZip hb z TI TO .ellipsis:=sb _ _ D.i1z.symm za
  have nz:e≠z:=fun y=>by subst y;rw[zb]at oe1;cases oe1;simp at oe2
  refine wpAny_setField_rec zb (by simp) fun hc _ sc=>out hc e (fun b o b1 _ b3 _ y=>sc.extBut _ _ b1 (sb _ _ b3 (sa.extBut _ _ b1 y))) ⟨oe,sc.extBut _ _ nz oe1,oe2⟩
 | some v1 =>
  have w2:ys[n2]? = none:=fin.resolve_left (by rw[w1];exact fun y=>nomatch y)
  refine Hh (aG (g1.but sa.extBut D.i1z) (m1.but sa.extBut D.l1z) w1 fun hb gb sb=>Hn ?_)
  have oB:IsPair hb TO u1 u2:=sb.extBut _ _ D.TOi1 (sa.extBut _ _ D.TOz iO)
  refine Hh (wpAny_seqItems oB rfl (Hh (wpAny_updateSeq_pair oB fun hc oC sc=>?_)))
  refine Hh (wpAny_letGo (Hn (Hh (Hh (wpAny_onRaise ?_)))))
  show wpAny _ _ (Builtin.SmallTypes.nextOf (.ref p2) >>= _) _ _ _
  refine Hh (ku hA (((g2.but sa.extBut D.i2z).but sb.extBut D.i12.symm).but sc.extBut D.TOi2.symm) (((m2.but sa.extBut D.l2z).but sb.extBut D.l2i1).but sc.extBut D.l2TO) w2 fun hd e sd zz=>?_)
  obtain⟨oe,oe1,oe2⟩:=zz
  have zd:IsZip hd z TI TO .ellipsis:=sd _ _ D.i2z.symm (sc.extBut _ _ D.TOz.symm (sb.extBut _ _ D.i1z.symm za))
  have nz:e≠z:=fun y=>by subst y;rw[zd]at oe1;cases oe1;simp at oe2
  refine wpAny_setField_rec zd (by simp) fun he _ se=>out he e (fun b o b1 b2 b3 b4 y=>se.extBut _ _ b1 (sd _ _ b4 (sc.extBut _ _ b2 (sb.extBut _ _ b3 (sa.extBut _ _ b1 y))))) ⟨oe,se.extBut _ _ nz oe1,oe2⟩
end
noncomputable abbrev itO(k:Bool)(a:Addr):Obj:={ cls:=.type (if k then "list_iterator" else "tuple_iterator"),data:=.fields #[.ref a,.int 0 0] }
noncomputable abbrev zA(k1:Bool)(h:Heap)(l1:Addr):Heap:=h.push (itO k1 l1)
noncomputable abbrev zB(k1 k2:Bool)(h:Heap)(l1 l2:Addr):Heap:=(zA k1 h l1).push (itO k2 l2)
noncomputable abbrev zC(k1 k2:Bool)(h:Heap)(l1 l2:Addr):Heap:=(zB k1 k2 h l1 l2).push { cls:=.type "tuple",data:=.seq #[.ref h.objs.size,.ref (zA k1 h l1).objs.size] }
noncomputable abbrev zD(k1 k2:Bool)(h:Heap)(l1 l2:Addr):Heap:=(zC k1 k2 h l1 l2).push { cls:=.type "tuple",data:=.seq #[.none,.none] }
noncomputable abbrev zE(k1 k2:Bool)(h:Heap)(l1 l2:Addr):Heap:=(zD k1 k2 h l1 l2).push { cls:=.type "zip",data:=.fields #[.none,.bool false,.bool false,.ref (zB k1 k2 h l1 l2).objs.size,.ref (zC k1 k2 h l1 l2).objs.size] }
set_option maxHeartbeats 2000000 in
theorem yW(k1 k2:Bool)(l1 l2:Addr)(xs ys:Array Value) :
  Meets (Builtin.«zip.__new__» ⟨[.type "zip",.ref l1,.ref l2],[]⟩) (fun _ R s=>SS k1 s.heap l1 xs∧SS k2 s.heap l2 ys∧R (.ok (.ret (.ref (zD k1 k2 s.heap l1 l2).objs.size))) { s with heap:=zE k1 k2 s.heap l1 l2 }) :=
 .of_wp fun prog w A R s h=>by
  obtain⟨hp,g,d,tk,os⟩:=s
  obtain⟨ha,hb,h⟩:=h
  have hsub:=sub_zip
  cases k1 with
  | true =>
   have a1:Heap.IsList (Shared.heap ⟨hp,g,d,tk,os⟩) l1 xs:=ha
   cases k2 with
   | true =>
    have a2:Heap.IsList (Shared.heap ⟨hp.push { cls:=.type "list_iterator",data:=.fields #[.ref l1,.int 0 0] },g,d,tk,os⟩) l2 ys:=Heap.IsList.push hb _
    wp_walk using wpAny_pyIter_list a1,wpAny_pyIter_list a2
    exact⟨_,rfl,h⟩
   | false =>
    have a2:Heap.IsTuple (Shared.heap ⟨hp.push { cls:=.type "list_iterator",data:=.fields #[.ref l1,.int 0 0] },g,d,tk,os⟩) l2 ys:=Heap.IsTuple.push hb _
    wp_walk using wpAny_pyIter_list a1,wpAny_pyIter_tuple a2
    exact⟨_,rfl,h⟩
  | false =>
   have a1:Heap.IsTuple (Shared.heap ⟨hp,g,d,tk,os⟩) l1 xs:=ha
   cases k2 with
   | true =>
    have a2:Heap.IsList (Shared.heap ⟨hp.push { cls:=.type "tuple_iterator",data:=.fields #[.ref l1,.int 0 0] },g,d,tk,os⟩) l2 ys:=Heap.IsList.push hb _
    wp_walk using wpAny_pyIter_tuple a1,wpAny_pyIter_list a2
    exact⟨_,rfl,h⟩
   | false =>
    have a2:Heap.IsTuple (Shared.heap ⟨hp.push { cls:=.type "tuple_iterator",data:=.fields #[.ref l1,.int 0 0] },g,d,tk,os⟩) l2 ys:=Heap.IsTuple.push hb _
    wp_walk using wpAny_pyIter_tuple a1,wpAny_pyIter_tuple a2
    exact⟨_,rfl,h⟩
section
variable {prog:Program} {w:World} {A:Around} {E:Value→Shared→Prop} {s:Shared}
theorem xh{k1 k2:Bool}{l1 l2:Addr}{xs ys:Array Value}{Q:Value→Shared→Prop}(ha:SS k1 s.heap l1 xs)(hb:SS k2 s.heap l2 ys)
  (q:∀ h',IsZip h' (s.heap.objs.size+4) (s.heap.objs.size+2) (s.heap.objs.size+3) .none→IsPair h' (s.heap.objs.size+2) (.ref s.heap.objs.size) (.ref (s.heap.objs.size+1))→IsPair h' (s.heap.objs.size+3) .none .none →
   SI k1 h' s.heap.objs.size l1 0→SI k2 h' (s.heap.objs.size+1) l2 0→h'.objs.size=s.heap.objs.size+5→(∀ b o,s.heap.get? b=some o→h'.get? b=some o)→Q (.ref (s.heap.objs.size+4)) { s with heap:=h' }) :
  wpAny (model prog w) A (call (.type "zip") [.ref l1,.ref l2]) Q E s:=by
 refine callType_new F.called_zip (by decide) (F.typeCall_zip_2 _ _) (F.newCall_zip_2 _ _) (fun obj=>F.args_object_init_3 obj _ _) F.entry_zip_new (yW k1 k2 l1 l2 xs ys) ⟨ha,hb,?_⟩
 have s1:(zA k1 s.heap l1).objs.size=s.heap.objs.size+1:=Il ..
 have s2:(zB k1 k2 s.heap l1 l2).objs.size=s.heap.objs.size+2:=(Il ..).trans (by rw[s1])
 have s3:(zC k1 k2 s.heap l1 l2).objs.size=s.heap.objs.size+3:=(Il ..).trans (by rw[s2])
 have s4:(zD k1 k2 s.heap l1 l2).objs.size=s.heap.objs.size+4:=(Il ..).trans (by rw[s3])
 have s5:(zE k1 k2 s.heap l1 l2).objs.size=s.heap.objs.size+5:=(Il ..).trans (by rw[s4])
 have o5:(zE k1 k2 s.heap l1 l2).get? (zD k1 k2 s.heap l1 l2).objs.size=some _:=HA _ rfl
 have up1:∀ b o,(zD k1 k2 s.heap l1 l2).get? b=some o→(zE k1 k2 s.heap l1 l2).get? b=some o:=fun b o e=>Hj _ e
 have o4:(zE k1 k2 s.heap l1 l2).get? (zC k1 k2 s.heap l1 l2).objs.size=some _:=up1 _ _ (HA _ rfl)
 have up2:∀ b o,(zC k1 k2 s.heap l1 l2).get? b=some o→(zE k1 k2 s.heap l1 l2).get? b=some o:=fun b o e=>up1 b o (Hj _ e)
 have o3:(zE k1 k2 s.heap l1 l2).get? (zB k1 k2 s.heap l1 l2).objs.size=some _:=up2 _ _ (HA _ rfl)
 have up3:∀ b o,(zB k1 k2 s.heap l1 l2).get? b=some o→(zE k1 k2 s.heap l1 l2).get? b=some o:=fun b o e=>up2 b o (Hj _ e)
 have o2:(zE k1 k2 s.heap l1 l2).get? (zA k1 s.heap l1).objs.size=some (itO k2 l2):=up3 _ _ (HA _ rfl)
 have up4:∀ b o,(zA k1 s.heap l1).get? b=some o→(zE k1 k2 s.heap l1 l2).get? b=some o:=fun b o e=>up3 b o (Hj _ e)
 have o1:(zE k1 k2 s.heap l1 l2).get? s.heap.objs.size=some (itO k1 l1):=up4 _ _ (HA _ rfl)
 have mk:∀(k:Bool) (b a:Addr),(zE k1 k2 s.heap l1 l2).get? b=some (itO k a)→SI k (zE k1 k2 s.heap l1 l2) b a 0:=fun k b a e=>by cases k<;>exact⟨_,e,rfl,rfl⟩
 show _∧_
 rw[s2,s3,s4]at o5
 rw[s1,s2]at o3
 rw[s3]at o4
 rw[s1]at o2
 rw[s4]
 exact⟨⟨_,o5,rfl⟩,q _ o5 o3 o4 (mk _ _ _ o1) (mk _ _ _ o2) s5 fun b o e=>up4 b o (Hj _ e)⟩
end
end L2
namespace L2
open PySem PySem.Spec PyProof.Rows
section
variable {X:Cx} {pins:List (Addr × Obj)} {σ:St} {H:Hp} {s:Shared} {h':Heap}
theorem Inv.turnedN{t':Nat}{ch:List Addr}(I:Inv X pins σ H s)(k:∀ b o,b∉ch→s.heap.get? b=some o→h'.get? b=some o)(hf:∀ b∈ch,V0 X pins H b):Inv X pins σ H { s with heap:=h',toks:=t' }:=by
 have nit:∀ b u,H b=some u→b∉ch:=fun b u e z=>by rw[(hf b z).1]at e;cases e
 refine I.step (g':=s.gens) (d':=s.drawn) (ch:=ch) (fun b hb=>?_) (fun b o _ _ hc e _=>k b o hc e) (fun b o _ _ hc e _=>⟨o.slots,k b o hc e⟩) (fun _ _ _ _ n=>n)
  (fun b o hc e=>⟨o,k b o hc e⟩) (fun _ _ e=>e) (fun _ _ _ e=>e) (fun b ps e=>⟨#[],by rw[e];simp⟩) (fun m hm=>?_) (fun b u e=>?_) I.bare
 ·obtain⟨_,q1,_,q3,q4,q5⟩:=hf b hb
  exact⟨q3,q1,q4,q5⟩
 ·obtain⟨o,es,ep,ho,r⟩:=hm
  exact⟨o,es,ep,k _ o (fun z=>(hf _ z).2.1 rfl) ho,r⟩
 ·refine(I.hok b u e).stay (fun c v hc q=>k c v ?_ q) (fun _ q=>q) fun _ _ q=>q
  rcases hc with z|z
  ·rw[z];exact nit b u e
  ·exact nit c _ z
end
def SqK(K:Hi)(k:Bool)(H:Hp)(a:Addr)(xs:List V):Prop:=if k=true then SqL K H a xs else SqT K H a xs
theorem Inv.sqk{X:Cx}{pins:List (Addr × Obj)}{σ:St}{H:Hp}{s:Shared}(I:Inv X pins σ H s){k:Bool}{a:Addr}{xs:List V}(h:SqK X.K k H a xs):∃ its:List Value,i6 xs its∧SS k s.heap a its.toArray:=by
 cases k with
 | true =>
  obtain⟨its,r,p,_⟩:=I.list (show SqL X.K H a xs from h)
  exact⟨its,r,p.isList⟩
 | false =>
  obtain⟨its,r,p,_⟩:=I.tuple (show SqT X.K H a xs from h)
  exact⟨its,r,p⟩
theorem Inv.sqk_inj{X:Cx}{pins:List (Addr × Obj)}{σ:St}{H:Hp}{s:Shared}(I:Inv X pins σ H s){k:Bool}{a:Addr}{xs ys:List V}(h:SqK X.K k H a xs)(h2:SqK X.K k H a ys):xs=ys:=by
 cases k with
 | true=>exact I.list_inj (show SqL X.K H a xs from h) (show SqL X.K H a ys from h2)
 | false=>exact I.tuple_inj (show SqT X.K H a xs from h) (show SqT X.K H a ys from h2)
noncomputable def Itz(K:Hi)(k1 k2:Bool)(l1 l2:Addr):It :=
 ⟨fun i H=>∃ xs ys x y,SqK K k1 H l1 xs∧SqK K k2 H l2 ys∧xs[i]? = some x∧ys[i]? = some y,
  fun i H v H'=>∃ T x y,H T=none∧v = .ref T∧H'=upd H T (.tup [x,y])∧(∀ xs,SqK K k1 H l1 xs→xs[i]? = some x)∧∀ ys,SqK K k2 H l2 ys→ys[i]? = some y,
  fun i H=>∃ xs ys,SqK K k1 H l1 xs∧SqK K k2 H l2 ys∧(xs.length≤i∨ys.length≤i)⟩
def El(k1 k2:Bool)(z TI TO p1 p2 l1 l2:Addr)(i:Nat)(h:Heap):Prop:=IsZip h z TI TO .none∧IsPair h TI (.ref p1) (.ref p2)∧(∃ a b,IsPair h TO a b)∧SI k1 h p1 l1 i∧SI k2 h p2 l2 i
theorem qK{P:Program}{w:World}{K:Hi}{elts:List Expr}{kx:Nat}{tp:Pos}{k1 k2:Bool}{z TI TO p1 p2 l1 l2:Addr}(D:ZipApart z TI TO p1 p2 l1 l2) :
  lE P w K (.Tuple elts kx tp) (Itz K k1 k2 l1 l2) [z,TI,TO,p1,p2] z (El k1 k2 z TI TO p1 p2 l1 l2) where
 mem:=by simp
 obj:=fun i h ⟨iz,iI,⟨a,b,iO⟩,g1,g2⟩ c hc=>by
  simp only[Hr,HM,or_false]at hc
  rcases hc with rfl|rfl|rfl|rfl|rfl
  ·exact⟨_,iz,fun v e=>by cases e⟩
  ·exact⟨_,iI,fun v e=>by cases e⟩
  ·exact⟨_,iO,fun v e=>by cases e⟩
  ·exact g1.obj
  ·exact g2.obj
 keep:=fun i h h' ⟨iz,iI,⟨a,b,iO⟩,g1,g2⟩ k=>⟨k z (by simp) _ iz,k TI (by simp) _ iI,⟨a,b,k TO (by simp) _ iO⟩,g1.at fun o e=>k p1 (by simp) o e,g2.at fun o e=>k p2 (by simp) o e⟩
 item:=by
  intro X hP hw hK hc i pins s σ H E I hf st hg
  subst hP hw hK
  obtain⟨iz,iI,⟨a,b,iO⟩,g1,g2⟩:=st
  obtain⟨xs,ys,x,y,q1,q2,hx,hy⟩:=hg
  obtain⟨is1,r1,m1⟩:=I.sqk q1
  obtain⟨is2,r2,m2⟩:=I.sqk q2
  obtain⟨u1,hu1,ru1⟩:=r1.get hx
  obtain⟨u2,hu2,ru2⟩:=r2.get hy
  refine um D iz iI iO g1 g2 m1 m2 (v1:=u1) (v2:=u2) (by simpa using hu1) (by simpa using hu2) fun h' a1 a2 a3 a4 a5 a6 kk=>?_
  refine⟨_,rfl,?_⟩
  refine wpAny_letOwnedTupleGo_zip (s:={ s with heap:=h' }) a1 fun h2 b1 b2=>?_
  have lt:∀{c o},s.heap.get? c=some o→c≠s.heap.objs.size:=fun e=>HQ (Hv e)
  have nz:s.heap.objs.size≠z:=Ne.symm (lt iz)
  have I1:Inv X pins σ (upd H s.heap.objs.size (.tup [x,y])) { s with heap:=s.heap.push { cls:=.type "tuple",data:=.seq #[u1,u2] },toks:=s.toks } :=
   I.laid (o:=.tup [x,y]) (fun b ob q=>Hj _ q) (Hy _) ⟨(show 2≤sizeLine by decide),[u1,u2],.cons ru1 (.cons ru2 .nil),IsTup.new _ _⟩
  have nfp:∀ c∈[z,TI,TO,p1,p2],c≠s.heap.objs.size:=fun c hc=>by
   simp only[Hr,HM,or_false]at hc
   rcases hc with rfl|rfl|rfl|rfl|rfl
   ·exact lt iz
   ·exact lt iI
   ·exact lt iO
   ·obtain⟨o,e,_⟩:=g1.obj;exact lt e
   ·obtain⟨o,e,_⟩:=g2.obj;exact lt e
  have hf':∀ c∈[z,TI,TO,p1,p2],V0 X pins (upd H s.heap.objs.size (.tup [x,y])) c:=fun c hc=>by
   obtain⟨f0,f1⟩:=hf c hc
   exact⟨by rw[g9 (nfp c hc)];exact f0,f1⟩
  have I2:Inv X pins σ (upd H s.heap.objs.size (.tup [x,y])) { s with heap:=h2,toks:=s.toks }:=by
   refine Inv.turnedN (s:={ s with heap:=s.heap.push { cls:=.type "tuple",data:=.seq #[u1,u2] },toks:=s.toks }) (t':=s.toks) (h':=h2) (ch:=[z,TI,TO,p1,p2]) I1 (fun c o hcn e=>?_) hf'
   simp only[Hr,HM,or_false,not_or]at hcn
   obtain⟨n1,n2,n3,n4,n5⟩:=hcn
   refine b2.extBut c o n1 ?_
   by_cases hcs:c=s.heap.objs.size
   ·subst hcs
    have e':(s.heap.push { cls:=.type "tuple",data:=.seq #[u1,u2] }).get? s.heap.objs.size=some o:=e
    rw[HA _ rfl]at e'
    cases e'
    exact a5
   ·have e':(s.heap.push { cls:=.type "tuple",data:=.seq #[u1,u2] }).get? c=some o:=e
    have hlt:c<s.heap.objs.size:=by
     have:=Hv e'
     rw[Il]at this
     exact Nat.lt_of_le_of_ne (Nat.le_of_lt_succ this) hcs
    have hold:s.heap.get? c=some o:=by
     have:∃ o',s.heap.get? c=some o':=by
      cases q:s.heap.get? c with
      | some o'=>exact⟨o',rfl⟩
      | none=>exact absurd e' (by rw[Lh _ _ _ hcs];rw[q];exact fun z=>nomatch z)
     obtain⟨o',ho'⟩:=this
     have:=Hj { cls:=.type "tuple",data:=.seq #[u1,u2] } ho'
     rw[e']at this
     cases this;exact ho'
    exact kk c o n1 n3 n4 n5 hold
  refine⟨.ref s.heap.objs.size,_,I2,rfl,⟨_,x,y,I.hok.fresh (Hy _),rfl,rfl,fun zs hz=>by rw[I.sqk_inj hz q1];exact hx,fun zs hz=>by rw[I.sqk_inj hz q2];exact hy⟩,?_,fun c hc=>(hf' c hc).1⟩
  have lift:∀ c o,c≠z→h'.get? c=some o→h2.get? c=some o:=fun c o n e=>b2.extBut c o n e
  exact⟨b1,lift _ _ D.TIz (kk _ _ D.TIz D.TITO D.TIi1 D.TIi2 iI),⟨_,_,lift _ _ D.TOz a2⟩,a3.at fun o e=>lift _ o D.i1z e,a4.at fun o e=>lift _ o D.i2z e⟩
 done:=by
  intro X hP hw hK hc i pins s σ H E I hf st hg
  subst hP hw hK
  obtain⟨iz,iI,⟨a,b,iO⟩,g1,g2⟩:=st
  obtain⟨xs,ys,q1,q2,hx⟩:=hg
  obtain⟨is1,r1,m1⟩:=I.sqk q1
  obtain⟨is2,r2,m2⟩:=I.sqk q2
  have e1:=r1.length
  have e2:=r2.length
  refine yX (I.ok.hd hc) D iz iI iO g1 g2 m1 m2 (hx.elim (fun h=>.inl (by simp;omega)) fun h=>.inr (by simp;omega)) fun h' kk=>⟨rfl,?_⟩
  refine I.turnedN (t':=s.toks) (ch:=[z,TI,TO,p1,p2]) (fun c o hcn e=>?_) hf
  simp only[Hr,HM,or_false,not_or]at hcn
  obtain⟨n1,n2,n3,n4,n5⟩:=hcn
  exact kk c o n1 n3 n4 n5 e
 self:=fun _ _ _ _ _ st h=>wpAny_pyIter_zip st.1 h
def ES(K:Hi)(ta:TA):TI:=fun σ H R=>ta σ H fun vs H1=>∃ k1 k2 l1 l2,vs=[.ref l1,.ref l2]∧(∃ xs,SqK K k1 H1 l1 xs)∧(∃ ys,SqK K k2 H1 l2 ys)∧R (Itz K k1 k2 l1 l2) H1
theorem Ah{X:Cx}{elts:List Expr}{kx:Nat}{tp:Pos}{a b:Expr}{ta:TA}{p pos:Pos}(hg:Gl X "zip")(hm:X.mg "zip" = none)(ha:PA X [a,b] ta)
  (hs:starEach [a,b] X.env=[(false,eval a X.env),(false,eval b X.env)]:=by rfl) (hs2:starEach [b] X.env=[(false,eval b X.env)]:=by rfl):PI X (.Tuple elts kx tp) (.Call (.Name "zip" p) [a,b] [] pos) (ES X.K ta):=by
 intro pins s σ H R I h
 refine Call_ (U5 I hg hm PyProof.Rows.boot_zip (PyProof.Rows.callWith_type1 (thn (ha pos pins s σ H _ I h) fun us s1 ⟨vs,H1,I1,r1,q1⟩=>?_) (by rw[hs,hs2]) (by rw[hs2];rfl)))
 obtain⟨k1,k2,l1,l2,e,⟨xs,q2⟩,⟨ys,q3⟩,q⟩:=q1
 subst e
 cases r1 with
 | cons r rr =>
  cases rr with
  | cons r' rr =>
   cases rr
   cases r
   cases r'
   obtain⟨is1,_,m1⟩:=I1.sqk q2
   obtain⟨is2,_,m2⟩:=I1.sqk q3
   have lt1:l1<s1.heap.objs.size:=by obtain⟨o,e⟩:=m1.obj;exact Hv e
   have lt2:l2<s1.heap.objs.size:=by obtain⟨o,e⟩:=m2.obj;exact Hv e
   refine xh m1 m2 fun h' a1 a2 a3 a4 a5 a6 kk=>?_
   refine wpAny_pyIter_zip (s:={ s1 with heap:=h' }) a1 ?_
   have D:ZipApart (s1.heap.objs.size+4) (s1.heap.objs.size+2) (s1.heap.objs.size+3) s1.heap.objs.size (s1.heap.objs.size+1) l1 l2:=PyProof.Rows.zipApart_new lt1 lt2
   refine⟨s1.heap.objs.size+4,_,_,_,H1,rfl,I1.kept (t':=s1.toks) kk,qK D,⟨a1,a2,⟨_,_,a3⟩,a4,a5⟩,fun c hc=>?_,q⟩
   have hge:s1.heap.objs.size≤c:=by
    simp only[Hr,HM,or_false]at hc
    rcases hc with rfl|rfl|rfl|rfl|rfl
    ·exact IZ _ _
    ·exact IZ _ _
    ·exact IZ _ _
    ·exact Hy _
    ·exact IZ _ _
   exact I1.fpOk hge (I1.hok.fresh hge)
section
variable {X:Cx} {pins:List (Addr × Obj)} {σ:St} {H:Hp} {s:Shared} {p:Addr}
theorem Inv.swap{a b:HO}(I:Inv X pins σ H s)(hp:H p=some a)(ha:(∀ x,a ≠ .own x)∧∀ xs,a ≠ .tup xs)(h1:∀ xs,X.H₀ p≠some (.tup xs))(h2:∀ o u,X.H₀ p≠some (.frz o u))(h3:∀ ps,X.H₀ p≠some (.tbl ps))
  (new:t6 X.prog X.w H s.heap p b):Inv X pins σ (upd H p b) s:=by
 have ne:∀{c:Addr},H c=none→c≠p:=fun{c} q z=>by subst z;rw[hp]at q;cases q
 have st:∀{c:Addr} {o:HO},t6 X.prog X.w H s.heap c o→t6 X.prog X.w (upd H p b) s.heap c o:=fun{c o} x =>
  x.stay (fun _ _ _ q=>q) (fun d q=>by
   have:d≠p:=by intro z;subst z;rw[hp]at q;cases q;exact ha.1 _ rfl
   rw[g9 this];exact q) fun d xs q=>by
   have:d≠p:=by intro z;subst z;rw[hp]at q;cases q;exact ha.2 _ rfl
   rw[g9 this];exact q
 refine⟨I.ok,I.os,I.bare,⟨I.base.keep,I.base.slot,fun c o e n x=>?_,I.base.there,fun c xs q=>?_,fun c o u q=>?_,fun c ps q=>?_⟩,I.loc,I.cell,?_,fun x c e=>?_,fun q hq=>?_,fun c o q=>?_,I.len⟩
 ·have:=I.base.free c o e n x
  rw[g9 (ne this)];exact this
 ·have:c≠p:=by intro z;subst z;exact h1 xs q
  rw[g9 this];exact I.base.tups c xs q
 ·have:c≠p:=by intro z;subst z;exact h2 o u q
  rw[g9 this];exact I.base.frzs c o u q
 ·have:c≠p:=by intro z;subst z;exact h3 ps q
  rw[g9 this];exact I.base.tbls c ps q
 ·rw[g9 (ne I.free)];exact I.free
 ·rw[g9 (ne (I.freeC x c e))];exact I.freeC x c e
 ·obtain⟨a1,a2,a3,a4,a5⟩:=I.pin q hq
  exact⟨a1,by rw[g9 (ne a2)];exact a2,a3,a4,a5⟩
 ·by_cases z:c=p
  ·subst z;rw[i4]at q;cases q;exact st new
  ·rw[g9 z]at q;exact st (I.hok c o q)
theorem Inv.freeze{xs:List V}(I:Inv X pins σ H s)(hp:H p=some (.lst xs)):∃ o,Inv X pins σ (upd H p (.frz o (.lst xs))) s:=by
 have k:=I.hok p _ hp
 obtain⟨z,its,n,r,e⟩:=id k
 refine⟨_,I.swap hp ⟨fun _ q=>(nomatch q),fun _ q=>(nomatch q)⟩ (fun ys q=>?_) (fun o u q=>?_) (fun ps q=>?_) ⟨e,k⟩⟩
 ·rw[I.base.tups p ys q]at hp;cases hp
 ·rw[I.base.frzs p o u q]at hp;cases hp
 ·obtain⟨more,q⟩:=I.base.tbls p ps q;rw[q]at hp;cases hp
structure yT(X:Cx)(p:Addr):Prop where
 t:∀ xs,X.H₀ p≠some (.tup xs)
 f:∀ o u,X.H₀ p≠some (.frz o u)
 b:∀ ps,X.H₀ p≠some (.tbl ps)
theorem Inv.loose{xs:List V}(I:Inv X pins σ H s)(hp:H p=some (.lst xs)):yT X p :=
 ⟨fun ys q=>(by rw[I.base.tups p ys q]at hp;cases hp),fun o u q=>(by rw[I.base.frzs p o u q]at hp;cases hp),fun ps q=>(by obtain⟨more,q⟩:=I.base.tbls p ps q;rw[q]at hp;cases hp)⟩
def Cu(t:TE):TE:=fun σ H Q=>t σ H fun v H1=>∃ p xs,v = .ref p∧H1 p=some (.lst xs)∧∀ o,Q v (upd H1 p (.frz o (.lst xs)))
theorem bQ{x:Expr}{t:TE}(h:PE X x t):PE X x (Cu t):=fun pins s σ H Q I q =>
 wpAny_mono (h pins s σ H _ I q) (fun u s1 zz=>by
  obtain⟨v,H1,I1,r,p,xs,e,hp,q1⟩:=zz
  obtain⟨o,I2⟩:=I1.freeze hp
  exact⟨v,_,I2,r,q1 o⟩) fun _ _ z=>z
theorem zZ{i:Nat}{y:Str}{pos':Pos}{x:Expr}{t:TE}(h:PU X i y pos' x t):PU X i y pos' x (Cu t):=fun pins s σ H Q I q =>
 wpAny_mono (h pins s σ H _ I q) (fun u s1 zz=>by
  obtain⟨v,H1,I1,p,xs,e,hp,q1⟩:=zz
  obtain⟨o,I2⟩:=I1.freeze hp
  exact⟨v,_,I2,q1 o⟩) fun _ _ z=>z
def Ct(t:TE):TE:=fun σ H Q=>t σ H fun v H1=>(∃ p xs,v = .ref p∧H1 p=some (.lst xs)∧∀ o,Q v (upd H1 p (.frz o (.lst xs))))∨Q v H1
theorem wb{x:Expr}{t:TE}(h:PE X x t):PE X x (Ct t):=fun pins s σ H Q I q =>
 wpAny_mono (h pins s σ H _ I q) (fun u s1 zz=>by
  obtain⟨v,H1,I1,r,z⟩:=zz
  rcases z with⟨p,xs,e,hp,q1⟩|q1
  ·obtain⟨o,I2⟩:=I1.freeze hp
   exact⟨v,_,I2,r,q1 o⟩
  ·exact⟨v,H1,I1,r,q1⟩) fun _ _ z=>z
noncomputable def X3(p:Addr)(xs:List V):HO:=.ext fun h=>xs.length≤sizeLine∧∃(its:List Value) (n:Nat),i6 xs its∧h.get? p=some { cls:=.type "list",data:=.seq its.toArray n }
theorem Inv.hide{xs:List V}(I:Inv X pins σ H s)(hp:H p=some (.lst xs)):Inv X pins σ (upd H p (X3 p xs)) s:=by
 have k:=I.hok p _ hp
 have l:=I.loose hp
 obtain⟨z,its,n,r,e⟩:=id k
 exact I.swap hp ⟨fun _ q=>(nomatch q),fun _ q=>(nomatch q)⟩ l.t l.f l.b ⟨⟨z,its,n,r,e⟩,⟨_,e⟩,fun h1 h2 ⟨z,its,n,r,e⟩ k=>⟨z,its,n,r,k _ e⟩⟩
theorem Inv.show'{xs:List V}(I:Inv X pins σ H s)(l:yT X p)(hp:H p=some (X3 p xs)):Inv X pins σ (upd H p (.lst xs)) s:=by
 obtain⟨k,_,_⟩:=I.hok p _ hp
 exact I.swap hp ⟨fun _ q=>(nomatch q),fun _ q=>(nomatch q)⟩ l.t l.f l.b k
def qO(p:Addr)(t:TE):TE:=fun σ H Q=>∃ xs,H p=some (.lst xs)∧t σ (upd H p (X3 p xs)) fun v H1=>H1 p=some (X3 p xs)∧Q v (upd H1 p (.lst xs))
theorem nh{x:Expr}{t:TE}(h:PE X x t):PE X x fun σ H Q=>∃ p,qO p t σ H Q:=fun pins s σ H Q I ⟨p,xs,hp,q⟩ =>
 wpAny_mono (h pins s σ _ _ (I.hide hp) q) (fun u s1 ⟨v,H1,I2,r,hp1,q1⟩=>⟨v,_,I2.show' (I.loose hp) hp1,r,q1⟩) fun _ _ z=>z
def qM(p:Addr)(t:TT):TT:=fun σ H Q=>∃ xs,H p=some (.lst xs)∧t σ (upd H p (X3 p xs)) fun v H1=>H1 p=some (X3 p xs)∧Q v (upd H1 p (.lst xs))
theorem ee{ifs:List Expr}{t:TT}(h:aD X ifs t):aD X ifs fun σ H Q=>∃ p,qM p t σ H Q:=fun pins s σ H Q I ⟨p,xs,hp,q⟩ =>
 wpAny_mono (h pins s σ _ _ (I.hide hp) q) (fun u s1 ⟨H1,I2,hp1,q1⟩=>⟨_,I2.show' (I.loose hp) hp1,q1⟩) fun _ _ z=>z
def qN(p:Addr)(g:TG):TG:=fun v σ H Q=>∃ xs,H p=some (.lst xs)∧g v σ (upd H p (X3 p xs)) fun σ1 H1=>H1 p=some (X3 p xs)∧Q σ1 (upd H1 p (.lst xs))
theorem nc{tg:Expr}{g:TG}(h:PG X tg g):PG X tg fun v σ H Q=>∃ p,qN p g v σ H Q:=fun pins s σ H v u Q I r ⟨p,xs,hp,q⟩ =>
 wpAny_mono (h pins s σ _ v u _ (I.hide hp) r q) (fun u s1 ⟨σ1,H1,I2,hp1,q1⟩=>⟨σ1,_,I2.show' (I.loose hp) hp1,q1⟩) fun _ _ z=>z
end
section
variable {X:Cx} {pos:Pos}
end
section
variable {X:Cx} {e:Expr} {te:TE} {st:Expr} {ts:TO} {pos p2:Pos}
end
section
variable {prog:Program} {w:World} {A:Around} {E:Value→Shared→Prop} {s:Shared}
end
section
variable {X:Cx}
end
section
variable {X:Cx}
end
section
variable {prog:Program} {w:World} {A:Around} {E:Value→Shared→Prop} {s:Shared}
end
section
variable {prog:Program} {w:World} {A:Around} {E:Value→Shared→Prop} {s:Shared}
end
section
variable {X:Cx}
end
section
variable {prog:Program} {w:World} {A:Around} {E:Value→Shared→Prop} {s:Shared}
end
section
variable {X:Cx}
end
section
variable {prog:Program} {w:World} {A:Around} {E:Value→Shared→Prop} {s:Shared}
theorem nu{h h2:Heap}{a b:Addr}{its:Array Value}(x:h.IsList a its)(hs:Heap.ExtBut b h h2)(ne:a≠b):h2.IsList a its:=x.at fun o e=>hs a o ne e
theorem jK{it l:Addr}{its:Array Value}(hne:l≠it):∀(n i:Nat) (s:Shared) (Q:List Value→Shared→Prop),s.heap.IsListIter it l i→s.heap.IsList l its→i+n≤its.size →
  (∀ h2,h2.IsListIter it l (i+n)→Heap.SameBut it s.heap h2→Q ((its.toList.drop i).take n) { s with heap:=h2 })→wpAny (model prog w) A (draw (.ref it) n) Q E s
 | 0,i,s,Q,hi,_,_,k=>by
  show wpAny _ _ (pure []) Q E s
  refine Hn ?_
  simpa using k s.heap hi (Heap.SameBut.refl ..)
 | n+1,i,s,Q,hi,hl,hle,k=>by
  have lt:i<its.size:=by omega
  show wpAny _ _ (pyNext (.ref it) >>= _) Q E s
  refine Hh (wpAny_pyNext_list_item hi hl (x:=its[i]) (by simp[lt]) fun h1 hi1 hs1=>Hh (wpAny_holding ?_))
  refine jK hne n (i+1) _ _ hi1 (nu hl hs1.extBut hne) (by omega) fun h2 hi2 hs2=>Hn ?_
  have e:its.toList.drop i=its[i] :: its.toList.drop (i+1):=by simp[List.drop_eq_getElem_cons,lt]
  have z:=k h2 (by rw[show i+(n+1)=i+1+n by omega];exact hi2) (hs1.trans hs2)
  rw[e,JK]at z
  exact z
theorem kf{l:Addr}{its:Array Value}{ts:List (Bool × (Value→Sem Unit))}{Q:Unit→Shared→Prop}(hh:A.handled=none)(hl:s.heap.IsList l its)(hn:ts.length=its.size)(hst:ts.findIdx? (·.1)=none)
  (k:∀ h2,Heap.ExtBut s.heap.objs.size s.heap h2→wpAny (model prog w) A (assignInOrder (ts.map (·.2)) its.toList) Q E { s with heap:=h2 }):wpAny (model prog w) A (unpack (.ref l) ts) Q E s:=by
 have ne:l≠s.heap.objs.size:=by obtain⟨o,ho,_⟩:=hl;exact HQ (Hv ho)
 unfold unpack
 rw[hn,hst]
 refine Hh (wpAny_holding ?_)
 unfold unpackItems
 refine Hh ?_
 unfold notIterableAtAll
 refine Hh (wpAny_specialOf hl.typeIs F.slot_list_iter.lookup (Hn ?_))
 simp only[HW,if_false]
 refine Hh (wpAny_holding (wpAny_pyIter_list hl ?_))
 refine Hh (wpAny_holding (jK ne its.size 0 _ _ ⟨_,HA _ rfl,rfl,rfl⟩ (hl.at fun o e=>Hj _ e) (by omega) fun h1 hi1 hs1=>?_))
 have all:List.take its.size (List.drop 0 its.toList)=its.toList:=by
  rw[LI];exact IK (by simp)
 rw[all,if_neg (by simp)]
 have hl1:h1.IsList l its:=nu (hl.at fun o e=>Hj _ e) hs1.extBut ne
 refine Hh (wpAny_holding (wpAny_pyNext_list_end hh hi1 hl1 (by simp) fun h2 he=>?_))
 simp only[Option.isSome_none,HW,if_false]
 exact Hn (k h2 fun b o hb e=>he b o hb (hs1.extBut b o hb (Hj _ e)))
end
section
variable {X:Cx} {pos:Pos}
def AU(K:Hi)(n:Nat)(t:TGs):TG:=fun v σ H Q=>∃ a xs,v = .ref a∧SqL K H a xs∧xs.length=n∧t xs σ H Q
theorem vZ{es:List Expr}{k:Nat}{t:TGs}{n:Nat}(hc:X.calm=true)(h:PGs X es t)(hn:(assignEach es X.env).length=n:=by rfl)
  (hst:(assignEach es X.env).findIdx? (·.1)=none:=by rfl):PG X (.Tuple es k pos) (AU X.K n t):=by
 intro pins s σ H v u Q I r hw
 obtain⟨a,xs,e1,hq,hl,hw⟩:=hw
 subst e1
 cases r
 obtain⟨its,rv,ht,hz⟩:=I.list hq
 rw[assign_Tuple]
 refine Hh (wpAny_standAt (kf (I.ok.hd hc) ht.isList (by simp[hn,← hl,rv.length]) hst fun h2 hx=>?_))
 have I1:Inv X pins σ H { s with heap:=h2 }:=I.kept (t':=s.toks) fun b o e=>hx b o (HQ (Hv e)) e
 exact h pins _ σ H xs _ Q I1 (by simpa using rv) hw
end
section
variable {X:Cx}
end
section
variable {prog:Program} {w:World} {A:Around} {E:Value→Shared→Prop} {s:Shared}
end
end L2
namespace L2
open PySem
section
variable {prog:Program} {w:World} {A:Around} {E:Value→Shared→Prop} {s:Shared}
theorem tj{k:Bool}{e p l:Addr}{n:Nat}{xs:Array Value}{v old:Value}{Q:Option Value→Shared→Prop}(ie:IsEnum s.heap e p n old)(g:SI k s.heap p l n)(m:SS k s.heap l xs)(hv:xs[n]? = some v)(hne:e≠p)
  (q:∀ h',IsEnumOut h' e p ((n:Int)+1) v s.heap.objs.size→SI k h' p l (n+1)→h'.get? s.heap.objs.size=some { cls:=.type "tuple",data:=.seq #[.int n s.toks,v] }→h'.objs.size=s.heap.objs.size+1 →
   (∀ b o,b≠e→b≠p→s.heap.get? b=some o→h'.get? b=some o)→Q (some (.ref s.heap.objs.size)) { s with heap:=h',toks:=s.toks+1 }):wpAny (model prog w) A (pyNext (.ref e)) Q E s:=by
 have ty:s.TypeIs (.ref e) "enumerate" := ⟨_,ie,rfl⟩
 unfold pyNext
 refine Hh (wpAny_attempt (wpAny_callSpecial?_slot (name:=Str.ofString "__next__") ty F.slot_enumerate_next (wpAny_call_entry F.slot_enumerate_next ty F.entry_enumerate_next ?_ (F.args_enumerate_next_1 _))))
 obtain⟨hp,gs,dr,tk,os⟩:=s
 show wpAny _ _ (field (.ref e) 2 >>= _) _ _ _
 refine Hh (wpAny_field ie rfl (x:=.ref p) rfl (Hh (aG g m hv fun ha ga sa=>?_)))
 replace sa:Heap.SameBut p hp ha:=sa
 have ea:IsEnum ha e p n old:=(sa.2 e hne).trans ie
 show wpAny _ _ (field (.ref e) 3 >>= _) _ _ ⟨ha,gs,dr,tk,os⟩
 refine Hh (wpAny_field ea rfl (x:=rawInt n) rfl ?_)
 show wpAny _ _ (field (.ref e) 4 >>= _) _ _ ⟨ha,gs,dr,tk,os⟩
 refine Hh (wpAny_field ea rfl (x:=.none) rfl ?_)
 show wpAny _ _ (mkInt n >>= _) _ _ ⟨ha,gs,dr,tk,os⟩
 refine Hh (wpAny_mkInt ?_)
 show wpAny _ _ (setField (.ref e) 3 (rawInt ((n:Int)+1)) >>= _) _ _ ⟨ha,gs,dr,tk+1,os⟩
 refine Hh (wpAny_setField_rec ea (by simp) fun hb eb sb=>?_)
 replace sb:Heap.SameBut e ha hb:=sb
 replace eb:IsEnum hb e p ((n:Int)+1) old:=eb
 show wpAny _ _ (setField (.ref e) 4 .none >>= _) _ _ ⟨hb,gs,dr,tk+1,os⟩
 refine Hh (wpAny_setField_rec eb (by simp) fun hc ec sc=>?_)
 replace sc:Heap.SameBut e hb hc:=sc
 replace ec:IsEnum hc e p ((n:Int)+1) old:=ec
 show wpAny _ _ (newTuple [.int n tk,v] >>= _) _ _ ⟨hc,gs,dr,tk+1,os⟩
 refine Hh (wpAny_newTuple ?_)
 have zc:hc.objs.size=hp.objs.size:=by rw[sc.1,sb.1,sa.1]
 have ltE:e<hp.objs.size:=Hv ie
 obtain⟨hd,hhd⟩:∃ hd,hd=hc.push { cls:=.type "tuple",data:=.seq #[.int n tk,v] }:=⟨_,rfl⟩
 have ed:IsEnum hd e p ((n:Int)+1) old:=by rw[hhd];exact Hj _ ec
 have td:hd.get? hp.objs.size=some { cls:=.type "tuple",data:=.seq #[.int n tk,v] }:=by rw[hhd,← zc];exact HA _ rfl
 have zd:hd.objs.size=hp.objs.size+1:=by rw[hhd,Il,zc]
 have kd:∀ b o,b≠e→b≠p→hp.get? b=some o→hd.get? b=some o:=fun b o b1 b2 z=>by rw[hhd];exact Hj _ (sc.extBut b o b1 (sb.extBut b o b1 (sa.extBut b o b2 z)))
 have gd:SI k hd p l (n+1):=((ga.but sb.extBut (Ne.symm hne)).but sc.extBut (Ne.symm hne)).at fun o z=>by rw[hhd];exact Hj _ z
 show wpAny _ _ (Builtin.SmallTypes.ownedTupleIsFree (.ref e) >>= _) _ _ ⟨hc.push { cls:=.type "tuple",data:=.seq #[.int n tk,v] },gs,dr,tk+1,os⟩
 rw[← hhd,zc]
 refine Hh ?_;unfold Builtin.SmallTypes.ownedTupleIsFree
 refine Hh (wpAny_field ed rfl (x:=.none) rfl (Hn ?_));simp only[if_true]
 refine Hh (wpAny_rule (Hh (wpAny_field ed rfl (x:=old) rfl (Hh (wpAny_setField_rec ed (by simp) fun hf ef sf=>?_)))))
 replace sf:Heap.SameBut e hd hf:=sf
 replace ef:IsEnum hf e p ((n:Int)+1) v:=ef
 show wpAny _ _ (Builtin.SmallTypes.ownedTupleHandOut (.ref e) (.ref hp.objs.size) >>= _) _ _ ⟨hf,gs,dr,tk+1,os⟩
 refine Hh ?_;unfold Builtin.SmallTypes.ownedTupleHandOut
 refine Hh (wpAny_setField_rec ef (by simp) fun hg eg sg=>?_)
 replace sg:Heap.SameBut e hf hg:=sg
 replace eg:IsEnumOut hg e p ((n:Int)+1) v hp.objs.size:=eg
 refine wpAny_setField_rec eg (by simp) fun hh eh sh=>?_
 replace sh:Heap.SameBut e hg hh:=sh
 replace eh:IsEnumOut hh e p ((n:Int)+1) v hp.objs.size:=eh
 refine Hh (wpAny_letGo (Hn ⟨_,rfl,Hn (q hh eh ?_ ?_ ?_ ?_)⟩))
 ·exact((gd.but sf.extBut (Ne.symm hne)).but sg.extBut (Ne.symm hne)).but sh.extBut (Ne.symm hne)
 ·exact sh.extBut _ _ (Jo ltE) (sg.extBut _ _ (Jo ltE) (sf.extBut _ _ (Jo ltE) td))
 ·show hh.objs.size=hp.objs.size+1
  rw[sh.1,sg.1,sf.1,zd]
 ·exact fun b o b1 b2 z=>sh.extBut b o b1 (sg.extBut b o b1 (sf.extBut b o b1 (kd b o b1 b2 z)))
theorem xb{k:Bool}{e p l:Addr}{n:Nat}{xs:Array Value}{old:Value}{Q:Option Value→Shared→Prop}(hA:A.handled=none)(ie:IsEnum s.heap e p n old)(g:SI k s.heap p l n)(m:SS k s.heap l xs)(hv:xs[n]? = none)
  (q:∀ h',Heap.ExtBut p s.heap h'→Q none { s with heap:=h' }):wpAny (model prog w) A (pyNext (.ref e)) Q E s:=by
 have ty:s.TypeIs (.ref e) "enumerate" := ⟨_,ie,rfl⟩
 unfold pyNext
 refine Hh (wpAny_attempt (wpAny_callSpecial?_slot (name:=Str.ofString "__next__") ty F.slot_enumerate_next (wpAny_call_entry F.slot_enumerate_next ty F.entry_enumerate_next ?_ (F.args_enumerate_next_1 _))))
 show wpAny _ _ (field (.ref e) 2 >>= _) _ _ _
 refine Hh (wpAny_field ie rfl (x:=.ref p) rfl (Hh (ku hA g m hv fun h' x he' zz=>?_)))
 obtain⟨o,ho,hc⟩:=zz
 exact Hh (wpAny_isInstance (T := "StopIteration") (b:=true) ⟨o,ho,hc⟩ isSubtype_stop (Hn (q _ he')))
end
set_option maxHeartbeats 2000000 in
theorem tm(l:Addr)(xs:Array Value)(n:Nat)(dct:Option Addr)(sl:Array (Option Value)) :
  Meets (Builtin.«enumerate.__new__» ⟨[.type "enumerate",.ref l],[]⟩) (fun _ R s=>s.heap.get? l=some { cls:=.type "tuple",dict:=dct,data:=.seq xs n,slots:=sl } ∧
   R (.ok (.ret (.ref (zA false s.heap l).objs.size))) { s with heap:=(zA false s.heap l).push { cls:=.type "enumerate",data:=.fields #[.none,.bool false,.ref s.heap.objs.size,rawInt 0,.none,.none] } }) :=
 .of_wp fun prog w A R s h=>by
  obtain⟨hp,g,d,tk,os⟩:=s
  obtain⟨hl,h⟩:=h
  have hsub:=sub_enumerate
  have hT:Heap.IsTuple (Shared.heap ⟨hp,g,d,tk,os⟩) l xs:=⟨_,hl,rfl,n,rfl⟩
  wp_walk using AutoSeq1.wpAny_loadPart' hl
  refine wpAny_stack_any fun st=>Hn ?_
  split
  ·rename_i c _ _ _ _ _
   cases(c == Value.type "enumerate")
   ·wp_walk using AutoSeq1.wpAny_loadPart' hl,wpAny_pyIter_tuple hT
    exact⟨_,rfl,h⟩
   ·wp_walk using AutoSeq1.wpAny_loadPart' hl,wpAny_pyIter_tuple hT
    exact⟨_,rfl,h⟩
  ·wp_walk using AutoSeq1.wpAny_loadPart' hl,wpAny_pyIter_tuple hT
   exact⟨_,rfl,h⟩
section
variable {prog:Program} {w:World} {A:Around} {E:Value→Shared→Prop} {s:Shared}
theorem tT{k:Bool}{l:Addr}{xs:Array Value}{Q:Value→Shared→Prop}(m:SS k s.heap l xs)
  (q:∀ h',IsEnum h' (s.heap.objs.size+1) s.heap.objs.size 0 .none→SI k h' s.heap.objs.size l 0→h'.objs.size=s.heap.objs.size+2→(∀ b o,s.heap.get? b=some o→h'.get? b=some o)→Q (.ref (s.heap.objs.size+1)) { s with heap:=h' }) :
  wpAny (model prog w) A (call (.type "enumerate") [.ref l]) Q E s:=by
 cases k with
 | true=>exact call_enumerate_list m q
 | false =>
  obtain⟨⟨c,dct,dt,sl⟩,hl,hc,n,hd⟩:=m
  simp only at hc hd
  subst hc;subst hd
  refine callType_new F.called_enumerate (by decide) (F.typeCall_enumerate_1 _) (F.newCall_enumerate_1 _) (fun obj=>F.args_object_init_2 obj _) F.entry_enumerate_new (tm l xs n dct sl) ⟨hl,?_⟩
  have s1:(zA false s.heap l).objs.size=s.heap.objs.size+1:=Il ..
  have o1:((zA false s.heap l).push { cls:=.type "enumerate",data:=.fields #[.none,.bool false,.ref s.heap.objs.size,rawInt 0,.none,.none] }).get? (zA false s.heap l).objs.size=some _:=HA _ rfl
  show _∧_
  rw[s1]at o1 ⊢
  exact⟨⟨_,o1,rfl⟩,q _ o1 ⟨_,Hj _ (HA _ rfl),rfl,rfl⟩ (by rw[Il,s1]) fun b o e=>Hj _ (Hj _ e)⟩
end
end L2
namespace L2
open PySem PySem.Spec PyProof.Rows
noncomputable def Ite(K:Hi)(k:Bool)(l:Addr):It :=
 ⟨fun i H=>∃ xs x,SqK K k H l xs∧xs[i]? = some x,
  fun i H v H'=>∃ T x,H T=none∧v = .ref T∧H'=upd H T (.tup [.int i,x])∧∀ xs,SqK K k H l xs→xs[i]? = some x,
  fun i H=>∃ xs,SqK K k H l xs∧xs.length≤i⟩
def BF(k:Bool)(e p l:Addr)(i:Nat)(h:Heap):Prop:=(∃ old,IsEnum h e p i old)∧SI k h p l i
theorem nZ{P:Program}{w:World}{K:Hi}{elts:List Expr}{kx:Nat}{tp:Pos}{k:Bool}{e p l:Addr}(hne:e≠p):lE P w K (.Tuple elts kx tp) (Ite K k l) [e,p] e (BF k e p l) where
 mem:=by simp
 obj:=fun i h ⟨⟨old,ie⟩,g⟩ c hc=>by
  simp only[Hr,HM,or_false]at hc
  rcases hc with rfl|rfl
  ·exact⟨_,ie,fun v z=>by cases z⟩
  ·exact g.obj
 keep:=fun i h h' ⟨⟨old,ie⟩,g⟩ kk=>⟨⟨old,kk e (by simp) _ ie⟩,g.at fun o z=>kk p (by simp) o z⟩
 item:=by
  intro X hP hw hK hc i pins s σ H E I hf st hg
  subst hP hw hK
  obtain⟨⟨old,ie⟩,g⟩:=st
  obtain⟨xs,x,q1,hx⟩:=hg
  obtain⟨is1,r1,m1⟩:=I.sqk q1
  obtain⟨u1,hu1,ru1⟩:=r1.get hx
  refine tj ie g m1 (v:=u1) (by simpa using hu1) hne fun h' a1 a2 a3 a4 kk=>?_
  refine⟨_,rfl,?_⟩
  refine wpAny_letOwnedTupleGo_enum (s:={ s with heap:=h',toks:=s.toks+1 }) a1 fun h2 b1 b2=>?_
  have lt:∀{c o},s.heap.get? c=some o→c≠s.heap.objs.size:=fun z=>HQ (Hv z)
  have I1:Inv X pins σ (upd H s.heap.objs.size (.tup [.int i,x])) { s with heap:=s.heap.push { cls:=.type "tuple",data:=.seq #[.int i s.toks,u1] },toks:=s.toks+1 } :=
   I.laid (o:=.tup [.int i,x]) (fun b ob q=>Hj _ q) (Hy _) ⟨(show 2≤sizeLine by decide),[.int i s.toks,u1],.cons ⟨_,rfl⟩ (.cons ru1 .nil),IsTup.new _ _⟩
  have nfp:∀ c∈[e,p],c≠s.heap.objs.size:=fun c hc=>by
   simp only[Hr,HM,or_false]at hc
   rcases hc with rfl|rfl
   ·exact lt ie
   ·obtain⟨o,z,_⟩:=g.obj;exact lt z
  have hf':∀ c∈[e,p],V0 X pins (upd H s.heap.objs.size (.tup [.int i,x])) c:=fun c hc=>by
   obtain⟨f0,f1⟩:=hf c hc
   exact⟨by rw[g9 (nfp c hc)];exact f0,f1⟩
  have I2:Inv X pins σ (upd H s.heap.objs.size (.tup [.int i,x])) { s with heap:=h2,toks:=s.toks+1 }:=by
   refine Inv.turnedN (s:={ s with heap:=s.heap.push { cls:=.type "tuple",data:=.seq #[.int i s.toks,u1] },toks:=s.toks+1 }) (t':=s.toks+1) (h':=h2) (ch:=[e,p]) I1 (fun c o hcn z=>?_) hf'
   simp only[Hr,HM,or_false,not_or]at hcn
   obtain⟨n1,n2⟩:=hcn
   refine b2.extBut c o n1 ?_
   have z':(s.heap.push { cls:=.type "tuple",data:=.seq #[.int i s.toks,u1] }).get? c=some o:=z
   by_cases hcs:c=s.heap.objs.size
   ·subst hcs
    rw[HA _ rfl]at z'
    cases z'
    exact a3
   ·rw[Lh _ _ _ hcs]at z'
    exact kk c o n1 n2 z'
  refine⟨.ref s.heap.objs.size,_,I2,rfl,⟨_,x,I.hok.fresh (Hy _),rfl,rfl,fun zs hz=>by rw[I.sqk_inj hz q1];exact hx⟩,?_,fun c hc=>(hf' c hc).1⟩
  have ec:((i+1:Nat):Int)=(i:Int)+1:=by omega
  exact⟨⟨u1,by rw[ec];exact b1⟩,a2.at fun o z=>b2.extBut p o (Ne.symm hne) z⟩
 done:=by
  intro X hP hw hK hc i pins s σ H E I hf st hg
  subst hP hw hK
  obtain⟨⟨old,ie⟩,g⟩:=st
  obtain⟨xs,q1,hx⟩:=hg
  obtain⟨is1,r1,m1⟩:=I.sqk q1
  have e1:=r1.length
  refine xb (I.ok.hd hc) ie g m1 (by simp;omega) fun h' kk=>⟨rfl,?_⟩
  refine I.turnedN (t':=s.toks) (ch:=[e,p]) (fun c o hcn z=>?_) hf
  simp only[Hr,HM,or_false,not_or]at hcn
  exact kk c o hcn.2 z
 self:=fun _ _ _ _ _ st h=>let ⟨⟨_,ie⟩,_⟩:=st;wpAny_pyIter_enum ie h
def Dz(K:Hi)(ta:TA):TI:=fun σ H R=>ta σ H fun vs H1=>∃ k l,vs=[.ref l]∧(∃ xs,SqK K k H1 l xs)∧R (Ite K k l) H1
theorem vX{X:Cx}{elts:List Expr}{kx:Nat}{tp:Pos}{a:Expr}{ta:TA}{p pos:Pos}(hg:Gl X "enumerate")(hm:X.mg "enumerate" = none)(ha:PA X [a] ta)(hs:starEach [a] X.env=[(false,eval a X.env)]:=by rfl) :
  PI X (.Tuple elts kx tp) (.Call (.Name "enumerate" p) [a] [] pos) (Dz X.K ta):=by
 intro pins s σ H R I h
 refine Call_ (U5 I hg hm PyProof.Rows.boot_enumerate (PyProof.Rows.callWith_type1 (thn (ha pos pins s σ H _ I h) fun us s1 ⟨vs,H1,I1,r1,q1⟩=>?_) hs rfl))
 obtain⟨k,l,e,⟨xs,q2⟩,q⟩:=q1
 subst e
 cases r1 with
 | cons r rr =>
  cases rr
  cases r
  obtain⟨is1,_,m1⟩:=I1.sqk q2
  refine tT m1 fun h' a1 a2 a3 kk=>?_
  refine wpAny_pyIter_enum (s:={ s1 with heap:=h' }) a1 ?_
  refine⟨s1.heap.objs.size+1,_,_,_,H1,rfl,I1.kept (t':=s1.toks) kk,nZ (Nat.succ_ne_self _),⟨⟨_,a1⟩,a2⟩,fun c hc=>?_,q⟩
  have hge:s1.heap.objs.size≤c:=by
   simp only[Hr,HM,or_false]at hc
   rcases hc with rfl|rfl
   ·exact IZ _ _
   ·exact Hy _
  exact I1.fpOk hge (I1.hok.fresh hge)
end L2
namespace L2
open PySem
theorem PE.imp{X:Cx}{x:Expr}{t t':TE}(h:PE X x t)(i:∀ σ H Q,t' σ H Q→t σ H Q):PE X x t':=fun pins s σ H Q I q=>h pins s σ H Q I (i σ H Q q)
theorem PT.imp{X:Cx}{x:Expr}{t t':TT}(h:PT X x t)(i:∀ σ H Q,t' σ H Q→t σ H Q):PT X x t':=fun pins s σ H Q I q=>h pins s σ H Q I (i σ H Q q)
theorem PW.imp{X:Cx}{x:Expr}{t t':TT}(h:PW X x t)(i:∀ σ H Q,t' σ H Q→t σ H Q):PW X x t':=fun wh pins s σ H Q I q=>h wh pins s σ H Q I (i σ H Q q)
theorem PA.imp{X:Cx}{x:List Expr}{t t':TA}(h:PA X x t)(i:∀ σ H Q,t' σ H Q→t σ H Q):PA X x t':=fun pos pins s σ H Q I q=>h pos pins s σ H Q I (i σ H Q q)
theorem PS.imp{X:Cx}{x:Stmt}{t t':TS}(h:PS X x t)(i:∀ E σ H,t' E σ H→t E σ H):PS X x t':=fun pins s σ H D I q=>h pins s σ H D I (i D σ H q)
theorem PSs.imp{X:Cx}{x:List Stmt}{t t':TS}(h:PSs X x t)(i:∀ E σ H,t' E σ H→t E σ H):PSs X x t':=fun pins s σ H D I q=>h pins s σ H D I (i D σ H q)
theorem OpR.imp{X:Cx}{f:Value→Value→Sem Value}{r r':R2}(h:OpR X f r)(i:∀ x y H Q,r' x y H Q→r x y H Q):OpR X f r':=fun pins s σ H x y v u Q I rx ry q=>h pins s σ H x y v u Q I rx ry (i x y H Q q)
theorem IxR.imp{X:Cx}{r r':R2}(h:IxR X r)(i:∀ x y H Q,r' x y H Q→r x y H Q):IxR X r':=fun va sl pins s σ H x y v u Q I rx ry q=>h va sl pins s σ H x y v u Q I rx ry (i x y H Q q)
theorem PG.imp{X:Cx}{x:Expr}{t t':TG}(h:PG X x t)(i:∀ v σ H Q,t' v σ H Q→t v σ H Q):PG X x t':=fun pins s σ H v u Q I r q=>h pins s σ H v u Q I r (i v σ H Q q)
theorem PGs.imp{X:Cx}{x:List Expr}{t t':TGs}(h:PGs X x t)(i:∀ v σ H Q,t' v σ H Q→t v σ H Q):PGs X x t':=fun pins s σ H v u Q I r q=>h pins s σ H v u Q I r (i v σ H Q q)
end L2
namespace DL
open PySem PySem.Spec L2
open PyProof.Rows hiding St
inductive D where
 | non|bl (b:Bool)|int (i:Int)|str (x:Str)|ref (a:Addr)|tup (ds:List D)|vl (ds:List D)|ty (n:String)|dic|exc (c:Str)
def KL(K:Hi)(a:Addr)(xs:List V):Prop:=∀ H:Hp,SqL K H a xs
mutual
inductive Has (K:Hi) (H:Hp):V→D→Prop
 | non:Has K H .non .non
 | bl (b:Bool):Has K H (.bl b) (.bl b)
 | int (i:Int):Has K H (.int i) (.int i)
 | str (x:Str):Has K H (.str x) (.str x)
 | ref (a:Addr):Has K H (.ref a) (.ref a)
 | ty (n:String):Has K H (.ty n) (.ty n)
 | tup {a:Addr} {xs:List V} {ds:List D}:SqT K H a xs→HasL K H xs ds→Has K H (.ref a) (.tup ds)
 | vl {a:Addr} {xs:List V} {ds:List D}:((∃ o,H a=some (.frz o (.lst xs)))∨KL K a xs)→HasL K H xs ds→Has K H (.ref a) (.vl ds)
 | dic {a:Addr}:(∃ o:Obj,H a=some (.frz o (.own 0))∧o.cls = .type "dict")→Has K H (.ref a) .dic
 | exc {a:Addr} {c:Str}:(∃(o:Obj) (C:Addr),H a=some (.frz o (.own 0))∧o.cls = .ref C∧PySem.W.nsIn K mainGlobals c=some (some (.ref C)))→Has K H (.ref a) (.exc c)
inductive HasL (K:Hi) (H:Hp):List V→List D→Prop
 | nil:HasL K H [] []
 | cons {v:V} {d:D} {vs:List V} {ds:List D}:Has K H v d→HasL K H vs ds→HasL K H (v :: vs) (d :: ds)
end
structure KT0(H H':Hp):Prop where
 tp:∀ a xs,Rd H a (.tup xs)→Rd H' a (.tup xs)
 fz:∀ a o u,H a=some (.frz o u)→H' a=some (.frz o u)
structure KT(H H':Hp):Prop extends KT0 H H' where
 ex:∀ a φ,H a=some (.ext φ)→H' a=some (.ext φ)
theorem KT.refl(H:Hp):KT H H:=⟨⟨fun _ _ h=>h,fun _ _ _ h=>h⟩,fun _ _ h=>h⟩
theorem KT.trans{H H1 H2:Hp}(a:KT H H1)(b:KT H1 H2):KT H H2:=⟨⟨fun p xs h=>b.tp p xs (a.tp p xs h),fun p o xs h=>b.fz p o xs (a.fz p o xs h)⟩,fun p φ h=>b.ex p φ (a.ex p φ h)⟩
theorem KT0.sq{K:Hi}{H H':Hp}(k:KT0 H H'){a:Addr}{xs:List V}(h:SqT K H a xs):SqT K H' a xs:=h.elim (fun z=>.inl (k.tp a xs z)) .inr
theorem KT.sq{K:Hi}{H H':Hp}(k:KT H H'){a:Addr}{xs:List V}(h:SqT K H a xs):SqT K H' a xs:=k.toKT0.sq h
theorem KT0.at{H:Hp}{p:Addr}{o:HO}(h1:∀ xs,¬ Rd H p (.tup xs))(h2:∀ q u,H p≠some (.frz q u)):KT0 H (upd H p o) where
 tp:=fun a xs r=>by
  have hn:a≠p:=by intro e;subst e;exact h1 xs r
  rcases r with r|⟨q,r⟩
  ·exact .inl (by rw[g9 hn];exact r)
  ·exact .inr ⟨q,by rw[g9 hn];exact r⟩
 fz:=fun a q xs r=>by
  have hn:a≠p:=by intro e;subst e;exact h2 q xs r
  rw[g9 hn];exact r
theorem KT.at{H:Hp}{p:Addr}{o:HO}(h1:∀ xs,¬ Rd H p (.tup xs))(h2:∀ q u,H p≠some (.frz q u))(h3:∀ φ,H p≠some (.ext φ)):KT H (upd H p o):=⟨KT0.at h1 h2,fun a φ r=>by
  have hn:a≠p:=by intro e;subst e;exact h3 φ r
  rw[g9 hn];exact r⟩
theorem KT.alloc{H:Hp}{p:Addr}{o:HO}(h:H p=none):KT H (upd H p o):=KT.at (fun xs r=>by rcases r with r|⟨_,r⟩<;>(rw[h]at r;cases r)) (fun q xs r=>by rw[h]at r;cases r) fun φ r=>by rw[h]at r;cases r
theorem KT.any{H:Hp}{p:Addr}{xs:List V}{o:HO}(h:H p=some (.lst xs)):KT H (upd H p o):=KT.at (fun xs r=>by rcases r with r|⟨_,r⟩<;>(rw[h]at r;cases r)) (fun q xs r=>by rw[h]at r;cases r) fun φ r=>by rw[h]at r;cases r
theorem KT.write{H:Hp}{p:Addr}{xs ys:List V}(h:H p=some (.lst xs)):KT H (upd H p (.lst ys)):=KT.any h
theorem KT0.ext{H:Hp}{p:Addr}{φ:Heap→Prop}{o:HO}(h:H p=some (.ext φ)):KT0 H (upd H p o):=KT0.at (fun xs r=>by rcases r with r|⟨_,r⟩<;>(rw[h]at r;cases r)) fun q xs r=>by rw[h]at r;cases r
theorem KT.new{H H':Hp}{p:Addr}{o:HO}(k:KT H H')(h:H p=none):KT H (upd H' p o) where
 tp:=fun a xs r=>by
  have hn:a≠p:=by intro e;subst e;rcases r with r|⟨_,r⟩<;>(rw[h]at r;cases r)
  rcases k.tp a xs r with r|⟨q,r⟩
  ·exact .inl (by rw[g9 hn];exact r)
  ·exact .inr ⟨q,by rw[g9 hn];exact r⟩
 fz:=fun a q xs r=>by
  have hn:a≠p:=by intro e;subst e;rw[h]at r;cases r
  rw[g9 hn];exact k.fz a q xs r
 ex:=fun a φ r=>by
  have hn:a≠p:=by intro e;subst e;rw[h]at r;cases r
  rw[g9 hn];exact k.ex a φ r
mutual
theorem Has.mono0{K:Hi}{H H':Hp}(k:KT0 H H'):∀{v:V} {d:D},Has K H v d→Has K H' v d
 | _,_,.non=>.non
 | _,_,.bl b=>.bl b
 | _,_,.int i=>.int i
 | _,_,.str x=>.str x
 | _,_,.ref a=>.ref a
 | _,_,.ty n=>.ty n
 | _,_,.tup s l=>.tup (k.sq s) (HasL.mono0 k l)
 | _,_,.vl h l=>.vl (h.elim (fun⟨o,e⟩=>.inl ⟨o,k.fz _ _ _ e⟩) .inr) (HasL.mono0 k l)
 | _,_,.dic h=>.dic (let ⟨o,e,c⟩:=h;⟨o,k.fz _ _ _ e,c⟩)
 | _,_,.exc h=>.exc (let ⟨o,C,e,c⟩:=h;⟨o,C,k.fz _ _ _ e,c⟩)
theorem HasL.mono0{K:Hi}{H H':Hp}(k:KT0 H H'):∀{v:List V} {d:List D},HasL K H v d→HasL K H' v d
 | _,_,.nil=>.nil
 | _,_,.cons a b=>.cons (Has.mono0 k a) (HasL.mono0 k b)
end
theorem Has.mono{K:Hi}{H H':Hp}(k:KT H H'){v:V}{d:D}(h:Has K H v d):Has K H' v d:=h.mono0 k.toKT0
theorem HasL.mono{K:Hi}{H H':Hp}(k:KT H H'){v:List V}{d:List D}(h:HasL K H v d):HasL K H' v d:=h.mono0 k.toKT0
section
variable {K:Hi} {H H':Hp}
theorem HasL.length:∀{vs:List V} {ds:List D},HasL K H vs ds→vs.length=ds.length
 | _,_,.nil=>rfl
 | _,_,.cons _ b=>congrArg Nat.succ (HasL.length b)
theorem HasL.get:∀{vs:List V} {ds:List D} {i:Nat} {d:D},HasL K H vs ds→ds[i]? = some d→∃ v,vs[i]? = some v∧Has K H v d
 | _,_,_,_,.nil,e=>by simp at e
 | _,_,0,_,.cons a _,e=>by simp at e;subst e;exact⟨_,rfl,a⟩
 | _,_,i+1,d,.cons _ b,e=>by
  obtain⟨v,h1,h2⟩:=HasL.get (i:=i) (d:=d) b (by simpa using e)
  exact⟨v,by simpa using h1,h2⟩
theorem HasL.getV:∀{vs:List V} {ds:List D} {i:Nat} {v:V},HasL K H vs ds→vs[i]? = some v→∃ d,ds[i]? = some d∧Has K H v d
 | _,_,_,_,.nil,e=>by simp at e
 | _,_,0,_,.cons a _,e=>by simp at e;subst e;exact⟨_,rfl,a⟩
 | _,_,i+1,d,.cons _ b,e=>by
  obtain⟨v,h1,h2⟩:=HasL.getV (i:=i) (v:=d) b (by simpa using e)
  exact⟨v,by simpa using h1,h2⟩
theorem HasL.set{v:V}{d:D}(r:Has K H v d):∀{vs:List V} {ds:List D} (i:Nat),HasL K H vs ds→HasL K H (vs.set i v) (ds.set i d)
 | _,_,_,.nil=>.nil
 | _,_,0,.cons _ t=>.cons r t
 | _,_,i+1,.cons q t=>.cons q (HasL.set r i t)
theorem HasL.append:∀{xs ys:List V} {us ws:List D},HasL K H xs us→HasL K H ys ws→HasL K H (xs++ys) (us++ws)
 | _,_,_,_,.nil,s=>s
 | _,_,_,_,.cons r t,s=>.cons r (HasL.append t s)
theorem HasL.take:∀{xs:List V} {us:List D} (n:Nat),HasL K H xs us→HasL K H (xs.take n) (us.take n)
 | _,_,0,_=>.nil
 | _,_,_+1,.nil=>.nil
 | _,_,n+1,.cons r t=>.cons r (HasL.take n t)
theorem HasL.drop:∀{xs:List V} {us:List D} (n:Nat),HasL K H xs us→HasL K H (xs.drop n) (us.drop n)
 | _,_,0,r=>r
 | _,_,_+1,.nil=>.nil
 | _,_,n+1,.cons _ t=>HasL.drop n t
theorem HasL.ints:∀(ns:List Int),HasL K H (ns.map V.int) (ns.map D.int)
 | []=>.nil
 | n :: r=>.cons (.int n) (HasL.ints r)
end
inductive MO where
 | lst (ds:List D)
 | ins (c:Str) (fs:List (Str × D))
 | dic (hs:List Int × List Int→Int) (kvs:List ((List Int × List Int) × D × D))
noncomputable abbrev Mem:=Addr→Option MO
noncomputable def j9(M:Mem)(a:Addr)(o:MO):Mem:=fun b=>if b=a then some o else M b
theorem f6{M:Mem}{a:Addr}{o:MO}:j9 M a o a=some o:=by unfold j9;rw[if_pos rfl]
theorem p7{M:Mem}{a b:Addr}{o:MO}(h:b≠a):j9 M a o b=M b:=by unfold j9;rw[if_neg h]
theorem G6{M:Mem}{a:Addr}{o u:MO}:j9 (j9 M a o) a u=j9 M a u:=by
 funext b;unfold j9;by_cases h:b=a<;>simp[h]
structure lI(K:Hi)(H:Hp)(ys:List (Str × V))(fs:List (Str × D)):Prop where
 names:ys.map (·.1)=fs.map (·.1)
 has:HasL K H (ys.map (·.2)) (fs.map (·.2))
theorem lI.mono{K:Hi}{H H':Hp}(k:KT H H'){ys:List (Str × V)}{fs:List (Str × D)}(h:lI K H ys fs):lI K H' ys fs:=⟨h.names,h.has.mono k⟩
theorem lI.mono0{K:Hi}{H H':Hp}(k:KT0 H H'){ys:List (Str × V)}{fs:List (Str × D)}(h:lI K H ys fs):lI K H' ys fs:=⟨h.names,h.has.mono0 k⟩
structure cK(K:Hi)(H:Hp)(xs:List ((List Int × List Int) × Addr × V))(kvs:List ((List Int × List Int) × D × D)):Prop where
 keys:xs.map (·.1)=kvs.map (·.1)
 kd:HasL K H (xs.map fun x=>V.ref x.2.1) (kvs.map (·.2.1))
 vd:HasL K H (xs.map (·.2.2)) (kvs.map (·.2.2))
theorem cK.mono{K:Hi}{H H':Hp}(k:KT H H'){xs:List ((List Int × List Int) × Addr × V)}{kvs:List ((List Int × List Int) × D × D)}(h:cK K H xs kvs):cK K H' xs kvs:=⟨h.keys,h.kd.mono k,h.vd.mono k⟩
theorem cK.mono0{K:Hi}{H H':Hp}(k:KT0 H H'){xs:List ((List Int × List Int) × Addr × V)}{kvs:List ((List Int × List Int) × D × D)}(h:cK K H xs kvs):cK K H' xs kvs:=⟨h.keys,h.kd.mono0 k,h.vd.mono0 k⟩
noncomputable def MOk(K:Hi)(H:Hp)(a:Addr):MO→Prop
 | .lst ds=>∃ xs,H a=some (.lst xs)∧HasL K H xs ds
 | .ins c fs=>∃ C dx ys,H a=some (.ins C dx ys)∧lI K H ys fs∧PySem.W.nsIn K mainGlobals c=some (some (.ref C))
 | .dic hs kvs=>∃ xs,H a=some (.dT hs xs)∧cK K H xs kvs
def j3(K:Hi)(H:Hp)(M:Mem):Prop:=∀ a o,M a=some o→MOk K H a o
section
variable {K:Hi} {H H':Hp} {M:Mem}
theorem j3.fresh(h:j3 K H M){p:Addr}(e:H p=none):M p=none:=by
 cases q:M p with
 | none=>rfl
 | some o =>
  cases o with
  | lst ds=>obtain⟨xs,z,_⟩:=h p _ q;rw[e]at z;cases z
  | ins C fs=>obtain⟨_,dx,ys,z,_⟩:=h p _ q;rw[e]at z;cases z
  | dic hs kvs=>obtain⟨xs,z,_⟩:=h p _ q;rw[e]at z;cases z
theorem j3.alloc(h:j3 K H M){p:Addr}{u:HO}(e:H p=none):j3 K (upd H p u) M:=fun a o m=>by
 have k:KT H (upd H p u):=KT.alloc e
 cases o with
 | lst ds =>
  obtain⟨xs,z,l⟩:=h a _ m
  have hn:a≠p:=z9 z e
  exact⟨xs,by rw[g9 hn];exact z,l.mono k⟩
 | ins C fs =>
  obtain⟨C0,dx,ys,z,l,hc⟩:=h a _ m
  have hn:a≠p:=z9 z e
  exact⟨C0,dx,ys,by rw[g9 hn];exact z,l.mono k,hc⟩
 | dic hs kvs =>
  obtain⟨xs,z,l⟩:=h a _ m
  have hn:a≠p:=z9 z e
  exact⟨xs,by rw[g9 hn];exact z,l.mono k⟩
theorem j3.new(h:j3 K H M){p:Addr}{xs:List V}{ds:List D}(e:H p=none)(l:HasL K H xs ds):j3 K (upd H p (.lst xs)) (j9 M p (.lst ds)):=fun a o m=>by
 by_cases q:a=p
 ·subst q
  rw[f6]at m;cases m
  exact⟨xs,i4,l.mono (KT.alloc e)⟩
 ·rw[p7 q]at m
  exact h.alloc e a o m
theorem j3.write(h:j3 K H M){p:Addr}{xs ys:List V}{ds:List D}(e:H p=some (.lst xs))(l:HasL K H ys ds):j3 K (upd H p (.lst ys)) (j9 M p (.lst ds)):=fun a o m=>by
 have k:KT H (upd H p (.lst ys)):=KT.write e
 by_cases q:a=p
 ·subst q
  rw[f6]at m;cases m
  exact⟨ys,i4,l.mono k⟩
 ·rw[p7 q]at m
  cases o with
  | lst es =>
   obtain⟨zs,z,l⟩:=h a _ m
   exact⟨zs,by rw[g9 q];exact z,l.mono k⟩
  | ins C fs =>
   obtain⟨C0,dx,zs,z,l,hc⟩:=h a _ m
   exact⟨C0,dx,zs,by rw[g9 q];exact z,l.mono k,hc⟩
  | dic hs kvs =>
   obtain⟨zs,z,l⟩:=h a _ m
   exact⟨zs,by rw[g9 q];exact z,l.mono k⟩
theorem j3.lst(h:j3 K H M){a:Addr}{ds:List D}(m:M a=some (.lst ds)):∃ xs,H a=some (.lst xs)∧HasL K H xs ds:=h a _ m
end
noncomputable abbrev Ev:=List (Option D)
structure t5(K:Hi)(H:Hp)(σ:St)(e:Ev):Prop where
 len:σ.length=e.length
 has:∀(i:Nat) (d:D),e[i]? = some (some d)→∃ v,σ[i]? = some (some v)∧Has K H v d
section
variable {K:Hi} {H H':Hp} {σ:St} {e:Ev}
theorem t5.mono(k:KT H H')(h:t5 K H σ e):t5 K H' σ e:=⟨h.len,fun i d z=>let ⟨v,a,b⟩:=h.has i d z;⟨v,a,b.mono k⟩⟩
theorem t5.set(h:t5 K H σ e){v:V}{d:D}(r:Has K H v d)(i:Nat):t5 K H (σ.set i (some v)) (e.set i (some d)):=by
 refine⟨by simp[h.len],fun j x z=>?_⟩
 rw[List.getElem?_set]at z ⊢
 by_cases q:i=j
 ·subst q
  rw[if_pos rfl]at z ⊢
  by_cases l:i<e.length
  ·rw[if_pos l]at z
   rw[if_pos (by rw[h.len];exact l)]
   cases z
   exact⟨v,rfl,r⟩
  ·rw[if_neg l]at z;cases z
 ·rw[if_neg q]at z ⊢
  exact h.has j x z
end
noncomputable def Q0(N:List Str)(ds:List D):Ev:=ds.map some++IJ (N.length - ds.length) none
theorem t5.start0{K:Hi}{H:Hp}{N:List Str}{vs:List V}{ds:List D}(h:HasL K H vs ds):t5 K H (L2.start N vs) (Q0 N ds):=by
 have hl:=h.length
 refine⟨by simp[L2.start,Q0,hl],fun i d z=>?_⟩
 unfold Q0 at z
 unfold L2.start
 rw[Jx]at z ⊢
 simp only[Hk]at z ⊢
 rw[hl]
 by_cases q:i<ds.length
 ·rw[if_pos q]at z ⊢
  rw[HK]at z ⊢
  cases e:ds[i]? with
  | none=>rw[e]at z;cases z
  | some x =>
   rw[e]at z
   have z':x=d:=by simpa using z
   subst z'
   obtain⟨v,a,b⟩:=h.get e
   exact⟨v,by rw[a];rfl,b⟩
 ·rw[if_neg q]at z
  rw[Ir]at z
  split at z<;>cases z
noncomputable abbrev DK:=D→Mem→Prop
noncomputable abbrev DTE:=Ev→Mem→DK→Prop
noncomputable abbrev DTT:=Ev→Mem→(Bool→Mem→Prop)→Prop
noncomputable abbrev DTA:=Ev→Mem→(List D→Mem→Prop)→Prop
structure S7 where
 nx:Ev→Mem→Prop
 rt:DK
 bk:Ev→Mem→Prop:=fun _ _=>False
 ct:Ev→Mem→Prop:=fun _ _=>False
noncomputable abbrev DTS:=S7→Ev→Mem→Prop
def cL(K:Hi)(H:Hp)(R:DK)(Q:VK):Prop:=∀ d M',R d M'→∀ v H',KT H H'→j3 K H' M'→Has K H' v d→Q v H'
def uf(K:Hi)(H:Hp)(R:Bool→Mem→Prop)(Q:Bool→Hp→Prop):Prop:=∀ b M',R b M'→∀ H',KT H H'→j3 K H' M'→Q b H'
def xu(K:Hi)(H:Hp)(R:List D→Mem→Prop)(Q:List V→Hp→Prop):Prop:=∀ ds M',R ds M'→∀ vs H',KT H H'→j3 K H' M'→HasL K H' vs ds→Q vs H'
def kb(K:Hi)(H:Hp)(R:Ev→Mem→Prop)(Q:St→Hp→Prop):Prop:=∀ e M',R e M'→∀ σ H',KT H H'→j3 K H' M'→t5 K H' σ e→Q σ H'
structure Fit(K:Hi)(H:Hp)(F:S7)(E:kc):Prop where
 nx:kb K H F.nx E.nx
 rt:cL K H F.rt E.rt
 bk:kb K H F.bk E.bk
 ct:kb K H F.ct E.ct
section
variable {K:Hi} {H H':Hp}
theorem cL.mono{R:DK}{Q:VK}(h:cL K H R Q)(k:KT H H'):cL K H' R Q:=fun d M r v H2 k2 a b=>h d M r v H2 (k.trans k2) a b
theorem uf.mono{R:Bool→Mem→Prop}{Q:Bool→Hp→Prop}(h:uf K H R Q)(k:KT H H'):uf K H' R Q:=fun d M r H2 k2 a=>h d M r H2 (k.trans k2) a
theorem xu.mono{R:List D→Mem→Prop}{Q:List V→Hp→Prop}(h:xu K H R Q)(k:KT H H'):xu K H' R Q:=fun d M r v H2 k2 a b=>h d M r v H2 (k.trans k2) a b
theorem kb.mono{R:Ev→Mem→Prop}{Q:St→Hp→Prop}(h:kb K H R Q)(k:KT H H'):kb K H' R Q:=fun d M r v H2 k2 a b=>h d M r v H2 (k.trans k2) a b
theorem Fit.mono{F:S7}{E:kc}(h:Fit K H F E)(k:KT H H'):Fit K H' F E:=⟨h.nx.mono k,h.rt.mono k,h.bk.mono k,h.ct.mono k⟩
end
def up(K:Hi)(t:DTE):TE:=fun σ H Q=>∃ e M R,t5 K H σ e∧j3 K H M∧t e M R∧cL K H R Q
def upT(K:Hi)(t:DTT):TT:=fun σ H Q=>∃ e M R,t5 K H σ e∧j3 K H M∧t e M R∧uf K H R Q
def upA(K:Hi)(t:DTA):TA:=fun σ H Q=>∃ e M R,t5 K H σ e∧j3 K H M∧t e M R∧xu K H R Q
def upS(K:Hi)(t:DTS):TS:=fun E σ H=>∃ e M F,t5 K H σ e∧j3 K H M∧t F e M∧Fit K H F E
abbrev DPE(X:Cx)(x:Expr)(t:DTE):Prop:=PE X x (up X.K t)
abbrev DPT(X:Cx)(x:Expr)(t:DTT):Prop:=PT X x (upT X.K t)
abbrev DPW(X:Cx)(x:Expr)(t:DTT):Prop:=PW X x (upT X.K t)
abbrev DPA(X:Cx)(x:List Expr)(t:DTA):Prop:=PA X x (upA X.K t)
abbrev DPS(X:Cx)(x:Stmt)(t:DTS):Prop:=PS X x (upS X.K t)
abbrev Fj(X:Cx)(x:List Stmt)(t:DTS):Prop:=PSs X x (upS X.K t)
structure JE(X:Cx)(x:Expr)(t:DTE):Prop where
 out:DPE X x t
structure JT(X:Cx)(x:Expr)(t:DTT):Prop where
 out:DPT X x t
structure JW(X:Cx)(x:Expr)(t:DTT):Prop where
 out:DPW X x t
structure JA(X:Cx)(x:List Expr)(t:DTA):Prop where
 out:DPA X x t
structure JS(X:Cx)(x:Stmt)(t:DTS):Prop where
 out:DPS X x t
structure JSs(X:Cx)(x:List Stmt)(t:DTS):Prop where
 out:Fj X x t
section
variable {X:Cx} {a b c:Expr} {ta tb tc:DTE} {pos:Pos}
def X5(i:Nat):DTE:=fun e M R=>∃ d,e[i]? = some (some d)∧R d M
def dC(d:D):DTE:=fun _ M R=>R d M
theorem d6(i:Nat){x:Str}{pos:Pos}(hN:X.N[i]? = some x:=by rfl)(hv:Vis X.env.scope x:=by first|exact Or.inl rfl|exact Or.inr (Or.inl rfl)|exact Or.inr (Or.inr rfl))(hd:(x == ("__debug__" : Str))=false:=by decide)
  (hcd:(x == ("__classdict__" : Str))=false:=by decide):JE X (.Name x pos) (X5 i):=⟨(Ak hN hv hd hcd).imp (by
  rintro σ H Q ⟨e,M,R,ok,am,⟨d,z,r⟩,f⟩
  obtain⟨v,h1,h2⟩:=ok.has i d z
  exact⟨v,h1,f d M r v H (KT.refl H) am h2⟩)⟩
theorem aU{v:V}{d:D}(h:PE X a (tC v))(r:∀ H,Has X.K H v d):DPE X a (dC d) :=
 h.imp (by rintro σ H Q ⟨e,M,R,ok,am,z,f⟩;exact f d M z v H (KT.refl H) am (r H))
theorem d7{i j pos}:JE X (.Constant (.int i) j pos) (dC (.int i)):=⟨aU Ap fun _=>.int i⟩
theorem J4{b j pos}:JE X (.Constant (.bool b) j pos) (dC (.bl b)):=⟨aU CT fun _=>.bl b⟩
theorem cm{j pos}:JE X (.Constant .none j pos) (dC .non):=⟨aU Ao fun _=>.non⟩
noncomputable abbrev DR2:=D→D→Mem→DK→Prop
def upR(K:Hi)(g:DR2):R2:=fun x y H Q=>∃ dx dy M R,Has K H x dx∧Has K H y dy∧j3 K H M∧g dx dy M R∧cL K H R Q
def DOp(X:Cx)(f:Value→Value→Sem Value)(g:DR2):Prop:=OpR X f (upR X.K g)
def dOp(g:DR2)(ta tb:DTE):DTE:=fun e M R=>ta e M fun x M1=>tb e M1 fun y M2=>g x y M2 R
theorem eQ{ta tb:DTE}{g:DR2}{σ:St}{H:Hp}{Q:VK}(h:up X.K (dOp g ta tb) σ H Q):tOp (upR X.K g) (up X.K ta) (up X.K tb) σ H Q:=by
 obtain⟨e,M,R,ok,am,t,f⟩:=h
 refine⟨e,M,_,ok,am,t,fun x M1 h1 v H1 k1 a1 r1=>?_⟩
 refine⟨e,M1,_,ok.mono k1,a1,h1,fun y M2 h2 u H2 k2 a2 r2=>?_⟩
 exact⟨x,y,M2,R,r1.mono k2,r2,a2,h2,f.mono (k1.trans k2)⟩
theorem e8{op:Operator}{g:DR2}(ho:DOp X (binaryOp op) g)(ha:JE X a ta)(hb:JE X b tb):JE X (.BinOp a op b pos) (dOp g ta tb):=⟨have ha:=ha.out;have hb:=hb.out;(yp ho ha hb).imp fun _ _ _ h=>eQ h⟩
theorem AO{op:CmpOp}{g:DR2}(ho:DOp X (compareOp op) g)(ha:JE X a ta)(hb:JE X b tb)(hm:behindInMarks op b=false):JE X (.Compare a [op] [b] pos) (dOp g ta tb):=⟨have ha:=ha.out;have hb:=hb.out;(wc ho ha hb hm).imp fun _ _ _ h=>eQ h⟩
def nO(t:DTE):DTT:=fun e M R=>t e M fun x M'=>∃ k,x = .bl k∧R k M'
theorem iG{K:Hi}{H:Hp}{R:Bool→Mem→Prop}{Q:Bool→Hp→Prop}(f:uf K H R Q):cL K H (fun x M'=>∃ k,x = .bl k∧R k M') (fun x H'=>∃ k,x = .bl k∧Q k H'):=by
 rintro d M' ⟨k,rfl,r⟩ v H' kt am h
 cases h
 exact⟨k,rfl,f k M' r H' kt am⟩
theorem wO{op:CmpOp}{g:DR2}(ho:DOp X (compareOp op) g)(ha:JE X a ta)(hb:JE X b tb)(hm:behindInMarks op b=false):JT X (.Compare a [op] [b] pos) (nO (dOp g ta tb)):=⟨have ha:=ha.out;have hb:=hb.out;(vP ho ha hb hm).imp (by rintro σ H Q ⟨e,M,R,ok,am,t,f⟩;exact eQ (Q:=fun x H'=>∃ k,x = .bl k∧Q k H') ⟨e,M,_,ok,am,t,iG f⟩)⟩
theorem C7{x:Expr}{t:DTE}(h:JE X x t)(he:∀ whole,isTrue x X.env whole=(do let v ← whole;standAt x.pos;holding [v] (truthy v)):=by intro _;rfl):JT X x (nO t):=⟨have h:=h.out;(Aa h he).imp (by rintro σ H Q ⟨e,M,R,ok,am,t,f⟩;exact⟨e,M,_,ok,am,t,iG f⟩)⟩
noncomputable def fI(f:Int→Int→D):D→D→Option D
 | .int i,.int j=>some (f i j)
 | _,_=>none
def gF(f:D→D→Option D):DR2:=fun x y M R=>∃ z,f x y=some z∧R z M
def gI(C:Int→Int→Prop)(f:Int→Int→D):DR2:=fun x y M R=>∃ i j,x = .int i∧y = .int j∧C i j∧R (f i j) M
theorem gv{f:Int→Int→D}{x y z:D}(h:fI f x y=some z):∃ i j,x = .int i∧y = .int j∧z=f i j:=by
 cases x with
 | int i =>
  cases y with
  | int j=>exact⟨i,j,rfl,rfl,(Option.some.inj h).symm⟩
  | _=>cases h
 | _=>cases h
theorem jL{f:Value→Value→Sem Value}{C:Int→Int→Prop}{g:Int→Int→V}{g':Int→Int→D}(h:OpR X f (rI C g))(hg:∀ i j H,Has X.K H (g i j) (g' i j)):DOp X f (gI C g') :=
 OpR.imp h (by
  rintro x y H Q ⟨dx,dy,M,R,hx,hy,am,⟨i,j,e1,e2,hc,r⟩,f⟩
  subst e1;subst e2
  cases hx;cases hy
  exact⟨i,j,rfl,rfl,hc,f _ M r _ H (KT.refl H) am (hg i j H)⟩)
theorem cC{f:Value→Value→Sem Value}{g:Int→Int→V}{g':Int→Int→D}(h:OpR X f (rI0 g))(hg:∀ i j H,Has X.K H (g i j) (g' i j)):DOp X f (gF (fI g')) :=
 OpR.imp h (by
  rintro x y H Q ⟨dx,dy,M,R,hx,hy,am,⟨z,e,r⟩,f⟩
  obtain⟨i,j,e1,e2,e3⟩:=gv e
  subst e1;subst e2;subst e3
  cases hx;cases hy
  exact⟨i,j,rfl,rfl,f _ M r _ H (KT.refl H) am (hg i j H)⟩)
theorem A6:DOp X (binaryOp .Add) (gF (fI fun i j=>.int (i+j))):=cC Ay fun _ _ _=>.int _
theorem B7:DOp X (binaryOp .Sub) (gF (fI fun i j=>.int (i - j))):=cC As fun _ _ _=>.int _
theorem de:DOp X (compareOp .Lt) (gF (fI fun i j=>.bl (decide (i<j)))):=cC CW fun _ _ _=>.bl _
theorem Dh:DOp X (compareOp .LtE) (gF (fI fun i j=>.bl (decide (i≤j)))):=cC CY fun _ _ _=>.bl _
theorem bW:DOp X (compareOp .Gt) (gF (fI fun i j=>.bl (decide (j<i)))):=cC CZ fun _ _ _=>.bl _
theorem F3:DOp X (binaryOp .Mod) (gI (fun _ j=>0<j) fun i j=>.int (i % j)):=jL Av fun _ _ _=>.int _
theorem nk:DOp X (binaryOp .Pow) (gI uk fun i j=>.int (i ^ j.toNat)):=jL Au fun _ _ _=>.int _
noncomputable def gU(f:Int→D):D→Mem→DK→Prop:=fun x M R=>∃ i,x = .int i∧R (f i) M
def dUn(g:D→Mem→DK→Prop)(ta:DTE):DTE:=fun e M R=>ta e M fun x M1=>g x M1 R
theorem U6(ha:JE X a ta):JE X (.UnaryOp .USub a pos) (dUn (gU fun i=>.int (-i)) ta):=⟨have ha:=ha.out;(CO zr ha).imp (by rintro σ H Q ⟨e,M,R,ok,am,t,f⟩;exact⟨e,M,_,ok,am,t,fun x M1 ⟨i,z,r⟩ v H1 k1 a1 r1=>by
  subst z;cases r1;exact⟨i,rfl,f _ M1 r _ H1 k1 a1 (.int _)⟩⟩)⟩
variable {tA tB':DTT} {B0:List Expr}
def Eb(t u:DTT):DTT:=fun e M R=>t e M fun c M1=>if c=true then u e M1 R else R false M1
def dOr(t u:DTT):DTT:=fun e M R=>t e M fun c M1=>if c=true then R true M1 else u e M1 R
def DU(t:DTT):DTT:=fun e M R=>t e M fun c M1=>R (!c) M1
theorem F6(ha:JT X a tA):JW X (.BoolOp .And [a] pos) tA:=⟨have ha:=ha.out;vO ha⟩
theorem cg(ha:JT X a tA):JW X (.BoolOp .Or [a] pos) tA:=⟨have ha:=ha.out;zX ha⟩
theorem P8(ha:JT X a tA)(hb:JW X (.BoolOp .And (b :: B0) pos) tB'):JW X (.BoolOp .And (a :: b :: B0) pos) (Eb tA tB'):=⟨have ha:=ha.out;have hb:=hb.out;(zY ha hb).imp (by rintro σ H Q ⟨e,M,R,ok,am,t,f⟩;exact⟨e,M,_,ok,am,t,fun k M1 h1 H1 k1 a1=>by
  cases k with
  | true=>exact⟨e,M1,R,ok.mono k1,a1,h1,f.mono k1⟩
  | false=>exact f false M1 h1 H1 k1 a1⟩)⟩
theorem cj(ha:JT X a tA)(hb:JW X (.BoolOp .Or (b :: B0) pos) tB'):JW X (.BoolOp .Or (a :: b :: B0) pos) (dOr tA tB'):=⟨have ha:=ha.out;have hb:=hb.out;(CM ha hb).imp (by rintro σ H Q ⟨e,M,R,ok,am,t,f⟩;exact⟨e,M,_,ok,am,t,fun k M1 h1 H1 k1 a1=>by
  cases k with
  | true=>exact f true M1 h1 H1 k1 a1
  | false=>exact⟨e,M1,R,ok.mono k1,a1,h1,f.mono k1⟩⟩)⟩
theorem Z1(ha:JT X a tA):JT X (.UnaryOp .Not a pos) (DU tA):=⟨have ha:=ha.out;(Ab ha).imp (by rintro σ H Q ⟨e,M,R,ok,am,t,f⟩;exact⟨e,M,_,ok,am,t,fun k M1 h1 H1 k1 a1=>f (!k) M1 h1 H1 k1 a1⟩)⟩
theorem J3{x:Expr}{t:DTT}(h:JW X x t):JT X x t:=⟨have h:=h.out;PW.pt h⟩
def yK(ta tb:DTE):DTE:=fun e M R=>ta e M fun x M1=>∃ c,x = .bl c∧if c=true then tb e M1 R else R (.bl false) M1
def yE(ta:DTE):DTE:=fun e M R=>ta e M fun x M1=>∃ c,x = .bl c∧R (.bl (!c)) M1
theorem wL{op}{t:DTE}(h:JE X a t):JE X (.BoolOp op [a] pos) t:=⟨have h:=h.out;Am h⟩
theorem wN(ha:JE X a ta)(hb:JE X (.BoolOp .And (b :: B0) pos) tb):JE X (.BoolOp .And (a :: b :: B0) pos) (yK ta tb):=⟨have ha:=ha.out;have hb:=hb.out;(Aq ha hb).imp (by rintro σ H Q ⟨e,M,R,ok,am,t,f⟩;exact⟨e,M,_,ok,am,t,fun x M1 ⟨k,z,h1⟩ v H1 k1 a1 r1=>by
  subst z;cases r1
  refine⟨k,rfl,?_⟩
  cases k with
  | true=>exact⟨e,M1,R,ok.mono k1,a1,h1,f.mono k1⟩
  | false=>exact f _ M1 h1 _ H1 k1 a1 (.bl _)⟩)⟩
theorem wM(ha:JE X a ta):JE X (.UnaryOp .Not a pos) (yE ta):=⟨have ha:=ha.out;(An ha).imp (by rintro σ H Q ⟨e,M,R,ok,am,t,f⟩;exact⟨e,M,_,ok,am,t,fun x M1 ⟨k,z,h1⟩ v H1 k1 a1 r1=>by
  subst z;cases r1
  exact⟨k,rfl,f _ M1 h1 _ H1 k1 a1 (.bl _)⟩⟩)⟩
def dIf(t:DTT)(ta tb:DTE):DTE:=fun e M R=>t e M fun c M1=>if c=true then ta e M1 R else tb e M1 R
theorem sO(hc:JT X c tA)(ha:JE X a ta)(hb:JE X b tb):JE X (.IfExp c a b pos) (dIf tA ta tb):=⟨have hc:=hc.out;have ha:=ha.out;have hb:=hb.out;(rP hc ha hb).imp (by rintro σ H Q ⟨e,M,R,ok,am,t,f⟩;exact⟨e,M,_,ok,am,t,fun k M1 h1 H1 k1 a1=>by
  cases k with
  | true=>exact⟨e,M1,R,ok.mono k1,a1,h1,f.mono k1⟩
  | false=>exact⟨e,M1,R,ok.mono k1,a1,h1,f.mono k1⟩⟩)⟩
def Bh:DTA:=fun _ M R=>R [] M
def nQ(ta:DTE)(tr:DTA):DTA:=fun e M R=>ta e M fun x M1=>tr e M1 fun xs M2=>R (x :: xs) M2
variable {es:List Expr} {tr:DTA}
theorem d8:JA X [] Bh:=⟨Ar.imp (by rintro σ H Q ⟨e,M,R,ok,am,t,f⟩;exact f [] M t [] H (KT.refl H) am .nil)⟩
theorem d5(ha:JE X a ta)(hr:JA X es tr)(hs:starEach (a :: es) X.env=(false,eval a X.env) :: starEach es X.env:=by rfl):JA X (a :: es) (nQ ta tr):=⟨have ha:=ha.out;have hr:=hr.out;(wg ha hr hs).imp (by rintro σ H Q ⟨e,M,R,ok,am,t,f⟩;exact⟨e,M,_,ok,am,t,fun x M1 h1 v H1 k1 a1 r1 =>
  ⟨e,M1,_,ok.mono k1,a1,h1,fun xs M2 h2 vs H2 k2 a2 r2=>f _ M2 h2 _ H2 (k1.trans k2) a2 (.cons (r1.mono k2) r2)⟩⟩)⟩
def DQ(t:DTA):DTE:=fun e M R=>t e M fun ds M1=>ds.length≤sizeLine∧R (.tup ds) M1
def DV(t:DTA):DTE:=fun e M R=>t e M fun ds M1=>ds.length≤sizeLine∧∀ p,M1 p=none→R (.ref p) (j9 M1 p (.lst ds))
theorem m5{x1}(h:JA X es tr):JE X (.Tuple es x1 pos) (DQ tr):=⟨have h:=h.out;(Al h).imp (by rintro σ H Q ⟨e,M,R,ok,am,t,f⟩;exact⟨e,M,_,ok,am,t,fun ds M1 ⟨hz,h1⟩ vs H1 k1 a1 r1=>by
  refine⟨by rw[r1.length];exact hz,fun p hp=>?_⟩
  have k2:KT H1 (upd H1 p (.tup vs)):=KT.alloc hp
  exact f _ M1 h1 _ _ (k1.trans k2) (a1.alloc hp) (.tup (SqT.of i4) (r1.mono k2))⟩)⟩
theorem gm(h:JA X es tr):JE X (.List es pos) (DV tr):=⟨have h:=h.out;(rO h).imp (by rintro σ H Q ⟨e,M,R,ok,am,t,f⟩;exact⟨e,M,_,ok,am,t,fun ds M1 ⟨hz,h1⟩ vs H1 k1 a1 r1=>by
  refine⟨by rw[r1.length];exact hz,fun p hp=>?_⟩
  have k2:KT H1 (upd H1 p (.lst vs)):=KT.alloc hp
  exact f _ _ (h1 p (a1.fresh hp)) _ _ (k1.trans k2) (a1.new hp r1) (.ref p)⟩)⟩
theorem HasL.at{K:Hi}{H:Hp}{vs:List V}{ds:List D}(h:HasL K H vs ds){i:Int}{z:D}(e:atI ds i=some z):∃ v,atI vs i=some v∧Has K H v z:=by
 unfold atI at e ⊢
 rw[h.length]
 cases q:ixN ds.length i with
 | none=>rw[q]at e;cases e
 | some j =>
  rw[q]at e
  exact h.get e
def DIx(X:Cx)(g:DR2):Prop:=IxR X (upR X.K g)
theorem Ds{g:DR2}(hr:DIx X g)(ha:JE X a ta)(hb:JE X b tb)(hs:gN b):JE X (.Subscript a b pos) (dOp g ta tb):=⟨have ha:=ha.out;have hb:=hb.out;(CQ hr ha hb hs).imp fun _ _ _ h=>eQ h⟩
noncomputable abbrev DXK:=Value→Mem→Prop
noncomputable abbrev DSp:=List D→Mem→DK→DXK→Prop
def BD(K:Hi)(H:Hp)(Y:DXK)(E:XK):Prop:=∀ c M',Y c M'→∀ o H',KT H H'→j3 K H' M'→E c o H'
noncomputable def iC(K:Hi)(sp:DSp):Sp:=fun vs H Q E=>∃ ds M R Y,HasL K H vs ds∧j3 K H M∧sp ds M R Y∧cL K H R Q∧BD K H Y E
def jN(sp:DSp)(dds:List D)(Y:DXK)(t:DTA):DTE:=fun e M R=>t e M fun ds M1=>sp (ds++dds) M1 R Y
end
section
variable {X:Cx} {CX:CXT} {k:Nat} {f C:Addr} {fd:FuncData} {ps:List Str} {sp:DSp} {dvs:List V} {dds:List D} {ds:List Value} {E:XK} {Y:DXK} {x m:Str} {p pos apos:Pos} {e o:Expr} {es:List Expr} {t:DTA}
theorem Be(F:N3 X.prog X.w X.K X.mg X.base CX k f fd ps (iC X.K sp))(hr:D3 k X.A)(hg:Gl X x)(hm:X.mg x=some (.ref f))(hk:PySem.W.keepIn X.K (.ref f)=true)(hb:cM X.K fd ps ds)(hd:i6 dvs ds)(hdd:∀ H,HasL X.K H dvs dds)(hx:gO CX X E)(hY:∀ H,BD X.K H Y E)
  (ha:DPA X (e :: es) t) (hdb:(x == ("__debug__" : Str))=false:=by decide) (he:starEach (e :: es) X.env=(false,eval e X.env) :: starEach es X.env:=by rfl) (hpl:(backTo pos (starEach es X.env)).any (·.1)=false:=by rfl) :
  DPE X (.Call (.Name x p) (e :: es) [] pos) (jN sp dds Y t) :=
 (wd F hr hg hm hk hb hd hx ha hdb he hpl).imp (by rintro σ H Q ⟨e,M,R,ok,am,t,f⟩;exact⟨e,M,_,ok,am,t,fun xs M1 h1 vs H1 k1 a1 r1 =>
  ⟨xs++dds,M1,R,Y,r1.append (hdd H1),a1,h1,f.mono k1,hY H1⟩⟩)
end
section
variable {X:Cx} {st:Stmt} {B0:List Stmt} {t u:DTS} {e:Expr} {te:DTE} {pos:Pos}
def yF:DTS:=fun F e M=>F.nx e M
def DS(t u:DTS):DTS:=fun F e M=>t { F with nx:=u F } e M
theorem h9:JSs X [] yF:=⟨vR.imp (by rintro E σ H ⟨e,M,F,ok,am,t,f⟩;exact f.nx e M t σ H (KT.refl H) am ok)⟩
theorem d9(h1:JS X st t)(h2:JSs X B0 u):JSs X (st :: B0) (DS t u):=⟨have h1:=h1.out;have h2:=h2.out;(jb h1 h2).imp (by rintro E σ H ⟨e,M,F,ok,am,t,f⟩;exact⟨e,M,{ F with nx:=u F },ok,am,t,⟨fun e' M' h σ' H' k a o=>⟨e',M',F,o,a,h,f.mono k⟩,f.rt,f.bk,f.ct⟩⟩)⟩
theorem e5(h1:JS X st t):JSs X [st] t:=⟨have h1:=h1.out;vQ h1⟩
def yH(te:DTE):DTS:=fun F e M=>te e M fun _ M1=>F.nx e M1
theorem P7(he:JE X e te)(hs:swapsWith e none pos.line X.env=pure false:=by rfl):JS X (.Expr e pos) (yH te):=⟨have he:=he.out;(vT he hs).imp (by rintro E σ H ⟨e,M,F,ok,am,t,f⟩;exact⟨e,M,_,ok,am,t,fun d M1 h1 v H1 k1 a1 r1=>f.nx e M1 h1 σ H1 k1 a1 (ok.mono k1)⟩)⟩
def Bg(te:DTE):DTS:=fun F e M=>te e M F.rt
theorem e7(he:JE X e te):JS X (.Return (some e) pos) (Bg te):=⟨have he:=he.out;(Ad he).imp (by rintro E σ H ⟨e,M,F,ok,am,t,f⟩;exact⟨e,M,_,ok,am,t,f.rt⟩)⟩
def DX(c:DTT)(t u:DTS):DTS:=fun F e M=>c e M fun b M1=>if b=true then t F e M1 else u F e M1
theorem i5{c:Expr}{a b:List Stmt}{tc:DTT}(hc:JT X c tc)(ha:JSs X a t)(hb:JSs X b u):JS X (.If c a b pos) (DX tc t u):=⟨have hc:=hc.out;have ha:=ha.out;have hb:=hb.out;(CN hc ha hb).imp (by rintro E σ H ⟨e,M,F,ok,am,t,f⟩;exact⟨e,M,_,ok,am,t,fun k M1 h1 H1 k1 a1=>by
  cases k with
  | true=>exact⟨e,M1,F,ok.mono k1,a1,h1,f.mono k1⟩
  | false=>exact⟨e,M1,F,ok.mono k1,a1,h1,f.mono k1⟩⟩)⟩
def tL:DTS:=fun _ _ _=>False
theorem oJ:JS X st tL:=⟨rJ.imp (by rintro E σ H ⟨_,_,_,_,_,t,_⟩;exact t)⟩
noncomputable abbrev DTG:=D→Ev→Mem→(Ev→Mem→Prop)→Prop
noncomputable abbrev Q6:=List D→Ev→Mem→(Ev→Mem→Prop)→Prop
def upG(K:Hi)(g:DTG):TG:=fun v σ H Q=>∃ d e M R,Has K H v d∧t5 K H σ e∧j3 K H M∧g d e M R∧kb K H R Q
def Ep(K:Hi)(g:Q6):TGs:=fun vs σ H Q=>∃ ds e M R,HasL K H vs ds∧t5 K H σ e∧j3 K H M∧g ds e M R∧kb K H R Q
abbrev DPG(X:Cx)(x:Expr)(g:DTG):Prop:=PG X x (upG X.K g)
abbrev Fl(X:Cx)(x:List Expr)(g:Q6):Prop:=PGs X x (Ep X.K g)
structure JG(X:Cx)(x:Expr)(g:DTG):Prop where
 out:DPG X x g
structure JGs(X:Cx)(x:List Expr)(g:Q6):Prop where
 out:Fl X x g
def Z3(i:Nat):DTG:=fun d e M R=>R (e.set i (some d)) M
theorem sL{i:Nat}{x:Str}(hN:X.N.Nodup)(hi:X.N[i]? = some x)(hx:Loc X.env.scope x)(hf:X.fn x=true∨X.env.scope.names.lookup x=some .local:=by first|exact .inl rfl|exact .inr rfl|assumption):JG X (.Name x pos) (Z3 i):=⟨PG.imp (wa hN hi hx hf) (by rintro v σ H Q ⟨d,e,M,R,r,ok,am,g,f⟩;exact f _ M g _ H (KT.refl H) am (ok.set r i))⟩
def yB:Q6:=fun ds e M R=>ds=[]∧R e M
def tI(t:DTG)(u:Q6):Q6:=fun ds e M R=>∃ d r,ds=d :: r∧t d e M fun e' M'=>u r e' M' R
theorem E7:JGs X [] yB:=⟨PGs.imp vY (by
 rintro v σ H Q ⟨ds,e,M,R,r,ok,am,⟨z,g⟩,f⟩
 subst z;cases r;exact⟨rfl,f e M g σ H (KT.refl H) am ok⟩)⟩
end
section
variable {X:Cx} {st:Stmt} {B0:List Stmt} {t u:DTS} {e:Expr} {te:DTE} {pos:Pos}
theorem i7{x:Expr}{xs:List Expr}{t:DTG}{u:Q6}(h1:JG X x t)(h2:JGs X xs u)
  (hs:(assignEach (x :: xs) X.env).map (·.2)=assign x X.env :: (assignEach xs X.env).map (·.2):=by rfl):JGs X (x :: xs) (tI t u):=⟨have h1:=h1.out;have h2:=h2.out;PGs.imp (rM h1 h2 hs) (by
  rintro vs σ H Q ⟨ds,e,M,R,r,ok,am,⟨d,dr,z,g⟩,f⟩
  subst z
  cases r with
  | cons r rr=>exact⟨_,_,rfl,d,e,M,_,r,ok,am,g,fun e1 M1 h1 σ1 H1 k1 a1 ok1=>⟨dr,e1,M1,R,rr.mono k1,ok1,a1,h1,f.mono k1⟩⟩)⟩
def jM(n:Nat)(t:Q6):DTG:=fun d e M R=>∃ ds,d = .tup ds∧ds.length=n∧t ds e M R
theorem S1{xs:List Expr}{k:Nat}{t:Q6}{n:Nat}(hc:X.calm=true)(h:JGs X xs t)
  (hn:(assignEach xs X.env).length=n:=by rfl) (hst:(assignEach xs X.env).findIdx? (·.1)=none:=by rfl):JG X (.Tuple xs k pos) (jM n t):=⟨have h:=h.out;PG.imp (Aj hc h hn hst) (by
  rintro v σ H Q ⟨d,e,M,R,r,ok,am,⟨ds,z,hl,g⟩,f⟩
  subst z
  cases r with
  | tup s l=>exact⟨_,_,rfl,s,by rw[l.length];exact hl,ds,e,M,R,l,ok,am,g,f⟩)⟩
noncomputable abbrev nW:=D→D→D→Mem→(Mem→Prop)→Prop
noncomputable def yv:nW:=fun o i v M R=>∃ p ds k j,o = .ref p∧i = .int k∧M p=some (.lst ds)∧ixN ds.length k=some j∧R (j9 M p (.lst (ds.set j v)))
def tH(to ti:DTE)(t:nW):DTG:=fun d e M R=>to e M fun o M1=>ti e M1 fun i M2=>t o i d M2 fun M3=>R e M3
theorem gk{o i:Expr}{to ti:DTE}(ho:JE X o to)(hi:JE X i ti)
  (ha:∀ v,assign (.Subscript o i pos) X.env v=(do
   let ov ← holding [v] (eval o X.env)
   let iv ← holding [v,ov] (eval i X.env)
   standAt pos
   holding [v,ov,iv] (setItem ov iv v)
   release [v,ov,iv] []):=by intro _;rfl):JG X (.Subscript o i pos) (tH to ti yv):=⟨have ho:=ho.out;have hi:=hi.out;PG.imp (rN ho hi qV ha) fun v σ H Q ⟨d,e,M,R,r,ok,am,g,f⟩ =>
  ⟨e,M,_,ok,am,g,fun x M1 h1 vo H1 k1 a1 r1=>⟨e,M1,_,ok.mono k1,a1,h1,fun y M2 ⟨p,ds,k,j,e1,e2,e3,e4,h2⟩ vi H2 k2 a2 r2=>by
   subst e1;subst e2
   cases r1;cases r2
   obtain⟨xs,hx,l⟩:=a2.lst e3
   have kt:KT H H2:=k1.trans k2
   have kw:KT H2 (upd H2 p (.lst (xs.set j v))):=KT.write hx
   exact⟨p,xs,k,j,rfl,rfl,hx,by rw[l.length];exact e4,f e _ h2 σ _ (kt.trans kw) (a2.write hx (l.set (r.mono kt) j)) ((ok.mono kt).mono kw)⟩⟩⟩⟩
def tN(te:DTE)(g:DTG):DTS:=fun F e M=>te e M fun x M1=>g x e M1 F.nx
theorem L4{tg x:Expr}{tx:DTE}{g:DTG}(he:JE X x tx)(hg:JG X tg g)(hs:swapsWithSole [tg] x pos.line X.env=pure false:=by rfl)(hw:swappedStores [tg] x X.env=pure none:=by rfl)
  (h1:(assignEach [tg] X.env).map (·.2)=[assign tg X.env]:=by rfl):JS X (.Assign [tg] x pos) (tN tx g):=⟨have he:=he.out;have hg:=hg.out;(Ag he hg hs hw h1).imp (by rintro E σ H ⟨e,M,F,ok,am,t,f⟩;exact⟨e,M,_,ok,am,t,fun d M1 h1 v H1 k1 a1 r1=>⟨d,e,M1,F.nx,r1,ok.mono k1,a1,h1,f.nx.mono k1⟩⟩)⟩
theorem wK{i:Nat}{x:Str}{tx:DTE}{pos':Pos}(hN:X.N.Nodup)(hi:X.N[i]? = some x)(hx:Loc X.env.scope x)(he:JE X e tx)(hs:swapsWith e (some (.Name x pos')) pos.line X.env=pure false:=by rfl)(hf:X.fn x=true∨X.env.scope.names.lookup x=some .local:=by first|exact .inl rfl|exact .inr rfl|assumption):JS X (.Assign [.Name x pos'] e pos) (tN tx (Z3 i)):=⟨have he:=he.out;(Ac hN hi hx he hs hf).imp (by rintro E σ H ⟨e,M,F,ok,am,t,f⟩;exact⟨e,M,_,ok,am,t,fun d M1 h1 v H1 k1 a1 r1=>f.nx _ M1 h1 _ H1 k1 a1 ((ok.mono k1).set r1 i)⟩)⟩
def DT(i j:Nat)(ta:DTA):DTS:=fun F e M=>ta e M fun ds M1=>∃ x y,ds=[x,y]∧F.nx ((e.set i (some x)).set j (some y)) M1
theorem L3{i j:Nat}{x y:Str}{a b:Expr}{ta:DTA}{px py pt:Pos}{kt k2 pt2}(hc:X.calm=true)(hN:X.N.Nodup)(hi:X.N[i]? = some x)(hj:X.N[j]? = some y)(hij:i≠j)
  (hx:X.env.scope.names.lookup x=some .local) (hy:X.env.scope.names.lookup y=some .local) (ha:JA X [a,b] ta)
  (hw:swappedStores [.Tuple [.Name x px,.Name y py] kt pt] (.Tuple [a,b] k2 pt2) X.env=pure (some [x,y]):=by rfl)
  (hs:swapsWithSole [.Tuple [.Name x px,.Name y py] kt pt] (.Tuple [a,b] k2 pt2) pos.line X.env=pure false:=by rfl):JS X (.Assign [.Tuple [.Name x px,.Name y py] kt pt] (.Tuple [a,b] k2 pt2) pos) (DT i j ta):=⟨have ha:=ha.out;(Ae hc hN hi hj hij hx hy ha hw hs).imp (by rintro E σ H ⟨e,M,F,ok,am,t,f⟩;exact⟨e,M,_,ok,am,t,fun ds M1 ⟨x,y,z,h1⟩ vs H1 k1 a1 r1=>by
  subst z
  cases r1 with
  | cons r1 rr =>
   cases rr with
   | cons r2 rr =>
    cases rr
    exact⟨_,_,rfl,f.nx _ M1 h1 _ H1 k1 a1 (((ok.mono k1).set r1 i).set r2 j)⟩⟩)⟩
def tK(c:DTT)(tb:DTS):DTS:=fun F e M=>∃ W:Nat→Ev→Mem→Prop,(∃ m,W m e M)∧∀ m e M,W m e M →
 c e M fun b M1=>if b=true then tb { F with nx:=fun e' M'=>∃ m',m'<m∧W m' e' M',ct:=fun e' M'=>∃ m',m'<m∧W m' e' M',bk:=F.nx } e M1 else F.nx e M1
theorem S0{c:Expr}{body:List Stmt}{tc:DTT}{tb:DTS}(hp:PassesOwn (model X.prog X.w) X.A X.env X.xe)(hc:JT X c tc)(hb:JSs X body tb):JS X (.While c body [] pos) (tK tc tb):=⟨have hc:=hc.out;have hb:=hb.out;(rH hp hc hb).imp (by
  rintro E σ H ⟨e,M,F,ok,am,⟨W,⟨m0,w0⟩,turn⟩,f⟩
  refine⟨fun m σ' H'=>∃ e' M',KT H H'∧t5 X.K H' σ' e'∧j3 X.K H' M'∧W m e' M',⟨m0,e,M,KT.refl H,ok,am,w0⟩,?_⟩
  rintro m σ1 H1 ⟨e1,M1,k1,ok1,a1,w1⟩
  refine⟨e1,M1,_,ok1,a1,turn m e1 M1 w1,fun b M2 h2 H2 k2 a2=>?_⟩
  cases b with
  | false=>exact f.nx e1 M2 h2 σ1 H2 (k1.trans k2) a2 (ok1.mono k2)
  | true =>
   refine⟨fun σ' H'=>∃ m',m'<m∧∃ e' M',KT H H'∧t5 X.K H' σ' e'∧j3 X.K H' M'∧W m' e' M',fun σ' H' h=>h,e1,M2,_,ok1.mono k2,a2,h2,?_⟩
   have kk:=k1.trans k2
   exact⟨fun e' M' ⟨m',l,w⟩ σ' H' k' a' o'=>⟨m',l,e',M',kk.trans k',o',a',w⟩,f.rt.mono kk,f.nx.mono kk,fun e' M' ⟨m',l,w⟩ σ' H' k' a' o'=>⟨m',l,e',M',kk.trans k',o',a',w⟩⟩)⟩
noncomputable abbrev DTI:=Ev→Mem→(List D→(Mem→Prop)→Mem→Prop)→Prop
def DZ(ti:DTI)(g:DTG)(tb:DTS):DTS:=fun F e M=>ti e M fun ds stay M1=>∃ W:Nat→Ev→Mem→Prop,W 0 e M1∧(∀ i e M,i≤ds.length→W i e M→stay M) ∧
 (∀(i:Nat) (d:D) e M,ds[i]? = some d→W i e M→g d e M fun e2 M2=>tb { F with nx:=W (i+1),ct:=W (i+1),bk:=F.nx } e2 M2)∧∀ e M,W ds.length e M→F.nx e M
noncomputable def D5(lo:Int)(n:Nat):List D:=(Ih n).map fun(i:Nat)=>D.int (lo+(i:Int))
theorem r9(lo:Int)(n:Nat):(D5 lo n).length=n:=by simp[D5]
theorem bN{lo:Int}{n i:Nat}(h:i<n):(D5 lo n)[i]? = some (D.int (lo+(i:Int))):=by simp[D5,h]
theorem G7{lo:Int}{n i:Nat}{d:D}(h:(D5 lo n)[i]? = some d):i<n∧d=D.int (lo+(i:Int)):=by
 have hl:i<n:=by
  have:=(HN.mp h).1
  rw[r9]at this;exact this
 rw[bN hl]at h
 exact⟨hl,(Option.some.inj h).symm⟩
def yA(ta:DTA):DTI:=fun e M R=>ta e M fun ds M1=>∃ j:Int,ds=[.int j]∧-(2 ^ 62)≤j∧j<2 ^ 62∧R (D5 0 j.toNat) (fun _=>True) M1
def tD(ta:DTA):DTI:=fun e M R=>ta e M fun ds M1=>∃ i j:Int,ds=[.int i,.int j]∧(-(2 ^ 62)≤i∧i<2 ^ 62∧-(2 ^ 62)≤j∧j<2 ^ 62)∧R (D5 i (j - i).toNat) (fun _=>True) M1
theorem sY{K:Hi}{H H1 H2:Hp}{F:S7}{E:kc}{W:Nat→Ev→Mem→Prop}{g:DTG}{tb:DTS}{i:Nat}{x:V}{d:D}{σ2:St}{e2:Ev}{M2:Mem}(f:Fit K H F E)(k1:KT H H1)(k2:KT H1 H2)(ok2:t5 K H2 σ2 e2)(a2:j3 K H2 M2)(r:Has K H2 x d)
  (h:g d e2 M2 fun e3 M3=>tb { F with nx:=W (i+1),ct:=W (i+1),bk:=F.nx } e3 M3) :
  upG K g x σ2 H2 fun σ3 H3=>upS K tb { E with nx:=fun σ' H'=>∃ e' M',KT H1 H'∧t5 K H' σ' e'∧j3 K H' M'∧W (i+1) e' M',ct:=fun σ' H'=>∃ e' M',KT H1 H'∧t5 K H' σ' e'∧j3 K H' M'∧W (i+1) e' M',bk:=E.nx } σ3 H3:=by
 refine⟨d,e2,M2,_,r,ok2,a2,h,fun e3 M3 h3 σ3 H3 k3 a3 ok3=>⟨e3,M3,_,ok3,a3,h3,?_⟩⟩
 have kk:KT H H3:=k1.trans (k2.trans k3)
 exact⟨fun e' M' w σ' H' k' a' o'=>⟨e',M',k2.trans (k3.trans k'),o',a',w⟩,f.rt.mono kk,f.nx.mono kk,fun e' M' w σ' H' k' a' o'=>⟨e',M',k2.trans (k3.trans k'),o',a',w⟩⟩
variable {tg iter:Expr} {body:List Stmt} {ti:DTE} {ta:DTA} {g:DTG} {tb:DTS}
theorem Has.il{K:Hi}{H:Hp}{v:V}{ds:List D}(h:Has K H v (.vl ds)):∃ a xs,v = .ref a∧SqL K H a xs∧HasL K H xs ds:=by
 cases h with
 | vl h l=>exact⟨_,_,rfl,h.elim (fun⟨o,e⟩=>.inl (.inr ⟨o,e⟩)) (fun k=>k H),l⟩
end
section
variable {P:Program} {w:World} {K:Hi} {mg:Str→Option Value} {base:Heap}
end
section
variable {X:Cx} {x:Str} {p pos:Pos} {e:Expr} {es:List Expr} {t:DTA} {id T:String}
noncomputable abbrev DRC:=List D→Mem→DK→Prop
noncomputable def upC(K:Hi)(g:DRC):List V→Hp→VK→Prop:=fun xs H Q=>∃ ds M R,HasL K H xs ds∧j3 K H M∧g ds M R∧cL K H R Q
def S8(X:Cx)(f:Value)(g:DRC):Prop:=v7 X f (upC X.K g)
def dCB(g:DRC)(t:DTA):DTE:=fun e M R=>t e M fun ds M1=>g ds M1 R
theorem yO{g:DRC}{σ:St}{H:Hp}{Q:VK}(h:up X.K (dCB g t) σ H Q):tCB (upC X.K g) (upA X.K t) σ H Q:=by
 obtain⟨e,M,R,ok,am,t,f⟩:=h
 exact⟨e,M,_,ok,am,t,fun ds M1 h1 vs H1 k1 a1 r1=>⟨ds,M1,R,r1,a1,h1,f.mono k1⟩⟩
theorem v7.imp{f:Value}{r r':List V→Hp→VK→Prop}(h:v7 X f r)(i:∀ xs H Q,r' xs H Q→r xs H Q):v7 X f r':=fun pins s σ H xs us Q I rv q=>h pins s σ H xs us Q I rv (i xs H Q q)
theorem HasL.one{K:Hi}{H:Hp}{vs:List V}{d:D}(h:HasL K H vs [d]):∃ v,vs=[v]∧Has K H v d:=by
 cases h with
 | cons r rr=>cases rr;exact⟨_,rfl,r⟩
theorem HasL.two{K:Hi}{H:Hp}{vs:List V}{d d':D}(h:HasL K H vs [d,d']):∃ v v',vs=[v,v']∧Has K H v d∧Has K H v' d':=by
 cases h with
 | cons r rr=>cases rr with|cons r2 rr=>cases rr;exact⟨_,_,rfl,r,r2⟩
def DM:DRC:=fun ds M R=>∃ i:Int,ds=[.int i]∧R (.int (i.natAbs:Int)) M
theorem cF:S8 X (.builtin "abs") DM:=v7.imp tS (by
 rintro xs H Q ⟨ds,M,R,hl,am,⟨i,z,r⟩,f⟩
 subst z
 obtain⟨v,rfl,h⟩:=hl.one
 cases h
 have e:(if i<0 then -i else i)=(i.natAbs:Int):=by split<;>omega
 exact⟨i,rfl,by rw[e];exact f _ M r _ H (KT.refl H) am (.int _)⟩)
def DC:DRC:=fun ds M R=>∃ i j:Int,ds=[.int i,.int j]∧R (.int (max i j)) M
theorem yQ(hc:X.calm=true):S8 X (.builtin "max") DC:=v7.imp (oT hc) (by
 rintro xs H Q ⟨ds,M,R,hl,am,⟨i,j,z,r⟩,f⟩
 subst z
 obtain⟨v,v',rfl,h,h'⟩:=hl.two
 cases h;cases h'
 have e:(if j > i then j else i)=max i j:=by
  rw[Int.max_def];split<;>split<;>omega
 exact⟨i,j,rfl,by rw[e];exact f _ M r _ H (KT.refl H) am (.int _)⟩)
def DB:DRC:=fun ds M R=>∃ i j:Int,ds=[.int i,.int j]∧R (.int (min i j)) M
theorem Ej(hc:X.calm=true):S8 X (.builtin "min") DB:=v7.imp (oS hc) (by
 rintro xs H Q ⟨ds,M,R,hl,am,⟨i,j,z,r⟩,f⟩
 subst z
 obtain⟨v,v',rfl,h,h'⟩:=hl.two
 cases h;cases h'
 have e:(if j<i then j else i)=min i j:=by
  rw[Int.min_def];split<;>split<;>omega
 exact⟨i,j,rfl,by rw[e];exact f _ M r _ H (KT.refl H) am (.int _)⟩)
noncomputable def sF(M:Mem):D→Option Nat
 | .tup ds=>some ds.length
 | .ref p=>match M p with
  | some (.lst ds)=>some ds.length
  | _=>none
 | .vl ds=>some ds.length
 | _=>none
def oO:DRC:=fun ds M R=>∃ d n,ds=[d]∧sF M d=some n∧R (.int (n:Int)) M
theorem au:S8 X (.builtin "len") oO:=v7.imp gH (by
 rintro xs H Q ⟨ds,M,R,hl,am,⟨d,n,z,hn,r⟩,f⟩
 subst z
 obtain⟨v,rfl,h⟩:=hl.one
 cases d with
 | tup es =>
  cases h with
  | tup s l =>
   cases hn
   exact⟨_,_,rfl,.inr s,by rw[l.length];exact f _ M r _ H (KT.refl H) am (.int _)⟩
 | ref p =>
  cases h
  unfold sF at hn
  cases q:M p with
  | none=>simp[q]at hn
  | some o =>
   cases o with
   | lst es =>
    simp only[q]at hn
    cases hn
    obtain⟨ys,hy,l⟩:=am.lst q
    exact⟨p,ys,rfl,.inl (SqL.of hy),by rw[l.length];exact f _ M r _ H (KT.refl H) am (.int _)⟩
   | ins C fs=>simp[q]at hn
   | dic hs kvs=>simp[q]at hn
 | vl es =>
  cases hn
  obtain⟨a,xs,rfl,sq,l⟩:=h.il
  exact⟨a,_,rfl,.inl sq,by rw[l.length];exact f _ M r _ H (KT.refl H) am (.int _)⟩
 | _=>cases hn)
end
theorem U9:bootBuiltins "abs" = some (.builtin "abs"):=by decide +kernel
theorem tW:bootBuiltins "max" = some (.builtin "max"):=by decide +kernel
theorem Bp:bootBuiltins "min" = some (.builtin "min"):=by decide +kernel
theorem M0:bootBuiltins "len" = some (.builtin "len"):=by decide +kernel
theorem G5:bootBuiltins "isinstance" = some (.builtin "isinstance"):=by decide +kernel
theorem Bq:bootBuiltins "int" = some (.type "int"):=by decide +kernel
theorem xi:bootBuiltins "bool" = some (.type "bool"):=by decide +kernel
theorem tV:bootBuiltins "tuple" = some (.type "tuple"):=by decide +kernel
theorem aV:bootBuiltins "list" = some (.type "list"):=by decide +kernel
section
variable {X:Cx} {a b c:Expr} {ta tb tc:DTE} {pos:Pos}
theorem wj:OpR X (binaryOp .Mult) (rI IntMulOk fun i j=>.int (i*j)):=opI fun _ _ _ _ _ _ _ hc q=>mul_int q hc
def CFd(i j:Int):Prop:=j≠0∧j.natAbs.log2<9000
theorem rW:OpR X (binaryOp .FloorDiv) (rI CFd fun i j=>.int (i.fdiv j)):=opI fun _ _ _ _ _ _ _ hc q=>floordiv_int hc.1 q (.inl (PyProof.noPylong_of_log2 hc.2))
theorem m8:DOp X (binaryOp .Mult) (gI IntMulOk fun i j=>.int (i*j)):=jL wj fun _ _ _=>.int _
theorem K9:DOp X (binaryOp .FloorDiv) (gI CFd fun i j=>.int (i.fdiv j)):=jL rW fun _ _ _=>.int _
noncomputable def ixD(M:Mem):D→D→Option D
 | .tup ds,.int i=>atI ds i
 | .ref p,.int i=>match M p with
  | some (.lst ds)=>atI ds i
  | _=>none
 | .vl ds,.int i=>atI ds i
 | _,_=>none
def gIx:DR2:=fun x y M R=>∃ z,ixD M x y=some z∧R z M
theorem IxR.or'{r r':R2}(h:IxR X r)(h':IxR X r'){g:R2}(i:∀ x y H Q,g x y H Q→r x y H Q∨r' x y H Q):IxR X g:=IxR.imp (IxR.or h h') i
theorem Dw:DIx X gIx:=IxR.or' AQ wU (by
 rintro x y H Q ⟨dx,dy,M,R,hx,hy,am,⟨z,e,r⟩,f⟩
 cases dy with
 | int i =>
  cases hy
  cases dx with
  | tup ds =>
   cases hx with
   | tup s l =>
    obtain⟨v,h1,h2⟩:=l.at (show atI ds i=some z from e)
    exact .inl ⟨_,_,i,v,rfl,rfl,s,h1,f z M r v H (KT.refl H) am h2⟩
  | ref p =>
   cases hx
   unfold ixD at e
   cases q:M p with
   | none=>simp[q]at e
   | some o =>
    cases o with
    | lst ds =>
     simp only[q]at e
     obtain⟨xs,h1,h2⟩:=am.lst q
     obtain⟨v,h3,h4⟩:=h2.at e
     exact .inr ⟨_,_,i,v,rfl,rfl,SqL.of h1,h3,f z M r v H (KT.refl H) am h4⟩
    | ins C fs=>simp[q]at e
    | dic hs kvs=>simp[q]at e
  | vl ds =>
   obtain⟨a,xs,rfl,sq,l⟩:=hx.il
   obtain⟨v,h1,h2⟩:=l.at (show atI ds i=some z from e)
   exact .inr ⟨_,_,i,v,rfl,rfl,sq,h1,f z M r v H (KT.refl H) am h2⟩
  | _=>simp[ixD]at e
 | _=>cases dx<;>simp[ixD]at e)
theorem A5{M:Mem}{p:Addr}{ds:List D}{i:Int}{z:D}(m:M p=some (.lst ds))(h:atI ds i=some z):ixD M (.ref p) (.int i)=some z:=by
 unfold ixD;simp only[m];exact h
noncomputable def isD:D→D→Option Bool
 | .bl a,.bl b=>some (a == b)
 | .non,.non=>some true
 | .bl _,.non=>some false
 | .int _,.non=>some false
 | .str _,.non=>some false
 | .ref _,.non=>some false
 | .tup _,.non=>some false
 | .vl _,.non=>some false
 | .exc _,.non=>some false
 | _,_=>none
theorem eD{x y:D}{b:Bool}(h:isD x y=some b):(∃ p q,x = .bl p∧y = .bl q∧b=(p == q))∨(y = .non∧((x = .non∧b=true)∨(x ≠ .non∧b=false))):=by
 cases x<;>cases y<;>simp[isD]at h<;>simp[h]
theorem nD{K:Hi}{H:Hp}{v:V}{x:D}(h:Has K H v x)(n:x ≠ .non):v ≠ .non:=by
 intro e;subst e;cases h;exact n rfl
def gIs(neg:Bool):DR2:=fun x y M R=>∃ b,isD x y=some b∧R (.bl (neg.xor b)) M
theorem EL:DOp X (compareOp .Is) (gIs false):=by
 intro pins s σ H x y v u Q I rx ry h
 obtain⟨dx,dy,M,R,hx,hy,am,⟨b,e,r⟩,f⟩:=h
 have fin:EP X pins σ Q (.bool b) s:=⟨.bl b,H,I,rfl,by have:=f _ M r (.bl b) H (KT.refl H) am (by simpa using Has.bl (K:=X.K) (H:=H) b);exact this⟩
 rcases eD e with⟨p,q,rfl,rfl,rfl⟩|⟨rfl,hx'⟩
 ·cases hx;cases hy;cases rx;cases ry
  exact is_bool fin
 ·cases hy;cases ry
  refine is_none_gen ?_
  rw[m7.none_iff rx]
  rcases hx' with⟨rfl,rfl⟩|⟨n,rfl⟩
  ·cases hx;exact fin
  ·rw[decide_eq_false (nD hx n)];exact fin
theorem nq:DOp X (compareOp .IsNot) (gIs true):=by
 intro pins s σ H x y v u Q I rx ry h
 obtain⟨dx,dy,M,R,hx,hy,am,⟨b,e,r⟩,f⟩:=h
 have fin:EP X pins σ Q (.bool (!b)) s:=⟨.bl (!b),H,I,rfl,by have:=f _ M r (.bl (!b)) H (KT.refl H) am (by simpa using Has.bl (K:=X.K) (H:=H) (!b));exact this⟩
 rcases eD e with⟨p,q,rfl,rfl,rfl⟩|⟨rfl,hx'⟩
 ·cases hx;cases hy;cases rx;cases ry
  exact isnot_bool fin
 ·cases hy;cases ry
  refine isnot_none_gen ?_
  rw[m7.none_iff rx]
  rcases hx' with⟨rfl,rfl⟩|⟨n,rfl⟩
  ·cases hx;exact fin
  ·rw[decide_eq_false (nD hx n)];exact fin
mutual
inductive PyR (M:Mem):D→PyData→Prop
 | non:PyR M .non .none
 | bl (b:Bool):PyR M (.bl b) (.bool b)
 | int (i:Int):PyR M (.int i) (.int i)
 | str (x:Str):PyR M (.str x) (.str x)
 | tup {ds:List D} {ps:List PyData}:PyRL M ds ps→PyR M (.tup ds) (.tuple ps)
 | lst {p:Addr} {ds:List D} {ps:List PyData}:M p=some (.lst ds)→PyRL M ds ps→PyR M (.ref p) (.list ps)
 | vl {ds:List D} {ps:List PyData}:PyRL M ds ps→PyR M (.vl ds) (.list ps)
inductive PyRL (M:Mem):List D→List PyData→Prop
 | nil:PyRL M [] []
 | cons {d:D} {p:PyData} {ds:List D} {ps:List PyData}:PyR M d p→PyRL M ds ps→PyRL M (d :: ds) (p :: ps)
end
mutual
theorem P4{pins:List (Addr × Obj)}{s:Shared}{σ:St}{H:Hp}{M:Mem}(I:Inv X pins σ H s)(am:j3 X.K H M):∀{d:D} {p:PyData},PyR M d p→∀{v:V} {u:Value},Has X.K H v d→m7 v u→∃ as,Reads s.heap u p as
 | _,_,.non,_,_,h,r=>by cases h;cases r;exact⟨_,.none⟩
 | _,_,.bl b,_,_,h,r=>by cases h;cases r;exact⟨_,.bool b⟩
 | _,_,.int i,_,_,h,r=>by cases h;obtain⟨t,rfl⟩:=r;exact⟨_,.int i t⟩
 | _,_,.str x,_,_,h,r=>by cases h;obtain⟨t,rfl⟩:=r;exact⟨_,.str x t⟩
 | _,_,.tup l,_,_,h,r=>by
  cases h with
  | tup s' hl =>
   cases r
   obtain⟨its,rv,⟨o,e,hc,n,hd⟩,_⟩:=I.tuple s'
   obtain⟨as,ra⟩:=readsL_of I am l hl rv
   exact⟨as,.tuple e hc hd (by simpa using ra)⟩
 | _,_,.lst m l,_,_,h,r=>by
  cases h
  cases r
  obtain⟨xs,hx,hl⟩:=am.lst m
  obtain⟨its,rv,⟨o,n,e,hc,_,hd⟩,_⟩:=I.list (SqL.of hx)
  obtain⟨as,ra⟩:=readsL_of I am l hl rv
  exact⟨_,.list e hc hd (by simpa using ra)⟩
 | _,_,.vl l,_,_,h,r=>by
  obtain⟨a,xs,rfl,sq,hl⟩:=h.il
  cases r
  obtain⟨its,rv,⟨o,n,e,hc,_,hd⟩,_⟩:=I.list sq
  obtain⟨as,ra⟩:=readsL_of I am l hl rv
  exact⟨_,.list e hc hd (by simpa using ra)⟩
theorem readsL_of{pins:List (Addr × Obj)}{s:Shared}{σ:St}{H:Hp}{M:Mem}(I:Inv X pins σ H s)(am:j3 X.K H M):∀{ds:List D} {ps:List PyData},PyRL M ds ps→∀{vs:List V} {us:List Value},HasL X.K H vs ds→i6 vs us→∃ as,ReadsAll s.heap us ps as
 | _,_,.nil,_,_,h,r=>by cases h;cases r;exact⟨_,.nil⟩
 | _,_,.cons a l,_,_,h,r=>by
  cases h with
  | cons h hl =>
   cases r with
   | cons r rl =>
    obtain⟨as,q⟩:=P4 I am a h r
    obtain⟨bs,q2⟩:=readsL_of I am l hl rl
    exact⟨_,.cons q q2⟩
end
def gEq(neg:Bool):DR2:=fun x y M R=>∃ px py,PyR M x px∧PyR M y py∧SeqAt.shaped px=true∧SeqAt.shaped py=true∧R (.bl (neg.xor (PyData.eqv px py))) M
theorem Dg(hu:X.A.units+64<cLine):DOp X (compareOp .NotEq) (gEq true):=by
 intro pins s σ H x y v u Q I rx ry h
 obtain⟨dx,dy,M,R,hx,hy,am,⟨px,py,p1,p2,s1,s2,r⟩,f⟩:=h
 obtain⟨as,r1⟩:=P4 I am p1 hx rx
 obtain⟨bs,r2⟩:=P4 I am p2 hy ry
 exact ne_dataH r1 r2 s1 s2 hu ⟨.bl _,H,I,rfl,by have:=f _ M r _ H (KT.refl H) am (.bl _);simpa using this⟩
mutual
noncomputable def pyD:D→PyData
 | .int i=>.int i
 | .str x=>.str x
 | .bl b=>.bool b
 | .tup ds=>.tuple (pyDL ds)
 | .vl ds=>.list (pyDL ds)
 | _=>.none
noncomputable def pyDL:List D→List PyData
 | []=>[]
 | d :: r=>pyD d :: pyDL r
end
mutual
noncomputable def cl:Nat→D→Bool
 | _,.int _=>true
 | _,.non=>true
 | _,.str x=>PyData.canLay0 (.str x)
 | k+1,.tup ds=>clL k ds
 | k+1,.vl ds=>clL k ds
 | _,_=>false
noncomputable def clL:Nat→List D→Bool
 | _,[]=>true
 | k,d :: r=>cl k d && clL k r
end
mutual
theorem eJ{M:Mem}:∀{k:Nat} {d:D},cl k d=true→PyR M d (pyD d)∧(pyD d).canLay0=true∧(pyD d).depth≤k
 | _,.int i,_=>⟨.int i,rfl,Ic _⟩
 | _,.non,_=>⟨.non,rfl,Ic _⟩
 | 0,.tup ds,h=>by simp[cl]at h
 | k+1,.tup ds,h=>by
  obtain⟨a,b,c⟩:=clL_py (M:=M) (k:=k) (ds:=ds) (by simpa[cl]using h)
  exact⟨.tup a,by simpa[pyD,PyData.canLay0]using b,by simp only[pyD,PyData.depth];omega⟩
 | _,.str x,h=>⟨.str x,by simpa[cl,pyD]using h,Ic _⟩
 | _,.bl _,h=>by simp[cl]at h
 | _,.ref _,h=>by simp[cl]at h
 | 0,.vl ds,h=>by simp[cl]at h
 | k+1,.vl ds,h=>by
  obtain⟨a,b,c⟩:=clL_py (M:=M) (k:=k) (ds:=ds) (by simpa[cl]using h)
  exact⟨.vl a,by simpa[pyD,PyData.canLay0]using b,by simp only[pyD,PyData.depth];omega⟩
 | _,.ty _,h=>by simp[cl]at h
theorem clL_py{M:Mem}:∀{k:Nat} {ds:List D},clL k ds=true→PyRL M ds (pyDL ds)∧PyData.canLayAll0 (pyDL ds)=true∧PyData.depthAll (pyDL ds)≤k
 | _,[],_=>⟨.nil,rfl,Ic _⟩
 | k,d :: r,h=>by
  have h':cl k d=true∧clL k r=true:=by simpa[clL]using h
  obtain⟨a,b,c⟩:=eJ (M:=M) h'.1
  obtain⟨a2,b2,c2⟩:=clL_py (M:=M) h'.2
  exact⟨.cons a a2,by simp[pyDL,PyData.canLayAll0,b,b2],by simp only[pyDL,PyData.depthAll];omega⟩
end
mutual
theorem lz:∀{k j:Nat} {x y:D},cl k x=true→cl j y=true→(PyData.eqv (pyD x) (pyD y)=true↔x=y)
 | _,_,.int i,.int j,_,_=>by simp[pyD,PyData.eqv]
 | _,_,.int i,.non,_,_=>by simp[pyD,PyData.eqv]
 | _,_,.non,.int i,_,_=>by simp[pyD,PyData.eqv]
 | _,_,.non,.non,_,_=>by simp[pyD,PyData.eqv]
 | _,_,.int i,.tup ds,_,_=>by simp[pyD,PyData.eqv]
 | _,_,.non,.tup ds,_,_=>by simp[pyD,PyData.eqv]
 | _,_,.tup ds,.int i,_,_=>by simp[pyD,PyData.eqv]
 | _,_,.tup ds,.non,_,_=>by simp[pyD,PyData.eqv]
 | k+1,j+1,.tup ds,.tup es,h,h'=>by
  have:=clL_eqv (k:=k) (j:=j) (xs:=ds) (ys:=es) (by simpa[cl]using h) (by simpa[cl]using h')
  simp only[pyD,PyData.eqv,D.tup.injEq]
  exact this
 | 0,_,.tup ds,.tup es,h,_=>by simp[cl]at h
 | _,0,.tup ds,.tup es,_,h=>by simp[cl]at h
 | _,_,.str x,.str y,_,_=>by simp[pyD,PyData.eqv]
 | _,_,.str x,.int i,_,_=>by simp[pyD,PyData.eqv]
 | _,_,.str x,.non,_,_=>by simp[pyD,PyData.eqv]
 | _,_,.str x,.tup ds,_,_=>by simp[pyD,PyData.eqv]
 | _,_,.int i,.str x,_,_=>by simp[pyD,PyData.eqv]
 | _,_,.non,.str x,_,_=>by simp[pyD,PyData.eqv]
 | _,_,.tup ds,.str x,_,_=>by simp[pyD,PyData.eqv]
 | k+1,j+1,.vl ds,.vl es,h,h'=>by
  have:=clL_eqv (k:=k) (j:=j) (xs:=ds) (ys:=es) (by simpa[cl]using h) (by simpa[cl]using h')
  simp only[pyD,PyData.eqv,D.vl.injEq]
  exact this
 | 0,_,.vl ds,.vl es,h,_=>by simp[cl]at h
 | _,0,.vl ds,.vl es,_,h=>by simp[cl]at h
 | _,_,.vl ds,.int i,_,_=>by simp[pyD,PyData.eqv]
 | _,_,.vl ds,.non,_,_=>by simp[pyD,PyData.eqv]
 | _,_,.vl ds,.str x,_,_=>by simp[pyD,PyData.eqv]
 | _,_,.vl ds,.tup es,_,_=>by simp[pyD,PyData.eqv]
 | _,_,.int i,.vl ds,_,_=>by simp[pyD,PyData.eqv]
 | _,_,.non,.vl ds,_,_=>by simp[pyD,PyData.eqv]
 | _,_,.str x,.vl ds,_,_=>by simp[pyD,PyData.eqv]
 | _,_,.tup es,.vl ds,_,_=>by simp[pyD,PyData.eqv]
 | _,_,.bl _,_,h,_=>by simp[cl]at h
 | _,_,.ref _,_,h,_=>by simp[cl]at h
 | _,_,.ty _,_,h,_=>by simp[cl]at h
 | _,_,_,.bl _,_,h=>by simp[cl]at h
 | _,_,_,.ref _,_,h=>by simp[cl]at h
 | _,_,_,.ty _,_,h=>by simp[cl]at h
theorem clL_eqv:∀{k j:Nat} {xs ys:List D},clL k xs=true→clL j ys=true→(PyData.eqvAll (pyDL xs) (pyDL ys)=true↔xs=ys)
 | _,_,[],[],_,_=>by simp[pyDL,PyData.eqvAll]
 | _,_,[],_ :: _,_,_=>by simp[pyDL,PyData.eqvAll]
 | _,_,_ :: _,[],_,_=>by simp[pyDL,PyData.eqvAll]
 | k,j,x :: xs,y :: ys,h,h'=>by
  have h1:cl k x=true∧clL k xs=true:=by simpa[clL]using h
  have h2:cl j y=true∧clL j ys=true:=by simpa[clL]using h'
  have e1:=lz h1.1 h2.1
  have e2:=clL_eqv h1.2 h2.2
  simp only[pyDL,PyData.eqvAll,IW,e1,e2,List.cons.injEq]
end
open Classical in
theorem AV{neg:Bool}{x y:D}{M:Mem}{R:DK}(h:R (.bl (neg.xor (decide (x=y)))) M)(hx:cl 60 x=true:=by rfl)(hy:cl 60 y=true:=by rfl):gEq neg x y M R:=by
 obtain⟨a,b,c⟩:=eJ (M:=M) hx
 obtain⟨a2,b2,c2⟩:=eJ (M:=M) hy
 refine⟨_,_,a,a2,?_,?_,?_⟩
 ·simp only[SeqAt.shaped,b,JB];exact decide_eq_true (by omega)
 ·simp only[SeqAt.shaped,b2,JB];exact decide_eq_true (by omega)
 ·have e:PyData.eqv (pyD x) (pyD y)=decide (x=y):=by
   have:=lz hx hy
   by_cases q:x=y
   ·rw[decide_eq_true q];exact this.mpr q
   ·rw[decide_eq_false q]
    cases z:PyData.eqv (pyD x) (pyD y)with
    | false=>rfl
    | true=>exact absurd (this.mp z) q
  rw[e];exact h
noncomputable def tyD(M:Mem):D→Option String
 | .non=>some "NoneType"
 | .bl _=>some "bool"
 | .int _=>some "int"
 | .str _=>some "str"
 | .tup _=>some "tuple"
 | .ref p=>match M p with
  | some (.lst _)=>some "list"
  | _=>none
 | .vl _=>some "list"
 | .ty _=>none
 | .dic=>some "dict"
 | .exc _=>none
noncomputable def vx(t T:String):Option Bool:=if t=T then some true else
 match t,T with
 | "bool","int" => some true
 | _,_=>if (t∈["NoneType","bool","int","str","tuple","list","dict"])∧(T∈["bool","int","str","tuple","list"])then some false else none
def uc(K:Hi):Prop:=∀ t T b,vx t T=some b→PySem.W.kitOne K (.type t) (.type T)=some b
theorem sM{x:Str}{n:String}(hg:Gl X x)(hm:X.mg x=none)(hv:bootBuiltins x=some (.type n))(hn:x ≠ "__name__" := by decide)(hd:(x == ("__debug__" : Str))=false:=by decide):JE X (.Name x pos) (dC (.ty n)):=⟨aU (v:=.ty n) (we hg hm hv rfl hn hd) fun _=>.ty n⟩
def u7:DRC:=fun ds M R=>∃ d t T b,ds=[d,.ty T]∧tyD M d=some t∧vx t T=some b∧R (.bl b) M
theorem tU(hk:uc X.K):S8 X (.builtin "isinstance") u7:=by
 intro pins s σ H xs us Q I rv h
 obtain⟨ds,M,R,hl,am,⟨d,t,T,b,rfl,ht,hb,r⟩,f⟩:=h
 obtain⟨v,v',rfl,h1,h2⟩:=hl.two
 cases h2
 obtain⟨u,w',rfl,r1,r2⟩:=qI rv
 cases(show w'=Value.type T from r2)
 have e:=hk t T b hb
 have fin:∀ tk,EP X pins σ Q (.bool b) { s with toks:=tk }:=fun tk=>⟨.bl b,H,I.tok tk,rfl,f _ M r _ H (KT.refl H) am (.bl b)⟩
 cases h1 with
 | non=>cases ht;exact J5 I r1 .non e fin
 | bl q=>cases ht;exact J5 I r1 (.bl q) e fin
 | int q=>cases ht;exact J5 I r1 (.int q) e fin
 | str q=>cases ht;exact J5 I r1 (.str q) e fin
 | ty q=>cases ht
 | ref p =>
  unfold tyD at ht
  cases q:M p with
  | none=>simp[q]at ht
  | some o =>
   cases o with
   | lst es =>
    simp only[q]at ht
    cases ht
    obtain⟨ys,hy,_⟩:=am.lst q
    exact J5 I r1 (.lst hy) e fin
   | ins C fs=>simp[q]at ht
   | dic hs kvs=>simp[q]at ht
 | tup s' l =>
  cases ht
  cases(show u=Value.ref _ from r1)
  obtain⟨its,_,⟨o,h1,h2,_⟩,_⟩:=I.tuple s'
  exact PySem.W.kia_one PySem.W.kitx_tuple I.kIn ⟨o,h1,h2⟩ e (fun z=>nomatch z) fin
 | vl hq hl' =>
  cases ht
  cases(show u=Value.ref _ from r1)
  obtain⟨_,_,ea,sq,_⟩:=Has.il (.vl hq hl')
  cases ea
  obtain⟨its,_,⟨o,n,h1,h2,_⟩,_⟩:=I.list sq
  exact PySem.W.kia_one PySem.W.kitx_list I.kIn ⟨o,h1,h2⟩ e (fun z=>nomatch z) fin
 | dic hq =>
  cases ht
  cases(show u=Value.ref _ from r1)
  obtain⟨o,g1,g2⟩:=hq
  exact PySem.W.kia_one PySem.W.kitx_dict I.kIn ⟨o,(I.hok _ _ g1).1,g2⟩ e (fun z=>nomatch z) fin
 | exc hq=>cases ht
theorem wx:MtR X "int.bit_length" (fun x xs H Q=>∃ i,x = .int i∧xs=[]∧Q (.int (Builtin.Int.intBits i:Nat)) H):=by
 intro pins s σ H x xs v us Q I rx rv h
 obtain⟨i,rfl,rfl,q⟩:=h
 cases rv
 obtain⟨t,rfl⟩:=rx
 exact call_int_bit_length ⟨.int _,H,I.tok _,⟨_,rfl⟩,q⟩
end
section
variable {X:Cx} {a b c:Expr} {ta tb tc:DTE} {pos:Pos}
def Y0:DXK:=fun _ _=>False
theorem Fc{K:Hi}{H:Hp}{E:XK}:BD K H Y0 E:=fun _ _ h=>h.elim
structure xt(K:Hi)(x:Str)(st:Stmt)(f:Addr)(fd:FuncData):Prop where
 ex:∃(oc:Value) (od:Option Addr) (dV kV doc pm:Value) (an:Option Addr) (cdv ct:Value) (osl:Array (Option Value)),
  fd=PySem.W.fnOf x x (L8 st) (E2 st) (e6 st) dV kV doc pm an cdv ct∧K.lookup f=some ⟨oc,od,.func fd,osl⟩∧PySem.W.codeIn K cdv x=true
 kp:PySem.W.keepIn K (.ref f)=true
structure Df(K:Hi)(mg:Str→Option Value)(x:Str)(st:Stmt)(ps:List Str):Prop where
 ex:∃(f:Addr) (fd:FuncData),xt K x st f fd∧mg x=some (.ref f)∧cM K fd ps []
structure DfL(K:Hi)(mg:Str→Option Value)(x:Str)(st:Stmt)(ps:List Str):Prop where
 ex:∃(f:Addr) (fd:FuncData),xt K x st f fd∧mg x=some (.ref f)∧∀ us:List Value,us.length=ps.length→bindArgs fd ⟨us,[]⟩=pure (ps.zip us)
structure Fn(P:Program)(w:World)(K:Hi)(mg:Str→Option Value)(base:Heap)(x:Str)(k:Nat)(ps:List Str)(sp:DSp):Prop where
 ex:∃(f:Addr) (fd:FuncData),N3 P w K mg base CX0 k f fd ps (iC K sp)∧mg x=some (.ref f)∧PySem.W.keepIn K (.ref f)=true∧cM K fd ps []
theorem sP{x:Str}{j:Nat}{ps:List Str}{sp:DSp}{p:Pos}{e:Expr}{es:List Expr}{t:DTA}(G:Fn X.prog X.w X.K X.mg X.base x j ps sp)(hr:D3 j X.A)(hg:Gl X x)(ha:JA X (e :: es) t)
  (hdb:(x == ("__debug__" : Str))=false:=by decide) (he:starEach (e :: es) X.env=(false,eval e X.env) :: starEach es X.env:=by rfl) (hpl:(backTo pos (starEach es X.env)).any (·.1)=false:=by rfl):JE X (.Call (.Name x p) (e :: es) [] pos) (jN sp [] Y0 t):=⟨have ha:=ha.out;by
 obtain⟨f,fd,F,hm,hk,hb⟩:=G.ex
 exact Be F hr hg hm hk hb .nil (fun _=>.nil) CU (fun _=>Fc) ha hdb he hpl⟩
end
section
variable {P:Program} {w:World} {K:Hi} {mg:Str→Option Value} {base:Heap}
theorem yw{x:Str}{st:Stmt}{f:Addr}{fd:FuncData}{N ps:List Str}{k:Nat}{sp:DSp}(F:xt K x st f fd)(S:g5 N ps (e6 st))(len:∀ ds M R Y,sp ds M R Y→ds.length=ps.length)
  (hbody:∀(cdv:Value) (A:Around) (outer:List Env) (s:Shared) (H:Hp) (E:XK) (ds:List D) (M:Mem) (R:DK) (Y:DXK),D3 k (A.deeper (envOfC x (e6 st) s.heap.objs.size f cdv))→sp ds M R Y →
   ∃ t,JSs (jO CX0 P w K mg base N x (e6 st) f cdv A outer s H E).nox (E2 st) t∧t { nx:=fun _ M'=>R .non M',rt:=R } (Q0 N ds) M):N3 P w K mg base CX0 (k+1) f fd ps (iC K sp):=by
 obtain⟨oc,od,dV,kV,doc,pm,an,cdv,ct,osl,rfl,lk,hcd⟩:=F.ex
 refine DN lk hcd S (fun vs H Q E ⟨ds,M,R,Y,hl,_,hs,_,_⟩=>by rw[hl.length];exact len ds M R Y hs) fun A outer s H vs Q E hr zz=>?_
 obtain⟨ds,M,R,Y,hl,am,hs,fv,fx⟩:=zz
 obtain⟨t,h1,h2⟩:=hbody cdv A outer s H E ds M R Y hr hs
 refine⟨_,h1.out.nox,Q0 N ds,M,_,t5.start0 hl,am,h2,⟨?_,fv,fun _ _ h=>h.elim,fun _ _ h=>h.elim⟩⟩
 exact fun e M' h σ' H' kt a o=>fv .non M' h .non H' kt a .non
theorem i9{x:Str}{st:Stmt}{N ps:List Str}{k:Nat}{sp:DSp}(d:Df K mg x st ps)(S:g5 N ps (e6 st))(len:∀ ds M R Y,sp ds M R Y→ds.length=ps.length)
  (hbody:∀(f:Addr) (cdv:Value) (A:Around) (outer:List Env) (s:Shared) (H:Hp) (E:XK) (ds:List D) (M:Mem) (R:DK) (Y:DXK),D3 k (A.deeper (envOfC x (e6 st) s.heap.objs.size f cdv))→sp ds M R Y →
   ∃ t,JSs (jO CX0 P w K mg base N x (e6 st) f cdv A outer s H E).nox (E2 st) t∧t { nx:=fun _ M'=>R .non M',rt:=R } (Q0 N ds) M):Fn P w K mg base x (k+1) ps sp:=by
 obtain⟨f,fd,F,hm,hb⟩:=d.ex
 exact⟨f,fd,yw F S len (hbody f),hm,F.kp,hb⟩
theorem j5{x:Str}{st:Stmt}{ps:List Str}{h:Heap}{f:Addr}{oc:Value}{od an:Option Addr}{osl:Array (Option Value)}{dV kV doc pm cdv ct:Value}(X:K.In h)(G:h.Ns mainGlobals mg)
  (n:PySem.W.nsIn K mainGlobals x=some (some (.ref f)))
  (l:K.lookup f=some ⟨oc,od,.func (PySem.W.fnOf x x (L8 st) (E2 st) (e6 st) dV kV doc pm an cdv ct),osl⟩)
  (c:PySem.W.codeIn K cdv x=true) (k:PySem.W.keepIn K (.ref f)=true)
  (hb:∀ us:List Value,us.length=ps.length→bindArgs (PySem.W.fnOf x x (L8 st) (E2 st) (e6 st) dV kV doc pm an cdv ct) ⟨us,[]⟩=pure (ps.zip us)):Df K mg x st ps :=
 ⟨f,_,⟨⟨oc,od,dV,kV,doc,pm,an,cdv,ct,osl,rfl,l,c⟩,k⟩,PySem.W.mg_of X G n,.all hb⟩
theorem Bb{x:Str}{st:Stmt}{ps:List Str}{h:Heap}{f:Addr}{oc:Value}{od an:Option Addr}{osl:Array (Option Value)}{dV kV doc pm cdv ct:Value}(X:K.In h)(G:h.Ns mainGlobals mg)
  (n:PySem.W.nsIn K mainGlobals x=some (some (.ref f)))
  (l:K.lookup f=some ⟨oc,od,.func (PySem.W.fnOf x x (L8 st) (E2 st) (e6 st) dV kV doc pm an cdv ct),osl⟩)
  (c:PySem.W.codeIn K cdv x=true) (k:PySem.W.keepIn K (.ref f)=true)
  (hb:∀ us:List Value,us.length=ps.length→bindArgs (PySem.W.fnOf x x (L8 st) (E2 st) (e6 st) dV kV doc pm an cdv ct) ⟨us,[]⟩=pure (ps.zip us)):DfL K mg x st ps :=
 ⟨f,_,⟨⟨oc,od,dV,kV,doc,pm,an,cdv,ct,osl,rfl,l,c⟩,k⟩,PySem.W.mg_of X G n,hb⟩
theorem Bc{x:Str}{st:Stmt}{ps:List Str}{h:Heap}{f:Addr}{oc:Value}{od an:Option Addr}{osl:Array (Option Value)}{dV kV doc pm cdv ct:Value}(X:K.In h)(G:h.Ns mainGlobals mg)
  (n:PySem.W.nsIn K mainGlobals x=some (some (.ref f)))
  (l:K.lookup f=some ⟨oc,od,.func (PySem.W.fnOf x x (L8 st) (E2 st) (e6 st) dV kV doc pm an cdv ct),osl⟩)
  (c:PySem.W.codeIn K cdv x=true) (k:PySem.W.keepIn K (.ref f)=true)
  (hb:∀ us:List Value,us.length=ps.length→∀ S,PySem.W.peek K S (bindArgs (PySem.W.fnOf x x (L8 st) (E2 st) (e6 st) dV kV doc pm an cdv ct) ⟨us,[]⟩)=some (ps.zip us)):Df K mg x st ps :=
 ⟨f,_,⟨⟨oc,od,dV,kV,doc,pm,an,cdv,ct,osl,rfl,l,c⟩,k⟩,PySem.W.mg_of X G n,fun s us X' hl=>by rw[Jd]at hl ⊢;exact PySem.W.kp_binds X' (hb us hl)⟩
end
section
variable {X:Cx} {x:Str} {p pos:Pos} {e:Expr} {es:List Expr} {t:DTA} {id T:String} {o:Expr} {to:DTE} {a b c:Expr} {ta tb tc:DTE}
theorem o9{g:DRC}(hc:S8 X (.builtin id) g)(hg:Gl X x)(hm:X.mg x=none)(hv:bootBuiltins x=some (.builtin id))(ha:JA X (e :: es) t)
  (hn:x ≠ "__name__" := by decide) (hdb:(x == ("__debug__" : Str))=false:=by decide) (he:starEach (e :: es) X.env=(false,eval e X.env) :: starEach es X.env:=by rfl) (hpl:(backTo pos (starEach es X.env)).any (·.1)=false:=by rfl):JE X (.Call (.Name x p) (e :: es) [] pos) (dCB g t):=⟨have ha:=ha.out;(rS hc hg hm hv ha hn hdb he hpl).imp fun _ _ _ h=>yO h⟩
theorem wQ{g:DRC}(hc:S8 X (.type T) g)(hg:Gl X x)(hm:X.mg x=none)(hv:bootBuiltins x=some (.type T))(ha:JA X (e :: es) t)
  (hn:x ≠ "__name__" := by decide) (hdb:(x == ("__debug__" : Str))=false:=by decide) (he:starEach (e :: es) X.env=(false,eval e X.env) :: starEach es X.env:=by rfl) (hpl:(backTo pos (starEach es X.env)).any (·.1)=false:=by rfl):JE X (.Call (.Name x p) (e :: es) [] pos) (dCB g t):=⟨have ha:=ha.out;(eo hc hg hm hv ha hn hdb he hpl).imp fun _ _ _ h=>yO h⟩
noncomputable def DI:D→Mem→DK→Prop:=fun x M R=>∃ i,x = .int i∧R (.int (Builtin.Int.intBits i:Nat)) M
theorem wR{apos cpos:Pos}(ho:JE X o to)(hbase:attributeBase o "bit_length" X.env (eval o X.env)=eval o X.env:=by rfl)(hline:(apos.endLine == cpos.line)=true:=by rfl):JE X (.Call (.Attribute o "bit_length" apos) [] [] cpos) (dUn DI to):=⟨have ho:=ho.out;(rT PySem.F.plainAttrs_int PySem.F.slot_int_bit_length PySem.F.type_int_bit_length wx ho hbase hline).imp (by rintro σ H Q ⟨e,M,R,ok,am,t,f⟩;exact⟨e,M,_,ok,am,t,fun x M1 ⟨i,z,r⟩ v H1 k1 a1 r1=>by
  subst z;cases r1;exact⟨rfl,i,rfl,rfl,f _ M1 r _ H1 k1 a1 (.int _)⟩⟩)⟩
theorem nj:OpR X (binaryOp .Add) (fun x y H Q=>∃ l b xs zs,x = .ref l∧y = .ref b∧SqL X.K H l xs∧SqL X.K H b zs∧xs.length+zs.length≤sizeLine∧∀ p,H p=none→Q (.ref p) (upd H p (.lst (xs++zs)))):=by
 intro pins s σ H x y v u Q I rx ry h
 obtain⟨l,b,xs,zs,rfl,rfl,hH,hB,hz,q⟩:=h
 cases rx
 cases ry
 obtain⟨its,r,pl,z1⟩:=I.list hH
 obtain⟨its2,r2,pl2,z2⟩:=I.list hB
 have hl:=r.length
 have hl2:=r2.length
 obtain⟨⟨cls,dd,data,sl⟩,ho,hc,n,hd⟩:=pl.isList
 obtain⟨⟨cls2,dd2,data2,sl2⟩,ho2,hc2,n2,hd2⟩:=pl2.isList
 simp only at hc hd hc2 hd2
 subst hc hd hc2 hd2
 have ea:its.toArray++its2.toArray=(its++its2).toArray:=by simp
 refine concat_meets ⟨_,ho,rfl⟩ ⟨_,ho2,rfl⟩ noFill_list_add seq_list_add PySem.F.slot_list_add PySem.F.entry_list_add (PySem.F.args_list_add_2 _ _) (list_addW l b its.toArray its2.toArray n n2 dd dd2 sl sl2 (by simp only[HC];omega)) ⟨ho,ho2,?_⟩
 rw[ea]
 exact⟨.ref _,_,I.lnew (t':=s.toks) (r.append r2) (by rw[HE];omega),rfl,q _ I.fresh⟩
noncomputable def E8(M:Mem):D→Option (List D)
 | .ref p=>match M p with
  | some (.lst ds)=>some ds
  | _=>none
 | .vl ds=>some ds
 | _=>none
theorem u6{K:Hi}{H:Hp}{M:Mem}{v:V}{d:D}{ds:List D}(am:j3 K H M)(h:Has K H v d)(e:E8 M d=some ds):∃ a xs,v = .ref a∧SqL K H a xs∧HasL K H xs ds:=by
 cases h with
 | ref p =>
  unfold E8 at e
  cases q:M p with
  | none=>simp[q]at e
  | some o =>
   cases o with
   | lst es =>
    simp only[q]at e
    cases e
    obtain⟨xs,hx,l⟩:=am.lst q
    exact⟨p,xs,rfl,SqL.of hx,l⟩
   | ins C fs=>simp[q]at e
   | dic hs kvs=>simp[q]at e
 | vl hq hl =>
  cases e
  exact Has.il (.vl hq hl)
 | _=>cases e
def DH:DR2:=fun x y M R=>∃ xs ys,E8 M x=some xs∧E8 M y=some ys∧xs.length+ys.length≤sizeLine∧∀ p,M p=none→R (.ref p) (j9 M p (.lst (xs++ys)))
theorem Dk:DOp X (binaryOp .Add) DH:=OpR.imp nj (by
 rintro x y H Q ⟨dx,dy,M,R,hx,hy,am,⟨xs,ys,e1,e2,hz,r⟩,f⟩
 obtain⟨a,vs,rfl,s1,l1⟩:=u6 am hx e1
 obtain⟨b,ws,rfl,s2,l2⟩:=u6 am hy e2
 refine⟨a,b,vs,ws,rfl,rfl,s1,s2,by rw[l1.length,l2.length];exact hz,fun p hp=>?_⟩
 exact f _ _ (r p (am.fresh hp)) _ _ (KT.alloc hp) (am.new hp (l1.append l2)) (.ref p))
end
theorem sl(n:Nat)(h:n≤1000:=by decide):n≤sizeLine:=Hx h (by decide)
section
variable {X:Cx}
open Classical in
def DF(neg:Bool):DR2:=fun x y M R=>cl 60 x=true∧cl 60 y=true∧R (.bl (neg.xor (decide (x=y)))) M
theorem si(hu:X.A.units+64<cLine):DOp X (compareOp .NotEq) (DF true):=OpR.imp (Dg hu) (by rintro _ _ _ _ ⟨dx,dy,M,R,hx,hy,am,⟨h1,h2,h3⟩,f⟩;exact⟨dx,dy,M,R,hx,hy,am,AV h3 h1 h2,f⟩)
theorem G8:DOp X (compareOp .Eq) (gF (fI fun i j=>.bl (decide (i=j)))):=OpR.imp Dc (by
 rintro x y H Q ⟨dx,dy,M,R,hx,hy,am,⟨z,e,r⟩,f⟩
 obtain⟨i,j,e1,e2,e3⟩:=gv e
 subst e1;subst e2;subst e3
 cases hx;cases hy
 refine⟨rfl,?_⟩
 have e:decide (V.int i=V.int j)=decide (i=j):=by simp
 rw[e]
 exact f _ M r _ H (KT.refl H) am (.bl _))
theorem rZ:DOp X (compareOp .NotEq) (gF (fI fun i j=>.bl (!decide (i=j)))):=OpR.imp CV (by
 rintro x y H Q ⟨dx,dy,M,R,hx,hy,am,⟨z,e,r⟩,f⟩
 obtain⟨i,j,e1,e2,e3⟩:=gv e
 subst e1;subst e2;subst e3
 cases hx;cases hy
 refine⟨rfl,?_⟩
 have e:decide (V.int i=V.int j)=decide (i=j):=by simp
 rw[e]
 exact f _ M r _ H (KT.refl H) am (.bl _))
end
theorem sQ{c:Prop}[Decidable c]{A B:Prop}(h1:c→A)(h2:¬ c→B):if decide c=true then A else B:=by
 by_cases h:c
 ·rw[if_pos (decide_eq_true h)];exact h1 h
 ·rw[if_neg (by rw[decide_eq_false h];exact HJ)];exact h2 h
theorem Du{c:Prop}[Decidable c]{A B:Prop}(h1:¬ c→A)(h2:c→B):if (!decide c)=true then A else B:=by
 by_cases h:c
 ·rw[decide_eq_true h];rw[if_neg (by decide)];exact h2 h
 ·rw[decide_eq_false h];rw[if_pos (by decide)];exact h1 h
theorem U4{n k:Nat}(h:n<2 ^ k)(hk:0<k):n.log2<k:=by
 rcases KY n with h0|h0
 ·subst h0;rw[Nat.log2_zero];exact hk
 ·exact(Kf (KI.mp h0)).mpr h
theorem A7{a b:Int}(m n:Nat)(ha:a.natAbs<2 ^ m)(hb:b.natAbs<2 ^ n)(h:m+n≤100000):IntMulOk a b:=by
 have hx:∀(x:Int) (k:Nat),x.natAbs<2 ^ k→Builtin.Int.intBits x≤k:=fun x k hx=>by
  unfold Builtin.Int.intBits
  split
  ·exact Ic _
  ·rename_i h0
   have:x.natAbs≠0:=by
    intro z;apply h0
    first|exact(by simpa using KZ.mp z)|(simp;omega)
   have:=(Kf this).mpr hx
   omega
 exact PySem.IntMulOk.of_le (hx a m ha) (hx b n hb) (by omega)
noncomputable def EO(t T:String):Option Bool:=if PySem.W.kitMeta T=true then(fastBuiltinMro t).map (·.contains (.type T))else none
theorem CC(K:Hi):uc K:=by
 intro t T b h
 unfold vx at h
 by_cases e:t=T
 ·subst e
  rw[if_pos rfl]at h
  cases h
  unfold PySem.W.kitOne
  rw[if_pos (beq_self_eq_true _)]
 ·rw[if_neg e]at h
  have hne:¬ (Value.type t == Value.type T)=true:=fun z=>e (by have:=eq_of_beq z;injection this)
  unfold PySem.W.kitOne
  rw[if_neg hne]
  show EO t T=some b
  split at h
  ·cases h;decide +kernel
  ·split at h
   ·rename_i hh
    obtain⟨ht,hT⟩:=hh
    simp only[Hr,HM,or_false]at ht hT
    cases h
    rcases ht with rfl|rfl|rfl|rfl|rfl|rfl|rfl<;>rcases hT with rfl|rfl|rfl|rfl|rfl<;>first|exact absurd rfl e|decide +kernel|(exfalso;simp_all)
   ·cases h
theorem kU{K:Hi}{H:Hp}{a:Addr}{ns:List Int}(hO:oX H)(hS:SqL K H a (ns.map V.int)):Has K H (.ref a) (.vl (ns.map D.int)):=by
 rcases hS with(h|⟨o,h⟩)|h
 ·rcases hO a with z|⟨o,xs,z⟩
  ·rw[z]at h;cases h
  ·rw[z]at h;cases h
 ·exact .vl (.inl ⟨o,h⟩) (HasL.ints ns)
 ·exact .vl (.inr fun _=>.inr h) (HasL.ints ns)
theorem AI{K:Hi}{H:Hp}{a:Addr}{ns:List Int}{sp:DSp}(hO:oX H)(hS:SqL K H a (ns.map V.int))(h:sp [.vl (ns.map D.int)] (fun _=>none) (fun d _=>d = .bl true) Y0) :
  iC K sp [.ref a] H (fun v _=>v = .bl true) (fun _ _ _=>False) :=
 ⟨[.vl (ns.map D.int)],fun _=>none,fun d _=>d = .bl true,Y0,.cons (kU hO hS) .nil,fun _ _ z=>(by cases z),h,fun d M' e v H' _ _ hv=>by subst e;cases hv;rfl,fun _ _ z=>z.elim⟩
section
variable {X:Cx} {o e:Expr} {es:List Expr} {to:DTE} {t:DTA} {name:Str} {apos cpos:Pos} {id:String}
noncomputable abbrev DRM:=D→List D→Mem→DK→Prop
noncomputable def upM(K:Hi)(g:DRM):V→List V→Hp→VK→Prop:=fun x xs H Q=>∃ dx ds M R,Has K H x dx∧HasL K H xs ds∧j3 K H M∧g dx ds M R∧cL K H R Q
def DMt(X:Cx)(id:String)(g:DRM):Prop:=MtR X id (upM X.K g)
theorem MtR.imp{r r':V→List V→Hp→VK→Prop}(h:MtR X id r)(i:∀ x xs H Q,r' x xs H Q→r x xs H Q):MtR X id r':=fun pins s σ H x xs v us Q I rx rv q=>h pins s σ H x xs v us Q I rx rv (i x xs H Q q)
def dLM(g:DRM)(to:DTE)(t:DTA):DTE:=fun e M R=>to e M fun x M1=>(∃ l ds,x = .ref l∧M1 l=some (.lst ds))∧t e M1 fun xs M2=>g x xs M2 R
theorem ny{g:DRM}(slot:Slot "list" name id)(hty:typeOf (.builtin id)=pure (.type "method_descriptor"))(hm:DMt X id g)(ho:JE X o to)(ha:JA X (e :: es) t)
  (hbase:attributeBase o name X.env (eval o X.env)=eval o X.env:=by rfl)
  (hfew:((backTo cpos (starEach (e :: es) X.env)).all (fun x=>!x.1) && (backToKw cpos (keywordEach [] X.env)).all (fun x=>x.1.isSome)
   && decide ((e :: es).length+([]:List Keyword).length+(if ([]:List Keyword).isEmpty then 0 else 1)<30))=true:=by rfl)
  (hline:(apos.endLine == cpos.line)=true:=by rfl) (hs:starEach (e :: es) X.env=(false,eval e X.env) :: starEach es X.env:=by rfl) (hplain:(backTo cpos (starEach es X.env)).any (·.1)=false:=by rfl):JE X (.Call (.Attribute o name apos) (e :: es) [] cpos) (dLM g to t):=⟨have ho:=ho.out;have ha:=ha.out;(CS PySem.F.plainAttrs_list slot hty hm ho ha hbase hfew hline hs hplain).imp (by rintro σ H Q ⟨e,M,R,ok,am,t,f⟩;exact⟨e,M,_,ok,am,t,fun x M1 ⟨⟨l,ds,z,hM⟩,h1⟩ v H1 k1 a1 r1=>by
  subst z
  have r1':=r1
  cases r1
  obtain⟨xs,hx,_⟩:=a1.lst hM
  refine⟨.inl ⟨rfl,xs,SqL.of hx⟩,e,M1,_,ok.mono k1,a1,h1,fun zs M2 h2 vs H2 k2 a2 r2=>?_⟩
  exact⟨_,zs,M2,R,r1'.mono k2,r2,a2,h2,f.mono (k1.trans k2)⟩⟩)⟩
theorem bC:∀{bs:List Bool} {us:List Value},i6 (bs.map V.bl) us→us=bs.map Value.bool
 | [],_,r=>by cases r;rfl
 | b :: bs,_,r=>by
  cases r with
  | cons r rr =>
   cases(show _=Value.bool b from r)
   rw[bC rr];rfl
theorem HasL.bools{K:Hi}{H:Hp}:∀{bs:List Bool} {vs:List V},HasL K H vs (bs.map D.bl)→vs=bs.map V.bl
 | [],_,r=>by cases r;rfl
 | b :: bs,_,r=>by
  cases r with
  | cons r rr=>cases r;rw[HasL.bools rr];rfl
noncomputable def fB(f:Bool→Bool→D):D→D→Option D
 | .bl i,.bl j=>some (f i j)
 | _,_=>none
end
section
variable {X:Cx}
def yu:DRC:=fun ds M R=>∃ x ys,ds=[x]∧E8 M x=some ys∧R (.tup ys) M
theorem Bn:S8 X (.type "tuple") yu:=v7.imp df (by
 rintro xs H Q ⟨ds,M,R,hl,am,⟨x,ys,z,e,r⟩,f⟩
 subst z
 obtain⟨v,rfl,hv⟩:=hl.one
 obtain⟨a,vs,rfl,s,l⟩:=u6 am hv e
 exact⟨a,vs,rfl,.inl ⟨s,fun p hp=>f _ M r _ _ (KT.alloc hp) (am.alloc hp) (.tup (SqT.of i4) (l.mono (KT.alloc hp)))⟩⟩)
end
section
variable {X:Cx} {st:Stmt} {B0:List Stmt} {t u:DTS}
def yC(t u:DTS):DTS:=fun F e M=>∃ P:Ev→Mem→Prop,t { F with nx:=P } e M∧∀ e' M',P e' M'→u F e' M'
theorem G9(h1:JS X st t)(h2:JSs X B0 u):JSs X (st :: B0) (yC t u):=⟨have h1:=h1.out;have h2:=h2.out;(jb h1 h2).imp (by rintro E σ H ⟨e,M,F,ok,am,⟨P,t,hP⟩,f⟩;exact⟨e,M,{ F with nx:=P },ok,am,t,⟨fun e' M' h σ' H' k a o=>⟨e',M',F,o,a,hP e' M' h,f.mono k⟩,f.rt,f.bk,f.ct⟩⟩)⟩
end
section
variable {X:Cx}
theorem oq(bs:List Bool):(Ih bs.length).all (fun i=>bs.getD i true)=bs.all id:=by
 have:(Ih bs.length).map (fun i=>bs.getD i true)=bs:=by
  apply Jt (by simp)
  intro i h1 h2
  simp[HB,h2]
 conv=>rhs;rw[← this]
 rw[List.all_map];rfl
theorem iD{prog:Program}{w:World}{A:Around}(bs:List Bool):TruthOf prog w A (fun i v=>(bs.map Value.bool).toArray[i]? = some v) (fun i=>bs.getD i true):=by
 intro i v s Q E h q
 have h':(bs.map Value.bool)[i]? = some v:=by simpa using h
 rw[HK]at h'
 cases e:bs[i]? with
 | none=>rw[e]at h';cases h'
 | some b =>
  rw[e]at h'
  cases h'
  have q':Q b s:=by simpa[HB,e]using q
  exact wpAny_truthy_bool q'
theorem oU(hc:X.calm=true):v7 X (.builtin "all") (fun xs H Q=>∃(l:Addr) (bs:List Bool),xs=[.ref l]∧SqL X.K H l (bs.map V.bl)∧Q (.bl (bs.all id)) H):=by
 intro pins s σ H xs us Q I r h
 obtain⟨l,bs,rfl,hS,q⟩:=h
 obtain⟨u,rfl,ru⟩:=iB r
 cases ru
 obtain⟨its,rv,p,_⟩:=I.list hS
 have hb:=bC rv
 subst hb
 have hl:s.heap.IsList l (bs.map Value.bool).toArray:=p.isList
 have hne:l≠s.heap.objs.size:=by
  obtain⟨o,e,_⟩:=id hl
  exact HQ (Hv e)
 refine call_all_walk (wpAny_pyIter_list hl ?_)
 refine⟨s.heap.objs.size,_,_,_,_,_,fun i=>bs.getD i true,rfl,Walks.list (A:=X.A.in1) (I.ok.hd hc) s.heap.objs.size l hne (bs.map Value.bool).toArray,⟨⟨_,HA _ rfl,rfl,rfl⟩,hl.at fun o e=>Hj _ e⟩,iD bs,fun h' tk kk=>?_⟩
 have e:(Ih (bs.map Value.bool).toArray.size).all (fun i=>bs.getD i true)=bs.all id:=by
  rw[show(bs.map Value.bool).toArray.size=bs.length by simp];exact oq bs
 rw[e]
 exact⟨.bl (bs.all id),H,I.kept fun b o z=>kk b o (by simp;exact HQ (Hv z)) (Hj _ z),rfl,q⟩
def DJ:DRC:=fun ds M R=>∃(d:D) (bs:List Bool),ds=[d]∧E8 M d=some (bs.map D.bl)∧R (.bl (bs.all id)) M
theorem Ek(hc:X.calm=true):S8 X (.builtin "all") DJ:=v7.imp (oU hc) (by
 rintro xs H Q ⟨ds,M,R,hl,am,⟨d,bs,z,hM,r⟩,f⟩
 subst z
 obtain⟨v,rfl,hv⟩:=hl.one
 obtain⟨a,vs,rfl,s,l⟩:=u6 am hv hM
 rw[l.bools]at s
 exact⟨a,bs,rfl,s,f _ M r _ H (KT.refl H) am (.bl _)⟩)
end
theorem Br:bootBuiltins "all" = some (.builtin "all"):=by decide +kernel
noncomputable def fS(f:Str→Str→D):D→D→Option D
 | .str i,.str j=>some (f i j)
 | _,_=>none
section
variable {X:Cx}
end
structure jY(K:Hi)(H1:Hp)(J:It)(ds:List D)(stay:Mem→Prop):Prop where
 go:∀ i H' M',i<ds.length→KT H1 H'→j3 K H' M'→stay M'→J.go i H'
 yld:∀ i H' M' x H'',i<ds.length→KT H1 H'→j3 K H' M'→stay M'→J.yld i H' x H''→∃ d,ds[i]? = some d∧KT H' H''∧j3 K H'' M'∧Has K H'' x d
 stop:∀ i H' M',ds.length≤i→KT H1 H'→j3 K H' M'→stay M'→J.stop i H'
 up:∀ M' p o,stay M'→M' p=none→stay (j9 M' p o)
def upI(K:Hi)(ti:DTI):TI:=fun σ H R=>∃ e M R',t5 K H σ e∧j3 K H M∧ti e M R'∧∀ ds stay M1,R' ds stay M1→∀ H1,KT H H1→j3 K H1 M1→∀ J,jY K H1 J ds stay→R J H1
def DPI(X:Cx)(tg iter:Expr)(ti:DTI):Prop:=PI X tg iter (upI X.K ti)
structure JI(X:Cx)(tg iter:Expr)(ti:DTI):Prop where
 out:DPI X tg iter ti
theorem PI.imp{X:Cx}{tg iter:Expr}{wi wi':TI}(h:PI X tg iter wi)(i:∀ σ H R,wi' σ H R→wi σ H R):PI X tg iter wi':=fun pins s σ H R I q=>h pins s σ H R I (i σ H R q)
section
variable {X:Cx} {tg iter:Expr} {ti:DTE} {ta:DTA}
theorem qF{K:Hi}{H1:Hp}{a:Addr}{xs:List V}{ds:List D}(s:SqT K H1 a xs)(l:HasL K H1 xs ds):jY K H1 (Itt K a) ds (fun _=>True) where
 go:=fun i H' M' hi k _ _=>⟨xs,_,k.sq s,Hu (by rw[l.length];exact hi)⟩
 yld:=fun i H' M' x H'' hi k am _ zz=>by
  obtain⟨e,y⟩:=zz
  subst e
  obtain⟨d,hd,r⟩:=l.getV (y xs (k.sq s))
  exact⟨d,hd,KT.refl _,am,r.mono k⟩
 stop:=fun i H' M' hi k _ _=>⟨xs,k.sq s,by rw[l.length];exact hi⟩
 up:=fun _ _ _ _ _=>trivial
theorem qH{K:Hi}{H1:Hp}{p:Addr}{ds:List D}:jY K H1 (Itl K p) ds (fun M'=>M' p=some (.lst ds)) where
 go:=fun i H' M' hi k am st=>by
  obtain⟨ys,hy,ly⟩:=am.lst st
  exact⟨ys,_,SqL.of hy,Hu (by rw[ly.length];exact hi)⟩
 yld:=fun i H' M' x H'' hi k am st zz=>by
  obtain⟨e,y⟩:=zz
  subst e
  obtain⟨ys,hy,ly⟩:=am.lst st
  obtain⟨d,hd,r⟩:=ly.getV (y ys (SqL.of hy))
  exact⟨d,hd,KT.refl _,am,r⟩
 stop:=fun i H' M' hi k am st=>by
  obtain⟨ys,hy,ly⟩:=am.lst st
  exact⟨ys,SqL.of hy,by rw[ly.length];exact hi⟩
 up:=fun M' q o st hq=>by rw[p7 (by intro e;subst e;rw[hq]at st;cases st)];exact st
theorem iy{K:Hi}{H1:Hp}{lo:Int}{n:Nat}:jY K H1 (Itr lo n) (D5 lo n) (fun _=>True) where
 go:=fun i H' M' hi k am st=>by rw[r9]at hi;exact hi
 yld:=fun i H' M' x H'' hi k am st zz=>by
  obtain⟨e,y⟩:=zz
  subst e;subst y
  rw[r9]at hi
  exact⟨_,bN hi,KT.refl _,am,.int _⟩
 stop:=fun i H' M' hi k am st=>by rw[r9]at hi;exact hi
 up:=fun _ _ _ _ _=>trivial
theorem R9{a:Expr}{p p2:Pos}(hr:Gl X "range")(hm:X.mg "range" = none)(ha:JA X [a] ta)(hs0:starEach [a] X.env=[(false,eval a X.env)]:=by rfl):JI X tg (.Call (.Name "range" p) [a] [] p2) (yA ta):=⟨have ha:=ha.out;PI.imp (oy hr hm ha hs0) (by rintro σ H R ⟨e,M,R',ok,am,t,f⟩;exact⟨e,M,_,ok,am,t,fun ds M1 ⟨j,z,b1,b2,r⟩ vs H1 k1 a1 r1=>by
  subst z
  obtain⟨v,rfl,hv⟩:=r1.one
  cases hv
  exact⟨j,rfl,b1,b2,f _ _ M1 r H1 k1 a1 _ iy⟩⟩)⟩
theorem sI{a b:Expr}{p p2:Pos}(hr:Gl X "range")(hm:X.mg "range" = none)(ha:JA X [a,b] ta)(hs0:starEach [a,b] X.env=[(false,eval a X.env),(false,eval b X.env)]:=by rfl)(hs1:starEach [b] X.env=[(false,eval b X.env)]:=by rfl):JI X tg (.Call (.Name "range" p) [a,b] [] p2) (tD ta):=⟨have ha:=ha.out;PI.imp (ox hr hm ha hs0 hs1) (by rintro σ H R ⟨e,M,R',ok,am,t,f⟩;exact⟨e,M,_,ok,am,t,fun ds M1 ⟨i,j,z,b1,r⟩ vs H1 k1 a1 r1=>by
  subst z
  cases r1 with
  | cons h1 r1 =>
   obtain⟨v,rfl,hv⟩:=r1.one
   cases h1
   cases hv
   exact⟨i,j,rfl,b1,f _ _ M1 r H1 k1 a1 _ iy⟩⟩)⟩
def o7(M:Mem)(x:D)(ds:List D):Prop:=x = .tup ds∨(∃ p,x = .ref p∧M p=some (.lst ds))∨x = .vl ds
noncomputable def eC:D→Bool
 | .tup _=>false
 | _=>true
theorem p9{K:Hi}{H:Hp}{M:Mem}{v:V}{x:D}{ds:List D}(h:o7 M x ds)(am:j3 K H M)(r:Has K H v x):∃ a xs,v = .ref a∧SqK K (eC x) H a xs∧HasL K H xs ds:=by
 rcases h with rfl|⟨p,rfl,m⟩|rfl
 rotate_left 2
 ·obtain⟨a,xs,e,sq,l⟩:=r.il
  exact⟨a,xs,e,sq,l⟩
 ·cases r with
  | tup s l=>exact⟨_,_,rfl,s,l⟩
 ·cases r
  obtain⟨xs,hx,l⟩:=am.lst m
  exact⟨p,xs,rfl,SqL.of hx,l⟩
theorem R1{M:Mem}{x:D}{ds:List D}{q:Addr}{o:MO}(h:o7 M x ds)(hq:M q=none):o7 (j9 M q o) x ds:=by
 rcases h with h|⟨p,e,h⟩|h
 ·exact .inl h
 ·exact .inr (.inl ⟨p,e,by rw[p7 (by intro e;subst e;rw[hq]at h;cases h)];exact h⟩)
 ·exact .inr (.inr h)
noncomputable def X8(ds es:List D):List D:=List.zipWith (fun a b=>.tup [a,b]) ds es
theorem Z7(ds es:List D):(X8 ds es).length=min ds.length es.length:=by simp[X8]
theorem pj{ds es:List D}{i:Nat}{a b:D}(h1:ds[i]? = some a)(h2:es[i]? = some b):(X8 ds es)[i]? = some (.tup [a,b]):=by
 unfold X8
 rw[List.getElem?_zipWith,h1,h2]
theorem qE{K:Hi}{H1:Hp}{x y:D}{l1 l2:Addr}{ds es:List D}(h1:Has K H1 (.ref l1) x)(h2:Has K H1 (.ref l2) y) :
  jY K H1 (Itz K (eC x) (eC y) l1 l2) (X8 ds es) (fun M'=>o7 M' x ds∧o7 M' y es) where
 go:=fun i H' M' hi k am zz=>by
  obtain⟨s1,s2⟩:=zz
  rw[Z7]at hi
  obtain⟨a,xs,e1,q1,m1⟩:=p9 s1 am (h1.mono k)
  obtain⟨b,ys,e2,q2,m2⟩:=p9 s2 am (h2.mono k)
  cases e1;cases e2
  exact⟨xs,ys,_,_,q1,q2,Hu (by rw[m1.length];omega),Hu (by rw[m2.length];omega)⟩
 yld:=fun i H' M' v H'' hi k am ⟨s1,s2⟩ ⟨T,a,b,hT,ev,eH,u1,u2⟩=>by
  subst ev;subst eH
  obtain⟨a',xs,e1,q1,m1⟩:=p9 s1 am (h1.mono k)
  obtain⟨b',ys,e2,q2,m2⟩:=p9 s2 am (h2.mono k)
  cases e1;cases e2
  obtain⟨d1,g1,r1⟩:=m1.getV (u1 xs q1)
  obtain⟨d2,g2,r2⟩:=m2.getV (u2 ys q2)
  have kt:KT H' (upd H' T (.tup [a,b])):=KT.alloc hT
  exact⟨_,pj g1 g2,kt,am.alloc hT,.tup (SqT.of i4) (.cons (r1.mono kt) (.cons (r2.mono kt) .nil))⟩
 stop:=fun i H' M' hi k am zz=>by
  obtain⟨s1,s2⟩:=zz
  rw[Z7]at hi
  obtain⟨a,xs,e1,q1,m1⟩:=p9 s1 am (h1.mono k)
  obtain⟨b,ys,e2,q2,m2⟩:=p9 s2 am (h2.mono k)
  cases e1;cases e2
  refine⟨xs,ys,q1,q2,?_⟩
  rw[m1.length,m2.length]
  omega
 up:=fun _ _ _ st hq=>⟨R1 st.1 hq,R1 st.2 hq⟩
def yy(ta:DTA):DTI:=fun e M R=>ta e M fun xs M1=>∃ x y ds es,xs=[x,y]∧o7 M1 x ds∧o7 M1 y es∧R (X8 ds es) (fun M'=>o7 M' x ds∧o7 M' y es) M1
theorem wJ{elts:List Expr}{kx:Nat}{tp:Pos}{a b:Expr}{p pos:Pos}(hg:Gl X "zip")(hm:X.mg "zip" = none)(ha:JA X [a,b] ta)
  (hs:starEach [a,b] X.env=[(false,eval a X.env),(false,eval b X.env)]:=by rfl) (hs2:starEach [b] X.env=[(false,eval b X.env)]:=by rfl):JI X (.Tuple elts kx tp) (.Call (.Name "zip" p) [a,b] [] pos) (yy ta):=⟨have ha:=ha.out;PI.imp (Ah hg hm ha hs hs2) (by rintro σ H R ⟨e,M,R',ok,am,t,f⟩;exact⟨e,M,_,ok,am,t,fun xs M1 ⟨x,y,ds,es,z,s1,s2,r⟩ vs H1 k1 a1 r1=>by
  subst z
  obtain⟨v,v',rfl,hv,hv'⟩:=r1.two
  obtain⟨a,zs,rfl,q1,m1⟩:=p9 s1 a1 hv
  obtain⟨b,ws,rfl,q2,m2⟩:=p9 s2 a1 hv'
  exact⟨_,_,a,b,rfl,⟨zs,q1⟩,⟨ws,q2⟩,f _ _ M1 r H1 k1 a1 _ (qE hv hv')⟩⟩)⟩
end
section
variable {X:Cx} {tg iter:Expr} {body:List Stmt} {ti:DTI} {g:DTG} {tb:DTS} {pos:Pos}
theorem o8(hp:PassesOwn (model X.prog X.w) X.A X.env X.xe)(hc:X.calm=true)(hi:JI X tg iter ti)(hg:JG X tg g)(hb:JSs X body tb)
  (hs:∀ x,foldedSetIterable iter X.env x=pure x:=by intro _;rfl):JS X (.For tg iter body [] pos) (DZ ti g tb):=⟨have hi:=hi.out;have hg:=hg.out;have hb:=hb.out;(Af hp hc hi hg hb hs).imp (by rintro E σ H ⟨e,M,F,ok,am,t,f⟩;exact⟨e,M,_,ok,am,t,fun ds stay M1 ⟨W,w0,hst,step,done⟩ H1 k1 a1 J wk=>by
  refine⟨fun i m σ' H'=>m=ds.length - i∧i≤ds.length∧∃ e' M',KT H1 H'∧t5 X.K H' σ' e'∧j3 X.K H' M'∧W i e' M',⟨ds.length,by simp,Ic _,e,M1,KT.refl H1,ok.mono k1,a1,w0⟩,?_⟩
  rintro i m σ2 H2 ⟨rfl,hi,e2,M2,k2,ok2,a2,w2⟩
  have st:=hst i e2 M2 hi w2
  by_cases hlt:i<ds.length
  ·refine .inr ⟨wk.go i H2 M2 hlt k2 a2 st,fun σ' H'=>∃ e' M',KT H1 H'∧t5 X.K H' σ' e'∧j3 X.K H' M'∧W (i+1) e' M',fun σ' H' h=>⟨ds.length - (i+1),by omega,rfl,hlt,h⟩,fun y H' yl=>?_⟩
   obtain⟨d,hd,k3,a3,r⟩:=wk.yld i H2 M2 y H' hlt k2 a2 st yl
   exact sY f k1 (k2.trans k3) (ok2.mono k3) a3 r (step i d e2 M2 hd w2)
  ·have e':i=ds.length:=by omega
   subst e'
   exact .inl ⟨wk.stop _ H2 M2 (Hy _) k2 a2 st,f.nx e2 M2 (done e2 M2 w2) σ2 H2 (k1.trans k2) a2 ok2⟩⟩)⟩
end
noncomputable def jV(n:Nat)(caps:List Nat)(e:Ev):Ev:=IJ n none++caps.map fun i=>(e[i]?).getD none
theorem xa{K:Hi}{H:Hp}{σ:St}{e:Ev}(n:Nat)(caps:List Nat)(ok:t5 K H σ e):t5 K H (gE n caps σ) (jV n caps e):=by
 refine⟨by simp[gE,jV],fun i d h=>?_⟩
 unfold jV at h
 unfold gE
 rw[Jx]at h ⊢
 rw[Jp]at h ⊢
 by_cases hi:i<n
 ·rw[if_pos hi]at h
  rw[Ir]at h
  split at h<;>cases h
 ·rw[if_neg hi]at h ⊢
  rw[HK]at h ⊢
  cases hj:caps[i - n]? with
  | none=>rw[hj]at h;cases h
  | some j =>
   rw[hj]at h
   have h':(e[j]?).getD none=some d:=by simpa using h
   have he:e[j]? = some (some d):=by
    cases q:e[j]? with
    | none=>rw[q]at h';cases h'
    | some z=>rw[q]at h';rw[show z=some d by simpa using h']
   obtain⟨v,h1,h2⟩:=ok.has j d he
   exact⟨v,by simp[h1],h2⟩
theorem oV{p:Str→Prop}{a:Str}(h:p a):∀ x∈[a],p x:=fun x hx=>by
 simp only[Hr,HM,or_false]at hx
 subst hx;exact h
section
variable {X:Cx}
def ET(K:Hi)(tl:TE):TI:=fun σ H R=>tl σ H fun x H1=>∃(a:Addr) (k:Bool),x = .ref a∧(∃ xs,SqK K k H1 a xs)∧R (if k=true then Itl K a else Itt K a) H1
theorem Ai{tg l:Expr}{tl:TE}(hl:PE X l tl):PI X tg l (ET X.K tl):=by
 intro pins s σ H R I h
 refine thn (hl pins s σ H _ I h) fun v s1 zz=>?_
 obtain⟨x,H1,I1,r1,q1⟩:=zz
 obtain⟨a,k,e,⟨xs,hq⟩,q⟩:=q1
 subst e
 cases r1
 obtain⟨its,rv,p⟩:=I1.sqk hq
 have nf:∀ b∈[s1.heap.objs.size],V0 X pins H1 b:=fun b hb=>by
  have e:b=s1.heap.objs.size:=by simpa using hb
  subst e
  exact I1.fpOk (Hy _) (I1.hok.fresh (Hy _))
 cases k with
 | true=>exact wpAny_pyIter_list p ⟨s1.heap.objs.size,[s1.heap.objs.size],_,_,H1,rfl,I1.kept (t':=s1.toks) fun b o e=>Hj _ e,nY a _,⟨_,HA _ rfl,rfl,rfl⟩,nf,q⟩
 | false=>exact wpAny_pyIter_tuple p ⟨s1.heap.objs.size,[s1.heap.objs.size],_,_,H1,rfl,I1.kept (t':=s1.toks) fun b o e=>Hj _ e,kg a _,⟨_,HA _ rfl,rfl,rfl⟩,nf,q⟩
def yz(ti:DTE):DTI:=fun e M R=>ti e M fun x M1=>∃ ds,o7 M1 x ds∧R ds (fun M'=>o7 M' x ds) M1
theorem C6{tg iter:Expr}{ti:DTE}(hi:JE X iter ti):JI X tg iter (yz ti):=⟨have hi:=hi.out;PI.imp (Ai hi) (by rintro σ H R ⟨e,M,R',ok,am,t,f⟩;exact⟨e,M,_,ok,am,t,fun x M1 ⟨ds,sq,r⟩ v H1 k1 a1 r1=>by
 have sq':=sq
 rcases sq with rfl|⟨p,rfl,hm⟩|rfl
 rotate_left 2
 ·obtain⟨a,xs,rfl,sq,l⟩:=r1.il
  have wk:jY X.K H1 (Itl X.K a) ds (fun M'=>o7 M' (.vl ds) ds):=⟨fun i H' M' hi k am _=>by
    obtain⟨a',ys,e,sq',l'⟩:=(r1.mono k).il
    cases e
    exact⟨ys,_,sq',Hu (by rw[l'.length];exact hi)⟩,
   fun i H' M' x H'' hi k am _ zz=>by
    obtain⟨e,y⟩:=zz
    subst e
    obtain⟨a',ys,e,sq',l'⟩:=(r1.mono k).il
    cases e
    obtain⟨d,hd,r⟩:=l'.getV (y ys sq')
    exact⟨d,hd,KT.refl _,am,r⟩,
   fun i H' M' hi k am _=>by
    obtain⟨a',ys,e,sq',l'⟩:=(r1.mono k).il
    cases e
    exact⟨ys,sq',by rw[l'.length];exact hi⟩,fun _ _ _ st hq=>R1 st hq⟩
  exact⟨a,true,rfl,⟨xs,sq⟩,f ds _ M1 r H1 k1 a1 _ wk⟩
 ·cases r1 with
  | tup s l =>
   refine⟨_,false,rfl,⟨_,s⟩,f ds _ M1 r H1 k1 a1 _ ?_⟩
   have w:=qF (K:=X.K) s l
   exact⟨fun i H' M' a b c _=>w.go i H' M' a b c trivial,fun i H' M' y H2 a b c _ g=>w.yld i H' M' y H2 a b c trivial g,fun i H' M' a b c _=>w.stop i H' M' a b c trivial,fun _ _ _ st hq=>R1 st hq⟩
 ·cases r1
  obtain⟨xs,hx,l⟩:=a1.lst hm
  refine⟨p,true,rfl,⟨xs,SqL.of hx⟩,f ds _ M1 r H1 k1 a1 _ ?_⟩
  have w:=qH (K:=X.K) (H1:=H1) (p:=p) (ds:=ds)
  have cv:∀{M':Mem},o7 M' (.ref p) ds→M' p=some (.lst ds):=fun z=>by
   rcases z with z|⟨p',z,h⟩|z
   ·cases z
   ·cases z;exact h
   ·cases z
  exact⟨fun i H' M' a b c z=>w.go i H' M' a b c (cv z),fun i H' M' y H2 a b c z g=>w.yld i H' M' y H2 a b c (cv z) g,fun i H' M' a b c z=>w.stop i H' M' a b c (cv z),fun _ _ _ st hq=>R1 st hq⟩⟩)⟩
end
theorem cf{M:Mem}{p:Addr}{ds:List D}(h:M p=some (.lst ds)):sF M (.ref p)=some ds.length:=by
 unfold sF;simp only[h]
theorem nT{ds:List D}{r:Int}(h0:0≤r)(h1:r<ds.length):∃ d,atI ds r=some d∧d∈ds:=by
 unfold atI ixN
 rw[if_pos h0,if_pos h1]
 have hl:r.toNat<ds.length:=by omega
 exact⟨ds[r.toNat],by simp[hl],Ja hl⟩
section
variable {X:Cx}
end
section
variable {X:Cx}
def nG:DRM:=fun x xs M R=>∃ l ds v,x = .ref l∧xs=[v]∧M l=some (.lst ds)∧ds.length<sizeLine∧R .non (j9 M l (.lst (ds++[v])))
theorem S3:DMt X "list.append" nG:=MtR.imp (r:=mX) ey (by
 rintro x xs H Q ⟨dx,ds,M,R,hx,hl,am,⟨l,es,v,e1,e2,hM,hz,r⟩,f⟩
 subst e1;subst e2
 cases hx
 obtain⟨w,rfl,hw⟩:=hl.one
 obtain⟨ys,hy,ly⟩:=am.lst hM
 exact⟨l,ys,w,rfl,rfl,hy,by rw[ly.length];exact hz,f _ _ r _ _ (KT.write hy) (am.write hy (ly.append (.cons hw .nil))) .non⟩)
end
theorem vq{M:Mem}{p:Addr}{ds:List D}(h:M p=some (.lst ds)):tyD M (.ref p)=some "list" := by
 unfold tyD;simp only[h]
section
variable {X:Cx}
end
noncomputable abbrev DTO:=Ev→Mem→(Option Int→Mem→Prop)→Prop
def upO(K:Hi)(t:DTO):TO:=fun σ H Q=>∃ e M R,t5 K H σ e∧j3 K H M∧t e M R∧∀ o M',R o M'→∀ H',KT H H'→j3 K H' M'→Q o H'
def DPO(X:Cx)(e:Option Expr)(t:DTO):Prop:=PO X e (upO X.K t)
structure JO(X:Cx)(e:Option Expr)(t:DTO):Prop where
 out:DPO X e t
def nP:DTO:=fun _ M R=>R none M
def yD(t:DTE):DTO:=fun e M R=>t e M fun x M1=>∃ i,x = .int i∧R (some i) M1
theorem PO.imp{X:Cx}{e:Option Expr}{t t':TO}(h:PO X e t)(i:∀ σ H Q,t' σ H Q→t σ H Q):PO X e t':=fun pins s σ H Q I q=>h pins s σ H Q I (i σ H Q q)
section
variable {X:Cx} {e:Expr} {te:DTE} {lo hi:Option Expr} {tl th:DTO} {pos p2:Pos}
theorem J1:JO X none nP:=⟨PO.imp vW (by rintro σ H Q ⟨e,M,R,ok,am,t,f⟩;exact f none M t H (KT.refl H) am)⟩
theorem I0(h:JE X e te):JO X (some e) (yD te):=⟨have h:=h.out;PO.imp (vV h) (by rintro σ H Q ⟨e,M,R,ok,am,t,f⟩;exact⟨e,M,_,ok,am,t,fun x M1 ⟨i,z,r⟩ v H1 k1 a1 r1=>by
 subst z;cases r1
 exact⟨i,rfl,f (some i) M1 r H1 k1 a1⟩⟩)⟩
noncomputable def Z4(ds:List D)(lo hi:Option Int):List D:=(ds.drop (HT.sIx ds.length 0 lo)).take (HT.sIx ds.length ds.length hi - HT.sIx ds.length 0 lo)
theorem HasL.cut{K:Hi}{H:Hp}{xs:List V}{ds:List D}(h:HasL K H xs ds)(lo hi:Option Int):HasL K H (jP xs lo hi) (Z4 ds lo hi):=by
 unfold jP Z4
 rw[h.length]
 exact(h.drop _).take _
def EW(x:D)(lo hi:Option Int)(M:Mem)(R:DK):Prop:=∃ ds,E8 M x=some ds∧∀ p,M p=none→R (.ref p) (j9 M p (.lst (Z4 ds lo hi)))
def dSl(te:DTE)(tl th:DTO):DTE:=fun e M R=>te e M fun x M1=>tl e M1 fun l M2=>th e M2 fun u M3=>EW x l u M3 R
theorem sN(he:JE X e te)(hl:JO X lo tl)(hu:JO X hi th):JE X (.Subscript e (.Slice lo hi none p2) pos) (dSl te tl th):=⟨have he:=he.out;have hl:=hl.out;have hu:=hu.out;(jd mO he hl hu).imp (by rintro σ H Q ⟨e,M,R,ok,am,t,f⟩;exact⟨e,M,_,ok,am,t,fun x M1 h1 v H1 k1 a1 r1=>⟨e,M1,_,ok.mono k1,a1,h1,fun l M2 h2 H2 k2 a2=>⟨e,M2,_,(ok.mono k1).mono k2,a2,h2,fun u M3 ⟨ds,hi,r⟩ H3 k3 a3=>by
  obtain⟨a,xs,rfl,sq,lx⟩:=u6 a3 ((r1.mono k2).mono k3) hi
  exact⟨a,xs,rfl,sq,fun p hp=>f _ _ (r p (a3.fresh hp)) _ _ ((k1.trans (k2.trans k3)).trans (KT.alloc hp)) (a3.new hp (lx.cut l u)) (.ref p)⟩⟩⟩⟩)⟩
end
noncomputable def P9(ds:List D):List D:=ds.mapIdx fun i d=>.tup [.int i,d]
theorem E1(ds:List D):(P9 ds).length=ds.length:=by simp[P9]
theorem oP{ds:List D}{i:Nat}{d:D}(h:ds[i]? = some d):(P9 ds)[i]? = some (.tup [.int i,d]):=by
 unfold P9
 rw[KC,h];rfl
theorem jJ{ds:List D}{i:Nat}{x:D}(h:(P9 ds)[i]? = some x):∃ d,ds[i]? = some d∧x = .tup [.int i,d]:=by
 unfold P9 at h
 rw[KC]at h
 cases e:ds[i]? with
 | none=>rw[e]at h;cases h
 | some d=>rw[e]at h;exact⟨d,rfl,(Option.some.inj h).symm⟩
theorem nX{K:Hi}{H1:Hp}{x:D}{l:Addr}{ds:List D}(h1:Has K H1 (.ref l) x):jY K H1 (Ite K (eC x) l) (P9 ds) (fun M'=>o7 M' x ds) where
 go:=fun i H' M' hi k am s1=>by
  rw[E1]at hi
  obtain⟨a,xs,e1,q1,m1⟩:=p9 s1 am (h1.mono k)
  cases e1
  exact⟨xs,_,q1,Hu (by rw[m1.length];omega)⟩
 yld:=fun i H' M' v H'' hi k am s1 zz=>by
  obtain⟨T,a,hT,ev,eH,u1⟩:=zz
  subst ev;subst eH
  obtain⟨a',xs,e1,q1,m1⟩:=p9 s1 am (h1.mono k)
  cases e1
  obtain⟨d1,g1,r1⟩:=m1.getV (u1 xs q1)
  have kt:KT H' (upd H' T (.tup [.int i,a])):=KT.alloc hT
  exact⟨_,oP g1,kt,am.alloc hT,.tup (SqT.of i4) (.cons (.int _) (.cons (r1.mono kt) .nil))⟩
 stop:=fun i H' M' hi k am s1=>by
  rw[E1]at hi
  obtain⟨a,xs,e1,q1,m1⟩:=p9 s1 am (h1.mono k)
  cases e1
  exact⟨xs,q1,by rw[m1.length];exact hi⟩
 up:=fun _ _ _ st hq=>R1 st hq
section
variable {X:Cx} {ta:DTA}
def tE(ta:DTA):DTI:=fun e M R=>ta e M fun xs M1=>∃ x ds,xs=[x]∧o7 M1 x ds∧R (P9 ds) (fun M'=>o7 M' x ds) M1
theorem jD{elts:List Expr}{kx:Nat}{tp:Pos}{a:Expr}{p pos:Pos}(hg:Gl X "enumerate")(hm:X.mg "enumerate" = none)(ha:JA X [a] ta)(hs:starEach [a] X.env=[(false,eval a X.env)]:=by rfl):JI X (.Tuple elts kx tp) (.Call (.Name "enumerate" p) [a] [] pos) (tE ta):=⟨have ha:=ha.out;PI.imp (vX hg hm ha hs) (by rintro σ H R ⟨e,M,R',ok,am,t,f⟩;exact⟨e,M,_,ok,am,t,fun xs M1 ⟨x,ds,z,s1,r⟩ vs H1 k1 a1 r1=>by
  subst z
  obtain⟨v,rfl,hv⟩:=r1.one
  obtain⟨a,zs,rfl,q1,m1⟩:=p9 s1 a1 hv
  exact⟨_,a,rfl,⟨zs,q1⟩,f _ _ M1 r H1 k1 a1 _ (nX hv)⟩⟩)⟩
end
noncomputable def aA(M:Mem)(a:Addr):Mem:=fun b=>if b=a then none else M b
theorem gz{M:Mem}{a b:Addr}(h:b≠a):aA M a b=M b:=by unfold aA;rw[if_neg h]
theorem cD{M:Mem}{a:Addr}{o:MO}(h:M a=none):aA (j9 M a o) a=M:=by
 funext b;unfold aA j9;by_cases e:b=a
 ·rw[if_pos e,e,h]
 ·rw[if_neg e,if_neg e]
section
variable {K:Hi} {H:Hp} {M:Mem} {p:Addr}
theorem j3.at{o:HO}(h:j3 K H M)(k:KT0 H (upd H p o))(hp:M p=none):j3 K (upd H p o) M:=fun a u m=>by
 cases u with
 | lst ds =>
  obtain⟨xs,z,l⟩:=h a _ m
  have hn:a≠p:=by intro e;subst e;rw[hp]at m;cases m
  exact⟨xs,by rw[g9 hn];exact z,l.mono0 k⟩
 | ins C fs =>
  obtain⟨C0,dx,ys,z,l,hc⟩:=h a _ m
  have hn:a≠p:=by intro e;subst e;rw[hp]at m;cases m
  exact⟨C0,dx,ys,by rw[g9 hn];exact z,l.mono0 k,hc⟩
 | dic hs kvs =>
  obtain⟨xs,z,l⟩:=h a _ m
  have hn:a≠p:=by intro e;subst e;rw[hp]at m;cases m
  exact⟨xs,by rw[g9 hn];exact z,l.mono0 k⟩
theorem j3.del(h:j3 K H M):j3 K H (aA M p):=fun a u m=>by
 by_cases e:a=p
 ·subst e;unfold aA at m;rw[if_pos rfl]at m;cases m
 ·rw[gz e]at m;exact h a u m
theorem oQ:aA M p p=none:=by unfold aA;rw[if_pos rfl]
theorem j3.none_ext{φ:Heap→Prop}(h:j3 K H M)(e:H p=some (.ext φ)):M p=none:=by
 cases q:M p with
 | none=>rfl
 | some o =>
  cases o with
  | lst ds=>obtain⟨xs,z,_⟩:=h p _ q;rw[e]at z;cases z
  | ins C fs=>obtain⟨_,dx,ys,z,_⟩:=h p _ q;rw[e]at z;cases z
  | dic hs kvs=>obtain⟨xs,z,_⟩:=h p _ q;rw[e]at z;cases z
end
section
variable {X:Cx} {x:Expr} {t:DTE} {es:List Expr} {tr:DTA} {pos:Pos}
def DY(t:DTE):DTE:=fun e M R=>t e M fun x M1=>∃ p ds,x = .ref p∧M1 p=some (.lst ds)∧R (.vl ds) (aA M1 p)
theorem gn(h:JE X x t):JE X x (DY t):=⟨have h:=h.out;(bQ h).imp (by rintro σ H Q ⟨e,M,R,ok,am,t,f⟩;exact⟨e,M,_,ok,am,t,fun d M1 ⟨p,ds,z,hm,r⟩ v H1 k1 a1 r1=>by
 subst z
 cases r1
 obtain⟨xs,hx,lx⟩:=a1.lst hm
 exact⟨p,xs,rfl,hx,fun o=>f _ _ r _ _ (k1.trans (KT.any hx)) (a1.del.at (KT.any hx).toKT0 oQ) (.vl (.inl ⟨o,i4⟩) (lx.mono (KT.any hx)))⟩⟩)⟩
def Ea(t:DTE):DTE:=fun e M R=>t e M fun x M1=>∃ M2:Mem,(∀ b o,M2 b=some o→M1 b=some o)∧R x M2
theorem cu(h:JE X x t):JE X x (Ea t):=⟨have h:=h.out;PE.imp h (by rintro σ H Q ⟨e,M,R,ok,am,t,f⟩;exact⟨e,M,_,ok,am,t,fun d M1 ⟨M2,hs,r⟩ v H1 k1 a1 r1=>f d M2 r v H1 k1 (fun a o q=>a1 a o (hs a o q)) r1⟩)⟩
def yG(t:DTA):DTE:=fun e M R=>t e M fun ds M1=>ds.length≤sizeLine∧R (.vl ds) M1
theorem aT{K:Hi}{H0 H:Hp}{M:Mem}{R:DK}{Q:VK}{vs:List V}{ds:List D}(f:cL K H0 R Q)(k:KT H0 H)(am:j3 K H M)(l:HasL K H vs ds)(r:R (.vl ds) M)(p:Addr)(hp:H p=none) :
  ∃ q xs,V.ref p = .ref q∧upd H p (.lst vs) q=some (.lst xs)∧∀ o,Q (.ref p) (upd (upd H p (.lst vs)) q (.frz o (.lst xs))) :=
 ⟨p,vs,rfl,i4,fun o=>by
  rw[V3]
  exact f _ M r _ _ (k.trans (KT.alloc hp)) (am.alloc hp) (.vl (.inl ⟨o,i4⟩) (l.mono (KT.alloc hp)))⟩
theorem F5(h:JA X es tr):JE X (.List es pos) (yG tr):=⟨have h:=h.out;(bQ (rO h)).imp (by rintro σ H Q ⟨e,M,R,ok,am,t,f⟩;exact⟨e,M,_,ok,am,t,fun ds M1 ⟨hz,h1⟩ vs H1 k1 a1 r1=>⟨by rw[r1.length];exact hz,fun p hp=>aT f k1 a1 r1 h1 p hp⟩⟩)⟩
def sX(x y:D)(M:Mem)(R:DK):Prop:=∃ xs ys,E8 M x=some xs∧E8 M y=some ys∧xs.length+ys.length≤sizeLine∧R (.vl (xs++ys)) M
def yJ(ta tb:DTE):DTE:=fun e M R=>ta e M fun x M1=>tb e M1 fun y M2=>sX x y M2 R
theorem gp{a b:Expr}{ta tb:DTE}(ha:JE X a ta)(hb:JE X b tb):JE X (.BinOp a .Add b pos) (yJ ta tb):=⟨have ha:=ha.out;have hb:=hb.out;(bQ (yp nj ha hb)).imp (by rintro σ H Q ⟨e,M,R,ok,am,t,f⟩;exact⟨e,M,_,ok,am,t,fun x M1 h1 v H1 k1 a1 r1=>⟨e,M1,_,ok.mono k1,a1,h1,fun y M2 ⟨xs,ys,e1,e2,hz,r⟩ u H2 k2 a2 r2=>by
  obtain⟨a,vs,rfl,s1,l1⟩:=u6 a2 (r1.mono k2) e1
  obtain⟨b,ws,rfl,s2,l2⟩:=u6 a2 r2 e2
  exact⟨a,b,vs,ws,rfl,rfl,s1,s2,by rw[l1.length,l2.length];exact hz,fun p hp=>aT f (k1.trans k2) a2 (l1.append l2) r p hp⟩⟩⟩)⟩
def wW(x:D)(lo hi:Option Int)(M:Mem)(R:DK):Prop:=(∃ ds,E8 M x=some ds∧R (.vl (Z4 ds lo hi)) M) ∨ ∃ ds,x = .tup ds∧¬ (HT.sIx ds.length 0 lo=0∧HT.sIx ds.length ds.length hi=ds.length)∧R (.tup (Z4 ds lo hi)) M
def DR(te:DTE)(tl th:DTO):DTE:=fun e M R=>te e M fun x M1=>tl e M1 fun l M2=>th e M2 fun u M3=>wW x l u M3 R
theorem S2{e:Expr}{te:DTE}{lo hi:Option Expr}{tl th:DTO}{p2:Pos}(he:JE X e te)(hl:JO X lo tl)(hu:JO X hi th):JE X (.Subscript e (.Slice lo hi none p2) pos) (DR te tl th):=⟨have he:=he.out;have hl:=hl.out;have hu:=hu.out;(wb (jd (SlR.or mO zI) he hl hu)).imp (by rintro σ H Q ⟨e,M,R,ok,am,t,f⟩;exact⟨e,M,_,ok,am,t,fun x M1 h1 v H1 k1 a1 r1=>⟨e,M1,_,ok.mono k1,a1,h1,fun l M2 h2 H2 k2 a2=>⟨e,M2,_,(ok.mono k1).mono k2,a2,h2,fun u M3 h3 H3 k3 a3=>by
  rcases h3 with⟨ds,hi,r⟩|⟨ds,rfl,hw,r⟩
  ·obtain⟨a,xs,rfl,sq,lx⟩:=u6 a3 ((r1.mono k2).mono k3) hi
   exact .inl ⟨a,xs,rfl,sq,fun p hp=>.inl (aT f (k1.trans (k2.trans k3)) a3 (lx.cut l u) r p hp)⟩
  ·cases(r1.mono k2).mono k3 with
   | tup sq lx =>
    exact .inr ⟨_,_,rfl,sq,by rw[lx.length];exact hw,fun p hp=>.inr (f _ M3 r _ _ ((k1.trans (k2.trans k3)).trans (KT.alloc hp)) (a3.alloc hp) (.tup (SqT.of i4) ((lx.cut l u).mono (KT.alloc hp))))⟩⟩⟩⟩)⟩
def gr(ds:List D)(M:Mem)(R:DK):Prop:=∃ x ys,ds=[x]∧o7 M x ys∧R (.vl ys) M
def tM(t:DTA):DTE:=fun e M R=>t e M fun ds M1=>gr ds M1 R
end
section
variable {X:Cx} {e:Expr} {es:List Expr} {t:DTA} {x:Str} {p pos:Pos}
theorem cq(hg:Gl X x)(hm:X.mg x=none)(hv:bootBuiltins x=some (.type "list"))(ha:JA X (e :: es) t)
  (hn:x ≠ "__name__" := by decide) (hdb:(x == ("__debug__" : Str))=false:=by decide) (he:starEach (e :: es) X.env=(false,eval e X.env) :: starEach es X.env:=by rfl) (hpl:(backTo pos (starEach es X.env)).any (·.1)=false:=by rfl):JE X (.Call (.Name x p) (e :: es) [] pos) (tM t):=⟨have ha:=ha.out;(bQ (eo gG hg hm hv ha hn hdb he hpl)).imp (by rintro σ H Q ⟨e,M,R,ok,am,t,f⟩;exact⟨e,M,_,ok,am,t,fun ds M1 ⟨d,ys,z,sq,r⟩ vs H1 k1 a1 r1=>by
  subst z
  obtain⟨v,rfl,hv⟩:=r1.one
  obtain⟨a,xs,rfl,q1,m1⟩:=p9 sq a1 hv
  refine⟨a,xs,rfl,?_,fun p hp=>aT f k1 a1 m1 r p hp⟩
  cases hk:eC d with
  | true=>rw[hk]at q1;exact .inl q1
  | false=>rw[hk]at q1;exact .inr q1⟩)⟩
variable {te:DTE} {pos':Pos}
end
section
variable {X:Cx}
def DE(neg:Bool):DR2:=fun x y M R=>∃ ds,cl 60 x=true∧o7 M y ds∧clL 59 ds=true∧R (.bl (neg.xor (@decide (x∈ds) (HR _)))) M
noncomputable def G1(h:Heap)(p:PyData)(y:Value):Bool:=@decide (∃ d as,Reads h y d as∧PyData.eqv d p=true) (HR _)
theorem oo{h:Heap}{p d:PyData}{y:Value}{as:List Addr}(c:d.canLay0=true)(r:Reads h y d as):G1 h p y=PyData.eqv d p:=by
 unfold G1
 cases e:PyData.eqv d p with
 | true=>exact @decide_eq_true _ (HR _) ⟨d,as,r,e⟩
 | false =>
  refine @decide_eq_false _ (HR _) ?_
  rintro⟨d',as',r',e'⟩
  rw[← SeqAt.Reads.unique d d' y as as' c r r',e]at e'
  cases e'
theorem S9{X:Cx}{pins:List (Addr × Obj)}{s:Shared}{σ:St}{H:Hp}{M:Mem}{B:Around}{x:D}{u:Value}{bs:List Addr}(I:Inv X pins σ H s)(am:j3 X.K H M)(hB:B.units+62<cLine)(cx:cl 60 x=true)(rx:Reads s.heap u (pyD x) bs) :
  ∀{ds:List D} {vs:List V} {us:List Value},clL 59 ds=true→HasL X.K H vs ds→i6 vs us→(∀ w∈us,SeqAt.EqAt B s w u (G1 s.heap (pyD x) w))∧us.any (G1 s.heap (pyD x)) = @decide (x∈ds) (HR _)
 | [],_,_,_,h,r=>by
  cases h;cases r
  refine⟨fun w hw=>(nomatch hw),?_⟩
  rw[List.any_nil]
  exact(@decide_eq_false _ (HR _) (fun z=>nomatch z)).symm
 | d :: ds,_,_,c,h,r=>by
  cases h with
  | cons h hl =>
   cases r with
   | cons r rl =>
    have c':cl 59 d=true∧clL 59 ds=true:=by simpa[clL]using c
    obtain⟨ih1,ih2⟩:=S9 I am hB cx rx c'.2 hl rl
    obtain⟨p1,p2,p3⟩:=eJ (M:=M) c'.1
    obtain⟨q1,q2,q3⟩:=eJ (M:=M) cx
    obtain⟨as,rd⟩:=P4 I am p1 h r
    have es:=oo (p:=pyD x) p2 rd
    refine⟨fun w hw=>?_,?_⟩
    ·rcases Hr.mp hw with rfl|hw
     ·rw[es]
      exact SeqAt.eqAt_reads _ _ B s _ _ _ _ rd rx p2 q2 (by have:=Ly (pyD d).depth (pyD x).depth;omega)
     ·exact ih1 w hw
    ·rw[LL,es,ih2]
     have ev:=lz c'.1 cx
     by_cases e:d=x
     ·rw[ev.mpr e]
      exact(@decide_eq_true _ (HR _) (by rw[e];exact Hq)).symm
     ·have:PyData.eqv (pyD d) (pyD x)=false:=by
       cases z:PyData.eqv (pyD d) (pyD x)with
       | false=>rfl
       | true=>exact absurd (ev.mp z) e
      rw[this,LM]
      congr 1
      refine propext ⟨fun z=>Hl _ z,fun z=>?_⟩
      rcases Hr.mp z with z|z
      ·exact absurd z.symm e
      ·exact z
theorem rY(hu:X.A.units+64<cLine):DOp X (compareOp .NotIn) (DE true):=by
 intro pins s σ H x y v u Q I rx ry h
 obtain⟨dx,dy,M,R,hx,hy,am,⟨ds,c1,sq,c2,r⟩,f⟩:=h
 obtain⟨a,xs,rfl,q1,m1⟩:=p9 sq am hy
 cases ry
 obtain⟨bs,rd⟩:=P4 I am (eJ (M:=M) c1).1 hx rx
 have fin:=f _ M r _ H (KT.refl H) am (.bl _)
 cases hk:eC dy with
 | true =>
  rw[hk]at q1
  obtain⟨its,rv,pl,hz⟩:=I.list q1
  obtain⟨i1,i2⟩:=S9 (B:=X.A.in1) I am (by show X.A.units+1+62<cLine;omega) c1 rd c2 m1 rv
  refine SeqAt.notIn_listAt (G1 s.heap (pyD dx)) pl.isList (fun w hw=>i1 w (by simpa using hw)) ⟨.bl _,H,I,rfl,?_⟩
  rw[show its.toArray.any (G1 s.heap (pyD dx))=its.any (G1 s.heap (pyD dx))by simp,i2]
  simpa using fin
 | false =>
  rw[hk]at q1
  obtain⟨its,rv,pl,hz⟩:=I.tuple q1
  obtain⟨i1,i2⟩:=S9 (B:=X.A.in1) I am (by show X.A.units+1+62<cLine;omega) c1 rd c2 m1 rv
  refine SeqAt.notIn_tupleAt (G1 s.heap (pyD dx)) pl (fun w hw=>i1 w (by simpa using hw)) ⟨.bl _,H,I,rfl,?_⟩
  rw[show its.toArray.any (G1 s.heap (pyD dx))=its.any (G1 s.heap (pyD dx))by simp,i2]
  simpa using fin
open Classical in
def AW(neg:Bool):DR2:=fun x y M R=>∃ p xs ys,x = .ref p∧y = .vl ys∧M p=some (.lst xs)∧clL 50 xs=true∧clL 50 ys=true∧R (.bl (neg.xor (decide (xs=ys)))) M
open Classical in
theorem sW{neg:Bool}{x y:D}{M:Mem}{R:DK}(h:AW neg x y M R):gEq neg x y M R:=by
 obtain⟨p,xs,ys,rfl,rfl,h1,c1,c2,r⟩:=h
 obtain⟨a,b,c⟩:=clL_py (M:=M) c1
 obtain⟨a2,b2,c2'⟩:=clL_py (M:=M) c2
 refine⟨_,_,.lst h1 a,.vl a2,?_,?_,?_⟩
 ·simp only[SeqAt.shaped,PyData.canLay0,b,JB,PyData.depth];exact decide_eq_true (by omega)
 ·simp only[SeqAt.shaped,PyData.canLay0,b2,JB,PyData.depth];exact decide_eq_true (by omega)
 ·have e:PyData.eqv (.list (pyDL xs)) (.list (pyDL ys))=decide (xs=ys):=by
   have:=clL_eqv c1 c2
   simp only[PyData.eqv]
   by_cases q:xs=ys
   ·rw[decide_eq_true q];exact this.mpr q
   ·rw[decide_eq_false q]
    cases z:PyData.eqvAll (pyDL xs) (pyDL ys)with
    | false=>rfl
    | true=>exact absurd (this.mp z) q
  rw[e];exact r
theorem De(hu:X.A.units+64<cLine):DOp X (compareOp .NotEq) (AW true):=OpR.imp (Dg hu) (by rintro _ _ _ _ ⟨dx,dy,M,R,hx,hy,am,h,f⟩;exact⟨dx,dy,M,R,hx,hy,am,sW h,f⟩)
end
noncomputable abbrev X7:=Ev→Mem→(Bool→Mem→Prop)→Prop
abbrev Eo(X:Cx)(ifs:List Expr)(t:X7):Prop:=aD X ifs (upT X.K t)
structure BB(X:Cx)(ifs:List Expr)(t:X7):Prop where
 out:Eo X ifs t
def Bf:X7:=fun _ M R=>R true M
theorem aD.imp{X:Cx}{ifs:List Expr}{t t':TT}(h:aD X ifs t)(i:∀ σ H Q,t' σ H Q→t σ H Q):aD X ifs t':=fun pins s σ H Q I q=>h pins s σ H Q I (i σ H Q q)
theorem J2{X:Cx}:BB X [] Bf:=⟨aD.imp rK (by rintro σ H Q ⟨e,M,R,ok,am,t,f⟩;exact f true M t H (KT.refl H) am)⟩
structure ui(e0:Ev)(g:DTG)(tc:X7)(te:DTE)(ds:List D)(stay:Mem→Prop)(M1:Mem)(E:List D→Mem→Prop)(W:Nat→List D→Mem→Prop):Prop where
 start:W 0 [] M1
 stays:∀ i ys M,i≤ds.length→W i ys M→stay M
 turn:∀(i:Nat) (d:D) ys M,ds[i]? = some d→W i ys M→g d e0 M fun e2 M2=>tc e2 M2 fun b M3=>if b=true then te e2 M3 fun v M4=>ys.length<sizeLine∧W (i+1) (ys++[v]) M4 else W (i+1) ys M3
 done:∀ ys M,W ds.length ys M→E ys M
def yU(e0:Ev)(g:DTG)(tc:X7)(te:DTE)(ds:List D)(stay:Mem→Prop)(M1:Mem)(R:DK):Prop:=∃ W,ui e0 g tc te ds stay M1 (fun ys M=>R (.vl ys) M) W
def kZ(n:Nat)(caps:List Nat)(ti:DTI)(g:DTG)(tc:X7)(te:DTE):DTE:=fun e M R=>ti e M fun ds stay M1=>yU (jV n caps e) g tc te ds stay M1 R
section
variable {X:Cx} {elt tg iter:Expr} {scope:Scope} {tgs cps:List Str} {caps:List Nat} {ti:DTI} {g:DTG} {tc:X7} {te:DTE} {pos:Pos} {ifs:List Expr}
def CWH(K:Hi)(H1:Hp)(D0:Addr)(len:Nat)(W:Nat→List D→Mem→Prop)(i m:Nat)(H':Hp):Prop:=m=len - i∧i≤len∧∃ M' ys xs,KT H1 H'∧j3 K H' M'∧H' D0=some (.lst xs)∧M' D0=none∧HasL K H' xs ys∧W i ys M'
theorem eG{K:Hi}{H1:Hp}{J:It}{ds:List D}{stay:Mem→Prop}{M1:Mem}{n:Nat}{caps:List Nat}{σ:St}{e:Ev}{E:List D→Mem→Prop}{W:Nat→List D→Mem→Prop}{D0:Addr}{Qd:Hp→Prop}(ok:t5 K H1 σ e)(a1:j3 K H1 M1)(wk:jY K H1 J ds stay)(hD:H1 D0=none)
  (C:ui (jV n caps e) g tc te ds stay M1 E W) (fin:∀ ys M xs H',KT H1 H'→j3 K H' M→H' D0=some (.lst xs)→M D0=none→HasL K H' xs ys→E ys M→Qd H') (i m:Nat) (H2:Hp) (w:CWH K H1 D0 ds.length W i m H2) :
  (J.stop i H2∧Qd H2)∨(J.go i H2∧∀ x H',J.yld i H2 x H'→(∃ p,qN p (upG K g) x (gE n caps σ) H' fun σ2 H3=>∃ p,qM p (upT K tc) σ2 H3 fun b H3'=>if b=true then ∃ p,qO p (up K te) σ2 H3' fun v H4 =>
   ∃ ys,H4 D0=some (.lst ys)∧ys.length<sizeLine∧∃ m',m'<m∧CWH K H1 D0 ds.length W (i+1) m' (upd H4 D0 (.lst (ys++[v])))else ∃ m',m'<m∧CWH K H1 D0 ds.length W (i+1) m' H3')):=by
 obtain⟨rfl,hi,M2,ys,xs,k2,a2,hx,hM,lx,w2⟩:=w
 have a2':j3 K H2 (j9 M2 D0 (.lst ys)):=fun a o q=>by
  by_cases e:a=D0
  ·subst e;rw[f6]at q;cases q;exact⟨xs,hx,lx⟩
  ·rw[p7 e]at q;exact a2 a o q
 have st:=wk.up _ D0 (.lst ys) (C.stays i ys M2 hi w2) hM
 by_cases hlt:i<ds.length
 ·refine .inr ⟨wk.go i H2 _ hlt k2 a2' st,fun y H' yl=>?_⟩
  obtain⟨d,hd,k3,a3',r⟩:=wk.yld i H2 _ y H' hlt k2 a2' st yl
  obtain⟨xs',hx',lx'⟩:=a3'.lst f6
  have a3:j3 K H' M2:=fun a o q=>by
   have e:a≠D0:=by intro e;subst e;rw[hM]at q;cases q
   exact a3' a o (by rw[p7 e];exact q)
  have kh:KT H' (upd H' D0 (X3 D0 xs')):=KT.any hx'
  have k1h:=(k2.trans k3).trans kh
  have same:∀{H3:Hp},H3 D0=some (X3 D0 xs')→upd (upd H3 D0 (.lst xs')) D0 (X3 D0 xs')=H3:=fun{H3} q=>by
   rw[V3];funext b;by_cases e:b=D0
   ·subst e;rw[i4,q]
   ·rw[g9 e]
  refine⟨D0,xs',hx',d,jV n caps e,M2,_,r.mono kh,xa n caps (ok.mono k1h),a3.at kh.toKT0 hM,C.turn i d ys M2 hd w2,fun e3 M3 h3 σ3 H3 k4 a4 ok3=>?_⟩
  have q3:H3 D0=some (X3 D0 xs'):=k4.ex D0 _ i4
  refine⟨q3,D0,xs',i4,?_⟩
  rw[same q3]
  refine⟨e3,M3,_,ok3,a4,h3,fun b M4 h4 H4 k5 a5=>?_⟩
  have q4:H4 D0=some (X3 D0 xs'):=k5.ex D0 _ q3
  refine⟨q4,?_⟩
  have kk:=k1h.trans (k4.trans k5)
  cases b with
  | false =>
   have h4':W (i+1) ys M4:=h4
   show ∃ m',m'<ds.length - i∧CWH K H1 D0 ds.length W (i+1) m' (upd H4 D0 (.lst xs'))
   exact⟨ds.length - (i+1),by omega,rfl,hlt,M4,ys,xs',kk.new hD,a5.at (KT0.ext q4) (a5.none_ext q4),i4,a5.none_ext q4,(lx'.mono (kh.trans (k4.trans k5))).mono0 (KT0.ext q4),h4'⟩
  | true =>
   show ∃ p,qO p (up K te) σ3 (upd H4 D0 (.lst xs')) _
   refine⟨D0,xs',i4,?_⟩
   rw[same q4]
   refine⟨e3,M4,_,ok3.mono k5,a5,h4,fun dv M5 ⟨hz,w5⟩ vv H5 k6 a6 r6=>?_⟩
   have q5:H5 D0=some (X3 D0 xs'):=k6.ex D0 _ q4
   refine⟨q5,xs',i4,by rw[lx'.length];exact hz,ds.length - (i+1),by omega,rfl,hlt,M5,ys++[dv],xs'++[vv],?_,?_,i4,a6.none_ext q5,?_,w5⟩
   ·rw[V3];exact(kk.trans k6).new hD
   ·rw[V3];exact a6.at (KT0.ext q5) (a6.none_ext q5)
   ·rw[V3];exact((lx'.mono (kh.trans (k4.trans (k5.trans k6)))).mono0 (KT0.ext q5)).append (.cons (r6.mono0 (KT0.ext q5)) .nil)
 ·have e':i=ds.length:=by omega
  subst e'
  exact .inl ⟨wk.stop _ H2 _ (Hy _) k2 a2' st,fin ys M2 xs H2 k2 a2 hx hM lx (C.done ys M2 w2)⟩
theorem cw(caps:List Nat)(tgs cps:List Str)(hc:X.calm=true)(hcell:∀ x∈scope.names,x.2 ≠ .cell)(hkind:scope.kind = .function)(hnames:∀ x∈scope.names,x.2 = .local→scope.names.lookup x.1=some .local)
  (hfr:∀ x∈scope.names,x.2 = .free→x.1∈cps) (hN:caps.map (fun i=>X.N[i]?)=cps.map some) (hX:∀ x∈cps,X.env.scope.names.lookup x=some .cell∧scope.names.lookup x=some .free)
  (hsc:∀ x∈cps,(relabel scope X.env).names.lookup x=some .cell∨(relabel scope X.env).names.lookup x=some .free)
  (hi:JI X tg iter ti) (hg:∀ cl s3 H3 C fp pins,JG (cxF X scope cl (tgs++cps) s3 H3 C fp pins) tg g) (hq:∀ cl s3 H3 C fp pins,BB (cxF X scope cl (tgs++cps) s3 H3 C fp pins) ifs tc) (he:∀ cl s3 H3 C fp pins,JE (cxF X scope cl (tgs++cps) s3 H3 C fp pins) elt te)
  (hs:∀ x,foldedSetIterable iter X.env x=pure x:=by intro _;rfl):JE X (.ListComp elt [⟨tg,iter,ifs,0⟩] scope pos) (kZ tgs.length caps ti g tc te):=⟨have hi:=hi.out;have hg:=fun v0 v1 v2 v3 v4 v5=>(hg v0 v1 v2 v3 v4 v5).out;have hq:=fun v0 v1 v2 v3 v4 v5=>(hq v0 v1 v2 v3 v4 v5).out;have he:=fun v0 v1 v2 v3 v4 v5=>(he v0 v1 v2 v3 v4 v5).out;(bQ (rR (tgs:=tgs) (cps:=cps) (caps:=caps) hc hcell hkind hnames hfr hN hX hsc hi (fun cl s3 H3 C fp pins=>nc (hg cl s3 H3 C fp pins)) (fun cl s3 H3 C fp pins=>ee (hq cl s3 H3 C fp pins)) (fun cl s3 H3 C fp pins=>nh (he cl s3 H3 C fp pins)) hs)).imp (by rintro σ H Q ⟨e,M,R,ok,am,t,f⟩;exact⟨e,M,_,ok,am,t,fun ds stay M1 hW H1 k1 a1 J wk=>by
  intro D0 hD
  obtain⟨W,C⟩:=hW
  refine⟨fun i m H'=>CWH X.K H1 D0 ds.length W i m H',⟨ds.length,by simp,Ic _,M1,[],[],KT.alloc hD,a1.alloc hD,i4,a1.fresh hD,.nil,C.start⟩,fun i m H2 w=>eG (Qd:=fun H'=>∃ p xs,V.ref D0 = .ref p∧H' p=some (.lst xs)∧∀ o,Q (.ref D0) (upd H' p (.frz o (.lst xs)))) (ok.mono k1) a1 wk hD C (fun ys M2 xs H' k2 a2 hx hM lx r=>?_) i m H2 w⟩
  exact⟨D0,xs,rfl,hx,fun o=>f _ M2 r _ _ (k1.trans (k2.trans (KT.any hx))) (a2.at (KT.any hx).toKT0 hM) (.vl (.inl ⟨o,i4⟩) (lx.mono (KT.any hx)))⟩⟩)⟩
theorem X2{i:Nat}{x:Str}{pos' pos2:Pos}(caps:List Nat)(tgs cps:List Str)(hNd:X.N.Nodup)(hxi:X.N[i]? = some x)(hx:Loc X.env.scope x)(hc:X.calm=true)(hcell:∀ x∈scope.names,x.2 ≠ .cell)(hkind:scope.kind = .function)(hnames:∀ x∈scope.names,x.2 = .local→scope.names.lookup x.1=some .local)
  (hfr:∀ x∈scope.names,x.2 = .free→x.1∈cps) (hN:caps.map (fun i=>X.N[i]?)=cps.map some) (hX:∀ x∈cps,X.env.scope.names.lookup x=some .cell∧scope.names.lookup x=some .free)
  (hsc:∀ x∈cps,(relabel scope X.env).names.lookup x=some .cell∨(relabel scope X.env).names.lookup x=some .free)
  (hi:JI X tg iter ti) (hg:∀ cl s3 H3 C fp pins,JG (cxF X scope cl (tgs++cps) s3 H3 C fp pins) tg g) (hq:∀ cl s3 H3 C fp pins,BB (cxF X scope cl (tgs++cps) s3 H3 C fp pins) ifs tc) (he:∀ cl s3 H3 C fp pins,JE (cxF X scope cl (tgs++cps) s3 H3 C fp pins) elt te)
  (hsw:swapsWith (.ListComp elt [⟨tg,iter,ifs,0⟩] scope pos) (some (.Name x pos')) pos2.line X.env=pure true:=by rfl) (hs:∀ x,foldedSetIterable iter X.env x=pure x:=by intro _;rfl) (hf:X.fn x=true∨X.env.scope.names.lookup x=some .local:=by first|exact .inl rfl|exact .inr rfl|assumption):JS X (.Assign [.Name x pos'] (.ListComp elt [⟨tg,iter,ifs,0⟩] scope pos) pos2) (tN (kZ tgs.length caps ti g tc te) (Z3 i)):=⟨have hi:=hi.out;have hg:=fun v0 v1 v2 v3 v4 v5=>(hg v0 v1 v2 v3 v4 v5).out;have hq:=fun v0 v1 v2 v3 v4 v5=>(hq v0 v1 v2 v3 v4 v5).out;have he:=fun v0 v1 v2 v3 v4 v5=>(he v0 v1 v2 v3 v4 v5).out;(vS (zZ (rG (tgs:=tgs) (cps:=cps) (caps:=caps) hc hcell hkind hnames hfr hN hX hsc hi (fun cl s3 H3 C fp pins=>nc (hg cl s3 H3 C fp pins)) (fun cl s3 H3 C fp pins=>ee (hq cl s3 H3 C fp pins)) (fun cl s3 H3 C fp pins=>nh (he cl s3 H3 C fp pins)) hNd hxi hx hf hs)) hsw).imp (by rintro E σ H ⟨e,M,F,ok,am,t,f⟩;exact⟨e,M,_,ok,am,t,fun ds stay M1 hW H1 k1 a1 J wk=>by
  intro D0 hD
  obtain⟨W,C⟩:=hW
  refine⟨fun i m H'=>CWH X.K H1 D0 ds.length W i m H',⟨ds.length,by simp,Ic _,M1,[],[],KT.alloc hD,a1.alloc hD,i4,a1.fresh hD,.nil,C.start⟩,fun j m H2 w=>eG (Qd:=fun H'=>∃ p xs,V.ref D0 = .ref p∧H' p=some (.lst xs)∧∀ o,E.nx (σ.set i (some (.ref D0))) (upd H' p (.frz o (.lst xs)))) (ok.mono k1) a1 wk hD C (fun ys M2 xs H' k2 a2 hx hM lx r=>?_) j m H2 w⟩
  exact⟨D0,xs,rfl,hx,fun o=>f.nx _ M2 r _ _ (k1.trans (k2.trans (KT.any hx))) (a2.at (KT.any hx).toKT0 hM) ((ok.mono (k1.trans (k2.trans (KT.any hx)))).set (.vl (.inl ⟨o,i4⟩) (lx.mono (KT.any hx))) i)⟩⟩)⟩
end
section
variable {X:Cx} {e:Expr} {te:DTE} {p1 p2 pos pos2:Pos}
theorem SqL.upd{K:Hi}{H:Hp}{a it:Addr}{xs:List V}{o:HO}(h:SqL K H a xs)(ne:a≠it):SqL K (upd H it o) a xs:=h.elim (fun z=>.inl (by unfold Rd at z ⊢;rw[g9 ne];exact z)) .inr
theorem SqK.upd{K:Hi}{k:Bool}{H:Hp}{a it:Addr}{xs:List V}{o:HO}(h:SqK K k H a xs)(ne:a≠it):SqK K k (L2.upd H it o) a xs:=by
 cases k with
 | true=>exact SqL.upd (show SqL K H a xs from h) ne
 | false=>exact(show SqT K H a xs from h).elim (fun z=>.inl (by unfold Rd at z ⊢;rw[g9 ne];exact z)) .inr
def tF(n:Nat)(t:Q6):DTG:=fun d e M R=>∃ ds,E8 M d=some ds∧ds.length=n∧t ds e M R
theorem sJ{xs:List Expr}{k:Nat}{t:Q6}{n:Nat}(hc:X.calm=true)(h:JGs X xs t)
  (hn:(assignEach xs X.env).length=n:=by rfl) (hst:(assignEach xs X.env).findIdx? (·.1)=none:=by rfl):JG X (.Tuple xs k pos) (tF n t):=⟨have h:=h.out;PG.imp (vZ hc h hn hst) (by
  rintro v σ H Q ⟨d,e,M,R,r,ok,am,⟨ds,hi,hl,g⟩,f⟩
  obtain⟨a,xs,e1,sq,lx⟩:=u6 am r hi
  exact⟨a,xs,e1,sq,by rw[lx.length];exact hl,ds,e,M,R,lx,ok,am,g,f⟩)⟩
end
end DL
namespace L2
open PySem PySem.Spec PyProof.Rows
section
variable {X:Cx} {pos:Pos}
end
end L2
namespace DL
open PySem PySem.Spec L2
open PyProof.Rows hiding St
section
variable {X:Cx}
end
section
variable {X:Cx}
end
section
variable {X:Cx} {a b c:Expr} {ta tb tc:DTE} {pos:Pos}
end
section
variable {K:Hi}
end
section
variable {X:Cx} {x:Expr} {t:DTE}
end
noncomputable def Dl(X:Cx):St:=IJ X.N.length none
def Cov(B s0:Heap)(H':Hp)(fs:List Addr)(h:Heap):Prop:=∀ b o,h.get? b=some o→((∃ u,H' b=some u) ∨ ∃ o0,s0.get? b=some o0)→b∉fs→B.get? b=some o
def Air(B:Heap)(l:List Env)(a:Addr)(cls a0:Value)(h:Heap):Prop:=Heap.FlyingW B l a cls a0 h ∨ ∃ env l' L,l=env :: l'∧env.frame=some L∧Heap.HeldW B l a cls a0 L h
section
variable {M:Model} {A:Around} {E:Value→Shared→Prop} {s:Shared} {B:Heap} {l outer:List Env} {env:Env} {L a:Addr} {cls a0:Value} {Q:Unit→Shared→Prop}
theorem Air.frames{h:Heap}(x:Air B l a cls a0 h):h.FunFrames B l:=by
 rcases x with x|⟨_,_,_,_,_,x⟩
 ·exact x.2.2.1
 ·exact x.2.2.1
theorem Air.base{h:Heap}(x:Air B l a cls a0 h):B.StaysIn h∧B.get? a=none:=by
 rcases x with x|⟨_,_,_,_,_,x⟩
 ·exact⟨x.1,x.2.1⟩
 ·exact⟨x.1,x.2.1⟩
theorem Air.data{h:Heap}(x:Air B l a cls a0 h):∃ oe vs,h.get? a=some oe∧oe.data = .fields vs:=by
 rcases x with⟨_,_,_,oe,vs,_,_,_,h1,_,h2,_⟩|⟨_,_,_,_,_,_,_,_,oe,vs,_,_,_,h1,_,h2,_⟩<;>exact⟨oe,vs,h1,h2⟩
end
noncomputable def XP(X:Cx)(mk:Bool)(EX:Value→Hp→Prop):Value→Shared→Prop:=fun e s' =>
 (mk=true∧∃ a cls h vs H',e = .ref a∧EX cls H'∧Heap.MadeExcOf h s'.heap a cls vs∧Inv X [] (Dl X) H' { s' with heap:=h }) ∨
 (∃ pins σ Hc sc a cls a0 H' B,Inv X pins σ Hc sc∧e = .ref a∧s'.os=sc.os∧AllBare s'.gens∧Un (frs X.stack) [] Hc H' sc.heap s'.heap∧HOk X.prog X.w H' s'.heap ∧
  X.base.StaysIn B∧Cov B sc.heap H' (frs X.stack) s'.heap∧Air B X.stack a cls a0 s'.heap∧EX cls H')
section
variable {P:Program} {w:World} {K:Hi} {mg:Str→Option Value} {base:Heap} {N:List Str} {qual:Str} {scope:Scope} {f:Addr} {cd:Value} {A:Around} {outer:List Env} {s:Shared} {H:Hp} {E:XK}
end
noncomputable def xN(x:Str):Value:=.str x 0
noncomputable def Fi(X:Cx)(H₀:Hp)(Y:DXK):Value→Hp→Prop:=fun c H'=>KT H₀ H'∧∃(x:Str) (C:Addr) (M':Mem),c = .ref C∧X.mg x=some (.ref C)∧j3 X.K H' M'∧Y (xN x) M'
noncomputable abbrev Cx.ex'(X:Cx)(mk:Bool)(H₀:Hp)(Y:DXK):Cx:=X.wish (XP X mk (Fi X H₀ Y))
section
variable {X:Cx} {mk:Bool} {H₀:Hp} {Y:DXK} {st:Stmt} {B0:List Stmt} {t u:DTS} {pos:Pos}
end
section
variable {P:Program} {w:World} {K:Hi} {mg:Str→Option Value} {base:Heap}
end
section
variable {X:Cx} {mk:Bool} {H₀:Hp} {Y:DXK} {pos cpos:Pos} {x:Str} {j:Nat} {ps:List Str} {sp:DSp} {p:Pos} {e:Expr} {es:List Expr} {t:DTA}
end
section
variable {X:Cx} {mk:Bool} {H₀:Hp} {Y:DXK} {pos:Pos} {e:Expr} {te:DTE}
end
section
variable {X:Cx} {mk:Bool} {EX:Value→Hp→Prop}
end
section
variable {X:Cx} {mk:Bool} {H₀:Hp} {Y:DXK} {pos:Pos} {c:Expr} {body:List Stmt} {tc:DTT} {tb:DTS}
end
section
variable {X:Cx} {H₀:Hp} {Y:DXK} {pos cpos np:Pos} {x:Str} {e₀:Expr} {te:DTE}
end
noncomputable abbrev Cx.pinned(X:Cx)(pn:List (Addr × Obj)):Cx:={ X with pn:=pn }
section
variable {X:Cx} {pins pn:List (Addr × Obj)} {σ:St} {H:Hp} {s:Shared}
end
section
variable {X:Cx} {body suite:List Stmt} {b0:Stmt} {c:Str} {np hpos pos:Pos} {tb:DXK→DTS} {ts:DTS}
end
section
variable {X:Cx} {body suite:List Stmt} {b0:Stmt} {c:Str} {np hpos pos:Pos} {tb:DXK→DTS} {ts:DTS}
end
end DL
namespace DL
open PySem PySem.Spec L2
def BlK(x:D)(M:Mem)(Q:Bool→Mem→Prop):Prop:=∃ k,x = .bl k∧Q k M
def IfK(c:Bool)(A B:Prop):Prop:=if c=true then A else B
def SzK(n:Nat)(A:Prop):Prop:=n≤sizeLine∧A
def En(i j:Nat)(ds:List D)(F:S7)(e:Ev)(M:Mem):Prop:=∃ x y,ds=[x,y]∧F.nx ((e.set i (some x)).set j (some y)) M
def xp(x:D)(M:Mem)(Q:List D→(Mem→Prop)→Mem→Prop):Prop:=∃ ds,o7 M x ds∧Q ds (fun M'=>o7 M' x ds) M
def uh(xs:List D)(M:Mem)(Q:List D→(Mem→Prop)→Mem→Prop):Prop:=∃ x ds,xs=[x]∧o7 M x ds∧Q (P9 ds) (fun M'=>o7 M' x ds) M
def ua(xs:List D)(M:Mem)(Q:List D→(Mem→Prop)→Mem→Prop):Prop:=∃ x y ds es,xs=[x,y]∧o7 M x ds∧o7 M y es∧Q (X8 ds es) (fun M'=>o7 M' x ds∧o7 M' y es) M
def Em(xs:List D)(M:Mem)(Q:List D→(Mem→Prop)→Mem→Prop):Prop:=∃ j:Int,xs=[.int j]∧-(2 ^ 62)≤j∧j<2 ^ 62∧Q (D5 0 j.toNat) (fun _=>True) M
def yR(xs:List D)(M:Mem)(Q:List D→(Mem→Prop)→Mem→Prop):Prop:=∃ i j:Int,xs=[.int i,.int j]∧(-(2 ^ 62)≤i∧i<2 ^ 62∧-(2 ^ 62)≤j∧j<2 ^ 62)∧Q (D5 i (j - i).toNat) (fun _=>True) M
def Q5(g:DTG)(tb:DTS)(F:S7)(ds:List D)(stay:Mem→Prop)(e:Ev)(M1:Mem):Prop:=∃ W:Nat→Ev→Mem→Prop,W 0 e M1∧(∀ i e M,i≤ds.length→W i e M→stay M) ∧
 (∀(i:Nat) (d:D) e M,ds[i]? = some d→W i e M→g d e M fun e2 M2=>tb { F with nx:=W (i+1),ct:=W (i+1),bk:=F.nx } e2 M2)∧∀ e M,W ds.length e M→F.nx e M
def BC(x:D)(M1:Mem)(R:DK):Prop:=∃ p ds,x = .ref p∧M1 p=some (.lst ds)∧R (.vl ds) (aA M1 p)
def yS(x:D)(M:Mem)(Q:Option Int→Mem→Prop):Prop:=∃ i,x = .int i∧Q (some i) M
def BE(x:D)(M1:Mem)(R:DK):Prop:=∃ M2:Mem,(∀ b o,M2 b=some o→M1 b=some o)∧R x M2
def LMK(x:D)(M:Mem)(A:Prop):Prop:=(∃ l ds,x = .ref l∧M l=some (.lst ds))∧A
end DL
namespace DL
open PySem PySem.Spec L2
open PyProof.Rows hiding St
section
variable {e:Ev} {M:Mem} {R:DK} {F:S7} {ta tb tc:DTE} {tA tB:DTT} {tr:DTA} {t u:DTS}
theorem z_C{d:D}:dC d e M R=R d M:=rfl
theorem Ck{g:DR2}:dOp g ta tb e M R=ta e M fun x M1=>tb e M1 fun y M2=>g x y M2 R:=rfl
theorem Ci{g:D→Mem→DK→Prop}:dUn g ta e M R=ta e M fun x M1=>g x M1 R:=rfl
theorem Cf{f:Int→Int→D}{i j:Int}:gF (fI f) (.int i) (.int j) M R=R (f i j) M:=propext ⟨fun zz=>by obtain⟨_,h,r⟩:=zz;cases h;exact r,fun r=>⟨_,rfl,r⟩⟩
theorem Cg{f:Bool→Bool→D}{i j:Bool}:gF (fB f) (.bl i) (.bl j) M R=R (f i j) M:=propext ⟨fun zz=>by obtain⟨_,h,r⟩:=zz;cases h;exact r,fun r=>⟨_,rfl,r⟩⟩
theorem Ce{f:Str→Str→D}{i j:Str}:gF (fS f) (.str i) (.str j) M R=R (f i j) M:=propext ⟨fun zz=>by obtain⟨_,h,r⟩:=zz;cases h;exact r,fun r=>⟨_,rfl,r⟩⟩
theorem Cd{C:Int→Int→Prop}{f:Int→Int→D}{i j:Int}:gI C f (.int i) (.int j) M R=(C i j∧R (f i j) M):=propext ⟨fun zz=>by obtain⟨_,_,h1,h2,c,r⟩:=zz;cases h1;cases h2;exact⟨c,r⟩,fun⟨c,r⟩=>⟨_,_,rfl,rfl,c,r⟩⟩
theorem Cc{f:Int→D}{i:Int}:gU f (.int i) M R=R (f i) M:=propext ⟨fun zz=>by obtain⟨_,h,r⟩:=zz;cases h;exact r,fun r=>⟨_,rfl,r⟩⟩
theorem qg{Q:Bool→Mem→Prop}:nO ta e M Q=ta e M fun x M'=>BlK x M' Q:=rfl
theorem yg{b:Bool}{Q:Bool→Mem→Prop}:BlK (.bl b) M Q=Q b M:=propext ⟨fun zz=>by obtain⟨_,h,r⟩:=zz;cases h;exact r,fun r=>⟨_,rfl,r⟩⟩
theorem yi{Q:Bool→Mem→Prop}:Eb tA tB e M Q=tA e M fun c M1=>IfK c (tB e M1 Q) (Q false M1):=rfl
theorem Cj{Q:Bool→Mem→Prop}:dOr tA tB e M Q=tA e M fun c M1=>IfK c (Q true M1) (tB e M1 Q):=rfl
theorem xS{Q:Bool→Mem→Prop}:DU tA e M Q=tA e M fun c M1=>Q (!c) M1:=rfl
theorem qC:yK ta tb e M R=ta e M fun x M1=>BlK x M1 fun c M1=>IfK c (tb e M1 R) (R (.bl false) M1):=rfl
theorem qm:yE ta e M R=ta e M fun x M1=>BlK x M1 fun c M1=>R (.bl (!c)) M1:=rfl
theorem Cn:dIf tA ta tb e M R=tA e M fun c M1=>IfK c (ta e M1 R) (tb e M1 R):=rfl
theorem xZ:DX tA t u F e M=tA e M fun c M1=>IfK c (t F e M1) (u F e M1):=rfl
theorem xT{Q:List D→Mem→Prop}:Bh e M Q=Q [] M:=rfl
theorem qz{Q:List D→Mem→Prop}:nQ ta tr e M Q=ta e M fun x M1=>tr e M1 fun xs M2=>Q (x :: xs) M2:=rfl
theorem xM:DQ tr e M R=tr e M fun ds M1=>SzK ds.length (R (.tup ds) M1):=rfl
theorem xW:DV tr e M R=tr e M fun ds M1=>SzK ds.length (∀ p,M1 p=none→R (.ref p) (j9 M1 p (.lst ds))):=rfl
theorem S6{x y z:D}(h:ixD M x y=some z):gIx x y M R=R z M:=propext ⟨fun zz=>by obtain⟨_,h',r⟩:=zz;rw[h]at h';cases h';exact r,fun r=>⟨_,h,r⟩⟩
theorem qv{neg:Bool}{x y:D}{b:Bool}(h:isD x y=some b):gIs neg x y M R=R (.bl (neg.xor b)) M:=propext ⟨fun zz=>by obtain⟨_,h',r⟩:=zz;rw[h]at h';cases h';exact r,fun r=>⟨_,h,r⟩⟩
theorem yf{neg:Bool}{x y:D}:DF neg x y M R=(cl 60 x=true∧cl 60 y=true∧R (.bl (neg.xor (@decide (x=y) (HR _)))) M):=rfl
theorem qB{sp:DSp}{dds:List D}{Y:DXK}:jN sp dds Y tr e M R=tr e M fun ds M1=>sp (ds++dds) M1 R Y:=rfl
theorem Co{g:DRC}:dCB g tr e M R=tr e M fun ds M1=>g ds M1 R:=rfl
theorem qp:yF F e M=F.nx e M:=rfl
theorem xP:DS t u F e M=t { F with nx:=u F } e M:=rfl
theorem qx:yH ta F e M=ta e M fun _ M1=>F.nx e M1:=rfl
theorem xQ:Bg ta F e M=ta e M F.rt:=rfl
theorem mE:tL F e M=False:=rfl
variable {Q:Ev→Mem→Prop}
theorem mj{i:Nat}{d:D}:Z3 i d e M Q=Q (e.set i (some d)) M:=rfl
theorem qf:yB [] e M Q=Q e M:=propext ⟨fun h=>h.2,fun h=>⟨rfl,h⟩⟩
theorem ml{g:DTG}{gs:Q6}{d:D}{ds:List D}:tI g gs (d :: ds) e M Q=g d e M fun e' M'=>gs ds e' M' Q:=propext ⟨fun zz=>by obtain⟨_,_,h,r⟩:=zz;cases h;exact r,fun r=>⟨_,_,rfl,r⟩⟩
theorem ik{n:Nat}{gs:Q6}{ds:List D}(h:ds.length=n):tF n gs (.vl ds) e M Q=gs ds e M Q:=propext ⟨fun zz=>by obtain⟨_,h',_,r⟩:=zz;cases h';exact r,fun r=>⟨_,rfl,h,r⟩⟩
theorem bA{n:Nat}{gs:Q6}{ds:List D}(h:ds.length=n):jM n gs (.tup ds) e M Q=gs ds e M Q:=propext ⟨fun zz=>by obtain⟨_,h',_,r⟩:=zz;cases h';exact r,fun r=>⟨_,rfl,h,r⟩⟩
theorem qe{to ti:DTE}{ts:nW}{d:D}:tH to ti ts d e M Q=to e M fun o M1=>ti e M1 fun i M2=>ts o i d M2 fun M3=>Q e M3:=rfl
theorem yh{g:DTG}:tN ta g F e M=ta e M fun x M1=>g x e M1 F.nx:=rfl
theorem xR{i j:Nat}:DT i j tr F e M=tr e M fun ds M1=>En i j ds F e M1:=rfl
theorem ql{i j:Nat}{x y:D}:En i j [x,y] F e M=F.nx ((e.set i (some x)).set j (some y)) M:=propext ⟨fun zz=>by obtain⟨_,_,h,r⟩:=zz;cases h;exact r,fun r=>⟨_,_,rfl,r⟩⟩
theorem yj{i:Int}:DM [.int i] M R=R (.int (i.natAbs:Int)) M:=propext ⟨fun zz=>by obtain⟨_,h,r⟩:=zz;cases h;exact r,fun r=>⟨_,rfl,r⟩⟩
theorem xV{i j:Int}:DC [.int i,.int j] M R=R (.int (max i j)) M:=propext ⟨fun zz=>by obtain⟨_,_,h,r⟩:=zz;cases h;exact r,fun r=>⟨_,_,rfl,r⟩⟩
theorem xU{i j:Int}:DB [.int i,.int j] M R=R (.int (min i j)) M:=propext ⟨fun zz=>by obtain⟨_,_,h,r⟩:=zz;cases h;exact r,fun r=>⟨_,_,rfl,r⟩⟩
theorem bB{d:D}{n:Nat}(h:sF M d=some n):oO [d] M R=R (.int (n:Int)) M:=propext ⟨fun zz=>by obtain⟨_,_,h',h2,r⟩:=zz;cases h';rw[h]at h2;cases h2;exact r,fun r=>⟨_,_,rfl,h,r⟩⟩
theorem j8{d:D}{ty T:String}{b:Bool}(h1:tyD M d=some ty)(h2:vx ty T=some b):u7 [d,.ty T] M R=R (.bl b) M:=propext ⟨fun zz=>by
 obtain⟨_,_,_,_,h,h1',h2',r⟩:=zz
 injection h with h h';subst h;injection h' with h';injection h' with h';subst h'
 rw[h1]at h1';cases h1';rw[h2]at h2';cases h2';exact r,fun r=>⟨_,_,_,_,rfl,h1,h2,r⟩⟩
theorem ya{c:Bool}{A B:Prop}:IfK c A B=((c=true→A)∧(c=false→B)):=by cases c<;>simp[IfK]
theorem xY{A B:Prop}:IfK true A B=A:=by simp[IfK]
theorem yb{A B:Prop}:IfK false A B=B:=by simp[IfK]
theorem A3{n:Nat}{A:Prop}(h:n≤1000):SzK n A=A:=propext ⟨fun h=>h.2,fun a=>⟨sl n h,a⟩⟩
theorem BQ{d:D}{r:Ev}:X5 0 (some d :: r) M R=R d M:=propext ⟨fun zz=>by obtain⟨_,h,q⟩:=zz;cases h;exact q,fun q=>⟨_,rfl,q⟩⟩
theorem Cb{y z:Option D}{r:Ev}:(y :: r:Ev).set 0 z=z :: r:=rfl
theorem BP{x0:Option D}{d:D}{r:Ev}:X5 1 (x0 :: some d :: r) M R=R d M:=propext ⟨fun zz=>by obtain⟨_,h,q⟩:=zz;cases h;exact q,fun q=>⟨_,rfl,q⟩⟩
theorem Ca{x0:Option D}{y z:Option D}{r:Ev}:(x0 :: y :: r:Ev).set 1 z=x0 :: z :: r:=rfl
theorem BO{x0 x1:Option D}{d:D}{r:Ev}:X5 2 (x0 :: x1 :: some d :: r) M R=R d M:=propext ⟨fun zz=>by obtain⟨_,h,q⟩:=zz;cases h;exact q,fun q=>⟨_,rfl,q⟩⟩
theorem BZ{x0 x1:Option D}{y z:Option D}{r:Ev}:(x0 :: x1 :: y :: r:Ev).set 2 z=x0 :: x1 :: z :: r:=rfl
theorem BN{x0 x1 x2:Option D}{d:D}{r:Ev}:X5 3 (x0 :: x1 :: x2 :: some d :: r) M R=R d M:=propext ⟨fun zz=>by obtain⟨_,h,q⟩:=zz;cases h;exact q,fun q=>⟨_,rfl,q⟩⟩
theorem BY{x0 x1 x2:Option D}{y z:Option D}{r:Ev}:(x0 :: x1 :: x2 :: y :: r:Ev).set 3 z=x0 :: x1 :: x2 :: z :: r:=rfl
theorem BM{x0 x1 x2 x3:Option D}{d:D}{r:Ev}:X5 4 (x0 :: x1 :: x2 :: x3 :: some d :: r) M R=R d M:=propext ⟨fun zz=>by obtain⟨_,h,q⟩:=zz;cases h;exact q,fun q=>⟨_,rfl,q⟩⟩
theorem BX{x0 x1 x2 x3:Option D}{y z:Option D}{r:Ev}:(x0 :: x1 :: x2 :: x3 :: y :: r:Ev).set 4 z=x0 :: x1 :: x2 :: x3 :: z :: r:=rfl
theorem BL{x0 x1 x2 x3 x4:Option D}{d:D}{r:Ev}:X5 5 (x0 :: x1 :: x2 :: x3 :: x4 :: some d :: r) M R=R d M:=propext ⟨fun zz=>by obtain⟨_,h,q⟩:=zz;cases h;exact q,fun q=>⟨_,rfl,q⟩⟩
theorem BW{x0 x1 x2 x3 x4:Option D}{y z:Option D}{r:Ev}:(x0 :: x1 :: x2 :: x3 :: x4 :: y :: r:Ev).set 5 z=x0 :: x1 :: x2 :: x3 :: x4 :: z :: r:=rfl
theorem BK{x0 x1 x2 x3 x4 x5:Option D}{d:D}{r:Ev}:X5 6 (x0 :: x1 :: x2 :: x3 :: x4 :: x5 :: some d :: r) M R=R d M:=propext ⟨fun zz=>by obtain⟨_,h,q⟩:=zz;cases h;exact q,fun q=>⟨_,rfl,q⟩⟩
theorem BV{x0 x1 x2 x3 x4 x5:Option D}{y z:Option D}{r:Ev}:(x0 :: x1 :: x2 :: x3 :: x4 :: x5 :: y :: r:Ev).set 6 z=x0 :: x1 :: x2 :: x3 :: x4 :: x5 :: z :: r:=rfl
theorem BJ{x0 x1 x2 x3 x4 x5 x6:Option D}{d:D}{r:Ev}:X5 7 (x0 :: x1 :: x2 :: x3 :: x4 :: x5 :: x6 :: some d :: r) M R=R d M:=propext ⟨fun zz=>by obtain⟨_,h,q⟩:=zz;cases h;exact q,fun q=>⟨_,rfl,q⟩⟩
theorem BU{x0 x1 x2 x3 x4 x5 x6:Option D}{y z:Option D}{r:Ev}:(x0 :: x1 :: x2 :: x3 :: x4 :: x5 :: x6 :: y :: r:Ev).set 7 z=x0 :: x1 :: x2 :: x3 :: x4 :: x5 :: x6 :: z :: r:=rfl
theorem BI{x0 x1 x2 x3 x4 x5 x6 x7:Option D}{d:D}{r:Ev}:X5 8 (x0 :: x1 :: x2 :: x3 :: x4 :: x5 :: x6 :: x7 :: some d :: r) M R=R d M:=propext ⟨fun zz=>by obtain⟨_,h,q⟩:=zz;cases h;exact q,fun q=>⟨_,rfl,q⟩⟩
theorem BS{x0 x1 x2 x3 x4 x5 x6 x7:Option D}{y z:Option D}{r:Ev}:(x0 :: x1 :: x2 :: x3 :: x4 :: x5 :: x6 :: x7 :: y :: r:Ev).set 8 z=x0 :: x1 :: x2 :: x3 :: x4 :: x5 :: x6 :: x7 :: z :: r:=rfl
theorem BH{x0 x1 x2 x3 x4 x5 x6 x7 x8:Option D}{d:D}{r:Ev}:X5 9 (x0 :: x1 :: x2 :: x3 :: x4 :: x5 :: x6 :: x7 :: x8 :: some d :: r) M R=R d M:=propext ⟨fun zz=>by obtain⟨_,h,q⟩:=zz;cases h;exact q,fun q=>⟨_,rfl,q⟩⟩
theorem BR{x0 x1 x2 x3 x4 x5 x6 x7 x8:Option D}{y z:Option D}{r:Ev}:(x0 :: x1 :: x2 :: x3 :: x4 :: x5 :: x6 :: x7 :: x8 :: y :: r:Ev).set 9 z=x0 :: x1 :: x2 :: x3 :: x4 :: x5 :: x6 :: x7 :: x8 :: z :: r:=rfl
theorem xv{x0 x1 x2 x3 x4 x5 x6 x7 x8 x9:Option D}{d:D}{r:Ev}:X5 10 (x0 :: x1 :: x2 :: x3 :: x4 :: x5 :: x6 :: x7 :: x8 :: x9 :: some d :: r) M R=R d M:=propext ⟨fun zz=>by obtain⟨_,h,q⟩:=zz;cases h;exact q,fun q=>⟨_,rfl,q⟩⟩
theorem xJ{x0 x1 x2 x3 x4 x5 x6 x7 x8 x9:Option D}{y z:Option D}{r:Ev}:(x0 :: x1 :: x2 :: x3 :: x4 :: x5 :: x6 :: x7 :: x8 :: x9 :: y :: r:Ev).set 10 z=x0 :: x1 :: x2 :: x3 :: x4 :: x5 :: x6 :: x7 :: x8 :: x9 :: z :: r:=rfl
theorem u8{M:Mem}{ds es:List D}:o7 M (.tup ds) es=(es=ds):=by
 apply propext
 constructor
 ·intro h
  rcases h with h|⟨_,h,_⟩|h
  ·injection h with h;exact h.symm
  ·exact absurd h (by intro z;cases z)
  ·exact absurd h (by intro z;cases z)
 ·intro h;exact .inl (by rw[h])
theorem p8{M:Mem}{ds es:List D}:o7 M (.vl ds) es=(es=ds):=by
 apply propext
 constructor
 ·intro h
  rcases h with h|⟨_,h,_⟩|h
  ·exact absurd h (by intro z;cases z)
  ·exact absurd h (by intro z;cases z)
  ·injection h with h;exact h.symm
 ·intro h;exact .inr (.inr (by rw[h]))
theorem j6{ds:List D}{n:Nat}{d:D}(h:ds[n]? = some d):atI ds (n:Int)=some d:=by
 obtain⟨hl,_⟩:=HN.mp h
 unfold atI ixN
 rw[if_pos (Int.natCast_nonneg n),if_pos (by omega)]
 simpa using h
theorem N9{M:Mem}{p:Addr}{ds:List D}(h:M p=some (.lst ds)):o7 M (.ref p) ds:=.inr (.inl ⟨p,rfl,h⟩)
theorem qr:yG tr e M R=tr e M fun ds M1=>SzK ds.length (R (.vl ds) M1):=rfl
theorem qA:yJ ta tb e M R=ta e M fun x M1=>tb e M1 fun y M2=>sX x y M2 R:=rfl
theorem xO{tl th:DTO}:DR ta tl th e M R=ta e M fun x M1=>tl e M1 fun l M2=>th e M2 fun u M3=>wW x l u M3 R:=rfl
theorem iw{Q:Option Int→Mem→Prop}:nP e M Q=Q none M:=rfl
theorem qk{Q:Option Int→Mem→Prop}:yD ta e M Q=ta e M fun x M1=>yS x M1 Q:=rfl
theorem mD{i:Int}{Q:Option Int→Mem→Prop}:yS (.int i) M Q=Q (some i) M:=propext ⟨fun zz=>by obtain⟨_,h,r⟩:=zz;cases h;exact r,fun r=>⟨_,rfl,r⟩⟩
theorem mF:tM tr e M R=tr e M fun ds M1=>gr ds M1 R:=rfl
theorem ip{ds:List D}:gr [.tup ds] M R=R (.vl ds) M:=propext ⟨fun zz=>by obtain⟨_,_,h,h2,r⟩:=zz;cases h;rw[u8]at h2;subst h2;exact r,fun r=>⟨_,_,rfl,.inl rfl,r⟩⟩
theorem qw{neg:Bool}{x:D}{ds:List D}:DE neg x (.vl ds) M R=(cl 60 x=true∧clL 59 ds=true∧R (.bl (neg.xor (@decide (x∈ds) (HR _)))) M):=propext ⟨fun zz=>by obtain⟨_,a,b,c,r⟩:=zz;rw[p8]at b;subst b;exact⟨a,c,r⟩,fun⟨a,c,r⟩=>⟨ds,a,by rw[p8],c,r⟩⟩
open Classical in
theorem wX{neg:Bool}{p:Addr}{xs ys:List D}(h:M p=some (.lst xs))(c1:clL 50 xs=true)(c2:clL 50 ys=true)(r:R (.bl (neg.xor (decide (xs=ys)))) M):AW neg (.ref p) (.vl ys) M R:=⟨p,xs,ys,rfl,rfl,h,c1,c2,r⟩
theorem dR{ds:List D}:gr [.vl ds] M R=R (.vl ds) M:=propext ⟨fun zz=>by obtain⟨_,_,h,h2,r⟩:=zz;cases h;rw[p8]at h2;subst h2;exact r,fun r=>⟨_,_,rfl,.inr (.inr rfl),r⟩⟩
theorem ij{ds:List D}:yu [.vl ds] M R=R (.tup ds) M:=propext ⟨fun zz=>by obtain⟨_,_,h,h2,r⟩:=zz;cases h;cases h2;exact r,fun r=>⟨_,_,rfl,rfl,r⟩⟩
theorem iq{xs ys:List D}:sX (.vl xs) (.vl ys) M R=SzK (xs.length+ys.length) (R (.vl (xs++ys)) M):=propext ⟨fun zz=>by obtain⟨_,_,h,h2,z,r⟩:=zz;cases h;cases h2;exact⟨z,r⟩,fun⟨z,r⟩=>⟨_,_,rfl,rfl,z,r⟩⟩
theorem mi{xs:List D}{lo hi:Option Int}:wW (.vl xs) lo hi M R=R (.vl (Z4 xs lo hi)) M:=propext ⟨fun h=>by
 rcases h with⟨_,h,r⟩|⟨_,h,_⟩
 ·cases h;exact r
 ·exact(nomatch h),fun r=>.inl ⟨_,rfl,r⟩⟩
theorem mh{xs:List D}{lo hi:Option Int}:wW (.tup xs) lo hi M R=(¬ (HT.sIx xs.length 0 lo=0∧HT.sIx xs.length xs.length hi=xs.length)∧R (.tup (Z4 xs lo hi)) M):=propext ⟨fun h=>by
 rcases h with⟨_,h,r⟩|⟨_,h,hw,r⟩
 ·cases h
 ·cases h;exact⟨hw,r⟩,fun⟨hw,r⟩=>.inr ⟨_,rfl,hw,r⟩⟩
theorem yc:DY ta e M R=ta e M fun x M1=>BC x M1 R:=rfl
theorem eP{p:Addr}{ds:List D}(h:M p=some (.lst ds)):BC (.ref p) M R=R (.vl ds) (aA M p):=propext ⟨fun zz=>by obtain⟨_,_,e,h',r⟩:=zz;cases e;rw[h]at h';cases h';exact r,fun r=>⟨_,_,rfl,h,r⟩⟩
theorem mI{n:Nat}{caps:List Nat}{ti:DTI}{g:DTG}{tc:X7}{te:DTE}:kZ n caps ti g tc te e M R=ti e M fun ds stay M1=>yU (jV n caps e) g tc te ds stay M1 R:=rfl
theorem xK{Q:Bool→Mem→Prop}:Bf e M Q=Q true M:=rfl
section
variable {Q:List D→(Mem→Prop)→Mem→Prop}
theorem mq:yz ta e M Q=ta e M fun x M1=>xp x M1 Q:=rfl
theorem qi{ds:List D}:xp (.tup ds) M Q=Q ds (fun M'=>o7 M' (.tup ds) ds) M:=propext ⟨fun zz=>by obtain⟨_,h,r⟩:=zz;rw[u8]at h;subst h;exact r,fun r=>⟨_,.inl rfl,r⟩⟩
theorem qh{ds:List D}:xp (.vl ds) M Q=Q ds (fun M'=>o7 M' (.vl ds) ds) M:=propext ⟨fun zz=>by obtain⟨_,h,r⟩:=zz;rw[p8]at h;subst h;exact r,fun r=>⟨_,.inr (.inr rfl),r⟩⟩
theorem iu:tE tr e M Q=tr e M fun xs M1=>uh xs M1 Q:=rfl
theorem mH{ds:List D}:uh [.tup ds] M Q=Q (P9 ds) (fun M'=>o7 M' (.tup ds) ds) M:=propext ⟨fun zz=>by obtain⟨_,_,h,h2,r⟩:=zz;cases h;rw[u8]at h2;subst h2;exact r,fun r=>⟨_,_,rfl,.inl rfl,r⟩⟩
theorem mG{ds:List D}:uh [.vl ds] M Q=Q (P9 ds) (fun M'=>o7 M' (.vl ds) ds) M:=propext ⟨fun zz=>by obtain⟨_,_,h,h2,r⟩:=zz;cases h;rw[p8]at h2;subst h2;exact r,fun r=>⟨_,_,rfl,.inr (.inr rfl),r⟩⟩
theorem mn:yy tr e M Q=tr e M fun xs M1=>ua xs M1 Q:=rfl
theorem mB{ds es:List D}:ua [.tup ds,.tup es] M Q=Q (X8 ds es) (fun M'=>o7 M' (.tup ds) ds∧o7 M' (.tup es) es) M:=propext ⟨fun zz=>by obtain⟨_,_,_,_,h,h2,h3,r⟩:=zz;cases h;rw[u8]at h2 h3;subst h2;subst h3;exact r,fun r=>⟨_,_,_,_,rfl,.inl rfl,.inl rfl,r⟩⟩
theorem mx{ds es:List D}:ua [.vl ds,.vl es] M Q=Q (X8 ds es) (fun M'=>o7 M' (.vl ds) ds∧o7 M' (.vl es) es) M:=propext ⟨fun zz=>by obtain⟨_,_,_,_,h,h2,h3,r⟩:=zz;cases h;rw[p8]at h2 h3;subst h2;subst h3;exact r,fun r=>⟨_,_,_,_,rfl,.inr (.inr rfl),.inr (.inr rfl),r⟩⟩
theorem mz{ds es:List D}:ua [.tup ds,.vl es] M Q=Q (X8 ds es) (fun M'=>o7 M' (.tup ds) ds∧o7 M' (.vl es) es) M:=propext ⟨fun zz=>by obtain⟨_,_,_,_,h,h2,h3,r⟩:=zz;cases h;rw[u8]at h2;rw[p8]at h3;subst h2;subst h3;exact r,fun r=>⟨_,_,_,_,rfl,.inl rfl,.inr (.inr rfl),r⟩⟩
theorem my{ds es:List D}:ua [.vl ds,.tup es] M Q=Q (X8 ds es) (fun M'=>o7 M' (.vl ds) ds∧o7 M' (.tup es) es) M:=propext ⟨fun zz=>by obtain⟨_,_,_,_,h,h2,h3,r⟩:=zz;cases h;rw[p8]at h2;rw[u8]at h3;subst h2;subst h3;exact r,fun r=>⟨_,_,_,_,rfl,.inr (.inr rfl),.inl rfl,r⟩⟩
theorem mr:yA tr e M Q=tr e M fun xs M1=>Em xs M1 Q:=rfl
theorem qj{j:Int}:Em [.int j] M Q=((-(2 ^ 62)≤j∧j<2 ^ 62)∧Q (D5 0 j.toNat) (fun _=>True) M):=propext ⟨fun zz=>by obtain⟨_,h,a,b,r⟩:=zz;cases h;exact⟨⟨a,b⟩,r⟩,fun⟨⟨a,b⟩,r⟩=>⟨_,rfl,a,b,r⟩⟩
theorem ir:tD tr e M Q=tr e M fun xs M1=>yR xs M1 Q:=rfl
theorem mC{i j:Int}:yR [.int i,.int j] M Q=((-(2 ^ 62)≤i∧i<2 ^ 62∧-(2 ^ 62)≤j∧j<2 ^ 62)∧Q (D5 i (j - i).toNat) (fun _=>True) M):=propext ⟨fun zz=>by obtain⟨_,_,h,a,r⟩:=zz;cases h;exact⟨a,r⟩,fun⟨a,r⟩=>⟨_,_,rfl,a,r⟩⟩
end
theorem yd{ti:DTI}{g:DTG}:DZ ti g t F e M=ti e M fun ds stay M1=>Q5 g t F ds stay e M1:=rfl
theorem Q5.by{g:DTG}{ds:List D}{stay:Mem→Prop}{M1:Mem}(W:Nat→Ev→Mem→Prop)(w0:W 0 e M1)(st:∀ i e M,i≤ds.length→W i e M→stay M)
  (turn:∀(i:Nat) (d:D) e M,ds[i]? = some d→W i e M→g d e M fun e2 M2=>t { F with nx:=W (i+1),ct:=W (i+1),bk:=F.nx } e2 M2) (done:∀ e M,W ds.length e M→F.nx e M):Q5 g t F ds stay e M1:=⟨W,w0,st,turn,done⟩
theorem gM{F:S7}(W:Nat→Ev→Mem→Prop)(m:Nat)(w0:W m e M)(turn:∀ m e M,W m e M→tA e M fun b M1=>IfK b (t { F with nx:=fun e' M'=>∃ m',m'<m∧W m' e' M',ct:=fun e' M'=>∃ m',m'<m∧W m' e' M',bk:=F.nx } e M1) (F.nx e M1)):tK tA t F e M:=⟨W,⟨m,w0⟩,turn⟩
theorem cJ{F:S7}(P:Ev→Mem→Prop)(h1:t { F with nx:=P } e M)(h2:∀ e' M',P e' M'→u F e' M'):yC t u F e M:=⟨P,h1,h2⟩
theorem Cm{g:DRM}:dLM g ta tr e M R=ta e M fun x M1=>LMK x M1 (tr e M1 fun xs M2=>g x xs M2 R):=rfl
theorem N5{x0:D}{r:List D}:gIx (.tup (x0 :: r)) (.int 0) M R=R x0 M:=S6 (j6 (n:=0) rfl)
theorem pX{x0:D}{r:List D}:gIx (.vl (x0 :: r)) (.int 0) M R=R x0 M:=S6 (j6 (n:=0) rfl)
theorem N4{x0 x1:D}{r:List D}:gIx (.tup (x0 :: x1 :: r)) (.int 1) M R=R x1 M:=S6 (j6 (n:=1) rfl)
theorem pW{x0 x1:D}{r:List D}:gIx (.vl (x0 :: x1 :: r)) (.int 1) M R=R x1 M:=S6 (j6 (n:=1) rfl)
theorem eO{x0 x1 x2:D}{r:List D}:gIx (.tup (x0 :: x1 :: x2 :: r)) (.int 2) M R=R x2 M:=S6 (j6 (n:=2) rfl)
theorem pV{x0 x1 x2:D}{r:List D}:gIx (.vl (x0 :: x1 :: x2 :: r)) (.int 2) M R=R x2 M:=S6 (j6 (n:=2) rfl)
theorem qd{x0 x1 x2 x3:D}{r:List D}:gIx (.tup (x0 :: x1 :: x2 :: x3 :: r)) (.int 3) M R=R x3 M:=S6 (j6 (n:=3) rfl)
theorem pU{x0 x1 x2 x3:D}{r:List D}:gIx (.vl (x0 :: x1 :: x2 :: x3 :: r)) (.int 3) M R=R x3 M:=S6 (j6 (n:=3) rfl)
theorem qc{x0 x1 x2 x3 x4:D}{r:List D}:gIx (.tup (x0 :: x1 :: x2 :: x3 :: x4 :: r)) (.int 4) M R=R x4 M:=S6 (j6 (n:=4) rfl)
theorem pT{x0 x1 x2 x3 x4:D}{r:List D}:gIx (.vl (x0 :: x1 :: x2 :: x3 :: x4 :: r)) (.int 4) M R=R x4 M:=S6 (j6 (n:=4) rfl)
theorem qb{x0 x1 x2 x3 x4 x5:D}{r:List D}:gIx (.tup (x0 :: x1 :: x2 :: x3 :: x4 :: x5 :: r)) (.int 5) M R=R x5 M:=S6 (j6 (n:=5) rfl)
theorem pS{x0 x1 x2 x3 x4 x5:D}{r:List D}:gIx (.vl (x0 :: x1 :: x2 :: x3 :: x4 :: x5 :: r)) (.int 5) M R=R x5 M:=S6 (j6 (n:=5) rfl)
theorem pZ{x0 x1 x2 x3 x4 x5 x6:D}{r:List D}:gIx (.tup (x0 :: x1 :: x2 :: x3 :: x4 :: x5 :: x6 :: r)) (.int 6) M R=R x6 M:=S6 (j6 (n:=6) rfl)
theorem pR{x0 x1 x2 x3 x4 x5 x6:D}{r:List D}:gIx (.vl (x0 :: x1 :: x2 :: x3 :: x4 :: x5 :: x6 :: r)) (.int 6) M R=R x6 M:=S6 (j6 (n:=6) rfl)
theorem pY{x0 x1 x2 x3 x4 x5 x6 x7:D}{r:List D}:gIx (.tup (x0 :: x1 :: x2 :: x3 :: x4 :: x5 :: x6 :: x7 :: r)) (.int 7) M R=R x7 M:=S6 (j6 (n:=7) rfl)
theorem pQ{x0 x1 x2 x3 x4 x5 x6 x7:D}{r:List D}:gIx (.vl (x0 :: x1 :: x2 :: x3 :: x4 :: x5 :: x6 :: x7 :: r)) (.int 7) M R=R x7 M:=S6 (j6 (n:=7) rfl)
theorem xG{A:Prop}:SzK (0) A=A:=A3 (by decide)
theorem xF{A:Prop}:SzK (0+1) A=A:=A3 (by decide)
theorem xE{A:Prop}:SzK (0+1+1) A=A:=A3 (by decide)
theorem xD{A:Prop}:SzK (0+1+1+1) A=A:=A3 (by decide)
theorem xC{A:Prop}:SzK (0+1+1+1+1) A=A:=A3 (by decide)
theorem xB{A:Prop}:SzK (0+1+1+1+1+1) A=A:=A3 (by decide)
theorem xA{A:Prop}:SzK (0+1+1+1+1+1+1) A=A:=A3 (by decide)
theorem xy{A:Prop}:SzK (0+1+1+1+1+1+1+1) A=A:=A3 (by decide)
theorem xx{A:Prop}:SzK (0+1+1+1+1+1+1+1+1) A=A:=A3 (by decide)
theorem xw{A:Prop}:SzK (0+1+1+1+1+1+1+1+1+1) A=A:=A3 (by decide)
theorem vg{i:Int}:cl 60 (.int i)=true:=rfl
theorem uW:cl 60 .non=true:=rfl
theorem uM{ds:List D}:cl 60 (.tup ds)=clL 59 ds:=rfl
theorem uG{ds:List D}:cl 60 (.vl ds)=clL 59 ds:=rfl
theorem uu:clL 59 []=true:=rfl
theorem uA{d:D}{r:List D}:clL 59 (d :: r)=(cl 59 d && clL 59 r):=rfl
theorem vh{i:Int}:cl 59 (.int i)=true:=rfl
theorem uX:cl 59 .non=true:=rfl
theorem uN{ds:List D}:cl 59 (.tup ds)=clL 58 ds:=rfl
theorem uH{ds:List D}:cl 59 (.vl ds)=clL 58 ds:=rfl
theorem uv:clL 58 []=true:=rfl
theorem uB{d:D}{r:List D}:clL 58 (d :: r)=(cl 58 d && clL 58 r):=rfl
theorem vj{i:Int}:cl 58 (.int i)=true:=rfl
theorem uY:cl 58 .non=true:=rfl
theorem uO{ds:List D}:cl 58 (.tup ds)=clL 57 ds:=rfl
theorem uI{ds:List D}:cl 58 (.vl ds)=clL 57 ds:=rfl
theorem uw:clL 57 []=true:=rfl
theorem uC{d:D}{r:List D}:clL 57 (d :: r)=(cl 57 d && clL 57 r):=rfl
theorem vk{i:Int}:cl 57 (.int i)=true:=rfl
theorem uZ:cl 57 .non=true:=rfl
theorem uP{ds:List D}:cl 57 (.tup ds)=clL 56 ds:=rfl
theorem uJ{ds:List D}:cl 57 (.vl ds)=clL 56 ds:=rfl
theorem ux:clL 56 []=true:=rfl
theorem uD{d:D}{r:List D}:clL 56 (d :: r)=(cl 56 d && clL 56 r):=rfl
theorem vm{i:Int}:cl 56 (.int i)=true:=rfl
theorem vb:cl 56 .non=true:=rfl
theorem uQ{ds:List D}:cl 56 (.tup ds)=clL 55 ds:=rfl
theorem uK{ds:List D}:cl 56 (.vl ds)=clL 55 ds:=rfl
theorem uy:clL 55 []=true:=rfl
theorem uE{d:D}{r:List D}:clL 55 (d :: r)=(cl 55 d && clL 55 r):=rfl
theorem vn{i:Int}:cl 55 (.int i)=true:=rfl
theorem vc:cl 55 .non=true:=rfl
theorem uR{ds:List D}:cl 55 (.tup ds)=clL 54 ds:=rfl
theorem uL{ds:List D}:cl 55 (.vl ds)=clL 54 ds:=rfl
theorem uz:clL 54 []=true:=rfl
theorem uF{d:D}{r:List D}:clL 54 (d :: r)=(cl 54 d && clL 54 r):=rfl
theorem qt{xs:List D}:oO [.vl xs] M R=R (.int (xs.length:Int)) M:=bB rfl
theorem qu{xs:List D}:oO [.tup xs] M R=R (.int (xs.length:Int)) M:=bB rfl
theorem zq{A:Prop}:SzK 1 A=A:=A3 (by decide)
theorem zp{A:Prop}:SzK 2 A=A:=A3 (by decide)
theorem zo{A:Prop}:SzK 3 A=A:=A3 (by decide)
theorem zj{A:Prop}:SzK 4 A=A:=A3 (by decide)
theorem zi{A:Prop}:SzK 5 A=A:=A3 (by decide)
theorem zh{A:Prop}:SzK 6 A=A:=A3 (by decide)
theorem ze{A:Prop}:SzK 7 A=A:=A3 (by decide)
theorem yZ{A:Prop}:SzK 8 A=A:=A3 (by decide)
theorem yY{A:Prop}:SzK 9 A=A:=A3 (by decide)
theorem ur{A:Prop}:SzK 10 A=A:=A3 (by decide)
theorem uq{A:Prop}:SzK 11 A=A:=A3 (by decide)
theorem uo{A:Prop}:SzK 12 A=A:=A3 (by decide)
theorem qD{bs:List Bool}:DJ [.vl (bs.map D.bl)] M R=R (.bl (bs.all id)) M:=propext ⟨fun zz=>by
 obtain⟨_,bs',e,h,r⟩:=zz
 cases e
 have e2:bs.map D.bl=bs'.map D.bl:=Option.some.inj h
 have e3:bs=bs':=(Io (fun a b z=>by injection z)).mp e2
 subst e3;exact r,fun r=>⟨_,bs,rfl,rfl,r⟩⟩
theorem ah:u7 [.dic,.ty "tuple"] M R=R (.bl false) M:=j8 rfl rfl
theorem bt:u7 [.dic,.ty "list"] M R=R (.bl false) M:=j8 rfl rfl
theorem dO:u7 [.dic,.ty "int"] M R=R (.bl false) M:=j8 rfl rfl
theorem bu:u7 [.dic,.ty "bool"] M R=R (.bl false) M:=j8 rfl rfl
theorem dN:u7 [.dic,.ty "str"] M R=R (.bl false) M:=j8 rfl rfl
theorem aa{ds:List D}:u7 [.tup ds,.ty "tuple"] M R=R (.bl true) M:=j8 rfl rfl
theorem bf{ds:List D}:u7 [.tup ds,.ty "list"] M R=R (.bl false) M:=j8 rfl rfl
theorem dE{ds:List D}:u7 [.tup ds,.ty "int"] M R=R (.bl false) M:=j8 rfl rfl
theorem bg{ds:List D}:u7 [.tup ds,.ty "bool"] M R=R (.bl false) M:=j8 rfl rfl
theorem dD{ds:List D}:u7 [.tup ds,.ty "str"] M R=R (.bl false) M:=j8 rfl rfl
theorem Z9{ds:List D}:u7 [.vl ds,.ty "tuple"] M R=R (.bl false) M:=j8 rfl rfl
theorem ba{ds:List D}:u7 [.vl ds,.ty "list"] M R=R (.bl true) M:=j8 rfl rfl
theorem dB{ds:List D}:u7 [.vl ds,.ty "int"] M R=R (.bl false) M:=j8 rfl rfl
theorem bc{ds:List D}:u7 [.vl ds,.ty "bool"] M R=R (.bl false) M:=j8 rfl rfl
theorem dA{ds:List D}:u7 [.vl ds,.ty "str"] M R=R (.bl false) M:=j8 rfl rfl
theorem ag{i:Int}:u7 [.int i,.ty "tuple"] M R=R (.bl false) M:=j8 rfl rfl
theorem bq{i:Int}:u7 [.int i,.ty "list"] M R=R (.bl false) M:=j8 rfl rfl
theorem dM{i:Int}:u7 [.int i,.ty "int"] M R=R (.bl true) M:=j8 rfl rfl
theorem br{i:Int}:u7 [.int i,.ty "bool"] M R=R (.bl false) M:=j8 rfl rfl
theorem dJ{i:Int}:u7 [.int i,.ty "str"] M R=R (.bl false) M:=j8 rfl rfl
theorem af:u7 [.non,.ty "tuple"] M R=R (.bl false) M:=j8 rfl rfl
theorem bo:u7 [.non,.ty "list"] M R=R (.bl false) M:=j8 rfl rfl
theorem dI:u7 [.non,.ty "int"] M R=R (.bl false) M:=j8 rfl rfl
theorem bp:u7 [.non,.ty "bool"] M R=R (.bl false) M:=j8 rfl rfl
theorem dH:u7 [.non,.ty "str"] M R=R (.bl false) M:=j8 rfl rfl
theorem ae{x:Str}:u7 [.str x,.ty "tuple"] M R=R (.bl false) M:=j8 rfl rfl
theorem bh{x:Str}:u7 [.str x,.ty "list"] M R=R (.bl false) M:=j8 rfl rfl
theorem dG{x:Str}:u7 [.str x,.ty "int"] M R=R (.bl false) M:=j8 rfl rfl
theorem bj{x:Str}:u7 [.str x,.ty "bool"] M R=R (.bl false) M:=j8 rfl rfl
theorem dF{x:Str}:u7 [.str x,.ty "str"] M R=R (.bl true) M:=j8 rfl rfl
theorem ai{b:Bool}:u7 [.bl b,.ty "tuple"] M R=R (.bl false) M:=j8 rfl rfl
theorem bx{b:Bool}:u7 [.bl b,.ty "list"] M R=R (.bl false) M:=j8 rfl rfl
theorem dQ{b:Bool}:u7 [.bl b,.ty "int"] M R=R (.bl true) M:=j8 rfl rfl
theorem bz{b:Bool}:u7 [.bl b,.ty "bool"] M R=R (.bl true) M:=j8 rfl rfl
theorem dP{b:Bool}:u7 [.bl b,.ty "str"] M R=R (.bl false) M:=j8 rfl rfl
theorem ye:Ea ta e M R=ta e M fun x M1=>BE x M1 R:=rfl
theorem aW{x:D}{ds:List D}{Q:List D→(Mem→Prop)→Mem→Prop}(h:o7 M x ds)(r:Q ds (fun M'=>o7 M' x ds) M):xp x M Q:=⟨ds,h,r⟩
theorem cI{l:Addr}{ds:List D}{A:Prop}(h:M l=some (.lst ds))(a:A):LMK (.ref l) M A:=⟨⟨l,ds,rfl,h⟩,a⟩
theorem gP{l:Addr}{ds:List D}{v:D}(h:M l=some (.lst ds))(hz:ds.length<1000)(r:R .non (j9 M l (.lst (ds++[v])))):nG (.ref l) [v] M R:=⟨l,ds,v,rfl,rfl,h,Ho hz (by decide),r⟩
theorem xo{p:Addr}{ds:List D}{j:Nat}{v:D}{Q:Mem→Prop}(h:M p=some (.lst ds))(hj:j<ds.length)(r:Q (j9 M p (.lst (ds.set j v)))):yv (.ref p) (.int (j:Int)) v M Q:=⟨p,ds,j,j,rfl,rfl,h,by unfold ixN;rw[if_pos (by omega),if_pos (by omega)];rfl,r⟩
theorem ug{x:D}{M1 M2:Mem}(h:∀ b o,M2 b=some o→M1 b=some o)(r:R x M2):BE x M1 R:=⟨M2,h,r⟩
end
theorem lB{p:Str→Prop}:∀ x∈([]:List Str),p x:=fun _ h=>nomatch h
section
variable {e0:Ev} {g:DTG} {te:DTE} {tc:X7} {ds:List D} {stay:Mem→Prop} {M1:Mem} {E:List D→Mem→Prop}
theorem J8{α:Type}{xs:List α}{enc:α→D}(f:α→D)(hn:xs.length≤1000)(hst:stay M1)(step:∀ x∈xs,∀ Q:DK,Q (f x) M1→g (enc x) e0 M1 fun e2 M2=>te e2 M2 Q)(h:E (xs.map f) M1):∃ W,ui e0 g Bf te (xs.map enc) stay M1 E W:=by
 refine⟨fun i ys M=>M=M1∧ys=(xs.take i).map f,⟨⟨rfl,rfl⟩,fun i ys M _ w=>by rw[w.1];exact hst,fun i d ys M hd w=>?_,fun ys M w=>?_⟩⟩
 ·obtain⟨rfl,rfl⟩:=w
  rw[HK]at hd
  cases hx:xs[i]? with
  | none=>rw[hx]at hd;cases hd
  | some x =>
   rw[hx]at hd
   obtain rfl:enc x=d:=by simpa using hd
   refine step x (HG hx) _ ⟨?_,rfl,?_⟩
   ·rw[Hk,HS]
    exact HV (Hx (Ki _ _) hn) (by decide)
   ·obtain⟨hl,he⟩:=HN.mp hx
    rw[List.take_succ_eq_append_getElem hl,Hw,he];rfl
 ·obtain⟨rfl,rfl⟩:=w
  rw[Hk,Ju];exact h
end
section
variable {X:Cx} {pos:Pos}
theorem jc{x:Str}{j k:Nat}{ps:List Str}{sp:DSp}{p:Pos}{e:Expr}{es:List Expr}{t:DTA}(G:Fn X.prog X.w X.K X.mg X.base x j ps sp)(hr:D3 k X.A)(ha:JA X (e :: es) t)(hk:j≤k:=by decide)(hg:Gl X x:=by rfl)
  (hdb:(x == ("__debug__" : Str))=false:=by decide) (he:starEach (e :: es) X.env=(false,eval e X.env) :: starEach es X.env:=by rfl) (hpl:(backTo pos (starEach es X.env)).any (·.1)=false:=by rfl):JE X (.Call (.Name x p) (e :: es) [] pos) (jN sp [] Y0 t):=sP G (hr.mono hk) hg ha hdb he hpl
theorem jx{a b:Expr}{ta tb:DTE}(ha:JE X a ta)(hb:JE X b tb)(hs:gN b:=by exact fun _ _=>rfl):JE X (.Subscript a b pos) (dOp gIx ta tb):=Ds Dw ha hb hs
theorem jst(i:Nat){x:Str}{e:Expr}{tx:DTE}{q:Pos}(hN:X.N.Nodup)(he:JE X e tx)(hi:X.N[i]? = some x:=by rfl)(hx:Loc X.env.scope x:=by first|exact .inl rfl|exact .inr rfl)(hs:swapsWith e (some (.Name x q)) pos.line X.env=pure false:=by rfl)
  (hf:X.fn x=true∨X.env.scope.names.lookup x=some .local:=by first|exact .inl rfl|exact .inr rfl|assumption):JS X (.Assign [.Name x q] e pos) (tN tx (Z3 i)):=wK hN hi hx he hs hf
theorem jn(i:Nat){x:Str}(hN:X.N.Nodup)(hi:X.N[i]? = some x:=by rfl)(hx:Loc X.env.scope x:=by first|exact .inl rfl|exact .inr rfl)(hf:X.fn x=true∨X.env.scope.names.lookup x=some .local:=by first|exact .inl rfl|exact .inr rfl|assumption):JG X (.Name x pos) (Z3 i):=sL hN hi hx hf
theorem jm{op:CmpOp}{g:DR2}{a b:Expr}{ta tb:DTE}(ho:DOp X (compareOp op) g)(ha:JE X a ta)(hb:JE X b tb)(hm:behindInMarks op b=false:=by first|exact sk _|with_unfolding_all rfl):JE X (.Compare a [op] [b] pos) (dOp g ta tb):=AO ho ha hb hm
theorem jtm{op:CmpOp}{g:DR2}{a b:Expr}{ta tb:DTE}(ho:DOp X (compareOp op) g)(ha:JE X a ta)(hb:JE X b tb)(hm:behindInMarks op b=false:=by first|exact sk _|with_unfolding_all rfl):JT X (.Compare a [op] [b] pos) (nO (dOp g ta tb)):=wO ho ha hb hm
end
end DL
namespace GM
open PySem PySem.Spec L2 DL
open PyProof.Rows hiding St
noncomputable def e9(q:Rat):D:=.tup [.int q.num,.int (q.den:Int)]
theorem P5{q r:Rat}(h:e9 q=e9 r):q=r:=by
 unfold e9 at h
 injection h with h
 injection h with h1 h2
 injection h1 with h1
 injection h2 with h2 _
 injection h2 with h2
 exact Rat.ext h1 (by omega)
theorem g6{q r:Rat}:e9 q=e9 r↔q=r:=⟨P5,fun h=>by rw[h]⟩
structure v8(M:Mem)(p:Addr):Prop where
 ex:∃ x y z:Int,M p=some (.lst [.int x,.int y,.int z])
def MK(M M':Mem):Prop:=∀ b o,M b=some o→M' b=some o
theorem MK.refl(M:Mem):MK M M:=fun _ _ h=>h
theorem MK.trans{M M1 M2:Mem}(a:MK M M1)(b:MK M1 M2):MK M M2:=fun c o h=>b c o (a c o h)
theorem MK.new{M:Mem}{p:Addr}{o:MO}(h:M p=none):MK M (j9 M p o):=fun b u e=>by
 have:b≠p:=by intro z;subst z;rw[h]at e;cases e
 rw[p7 this];exact e
theorem MK.pool{M M':Mem}(k:MK M M'){p:Addr}(h:v8 M p):v8 M' p:=let ⟨x,y,z,e⟩:=h.ex;⟨x,y,z,k _ _ e⟩
structure m6(p:Addr)(M M':Mem):Prop where
 keep:∀ b o,b≠p→M b=some o→M' b=some o
 pool:v8 M' p
theorem m6.refl{p:Addr}{M:Mem}(h:v8 M p):m6 p M M:=⟨fun _ _ _ h=>h,h⟩
theorem m6.trans{p:Addr}{M M1 M2:Mem}(a:m6 p M M1)(b:m6 p M1 M2):m6 p M M2:=⟨fun c o n h=>b.keep c o n (a.keep c o n h),b.pool⟩
theorem m6.mk'{p:Addr}{M M1:Mem}(h:v8 M p)(k:MK M M1):m6 p M M1:=⟨fun c o _ h=>k c o h,k.pool h⟩
theorem m6.upd{p:Addr}{M:Mem}(x y z:Int):m6 p M (j9 M p (.lst [.int x,.int y,.int z])):=⟨fun b o n h=>by rw[p7 n];exact h,⟨x,y,z,f6⟩⟩
theorem v8.ne{M:Mem}{p l:Addr}(h:v8 M p)(hl:M l=none):l≠p:=by
 intro e;subst e;obtain⟨x,y,z,q⟩:=h.ex;rw[hl]at q;cases q
def kn:DSp:=fun ds M R _=>∃ c:Int,ds=[.int c]∧∀ p M',M p=none→MK M M'→v8 M' p→R (.ref p) M'
def F9:DSp:=fun ds M R _=>∃(p:Addr) (b:Int),ds=[.ref p,.int b]∧v8 M p∧0<b∧b.natAbs.log2<9000∧∀(r:Int) M',0≤r→r<b→m6 p M M'→R (.int r) M'
def N7:DSp:=fun ds M R _=>∃ a b:Int,ds=[.int a,.int b]∧b≠0∧b.natAbs.log2<9000∧R (e9 (Iv a b)) M
def bG:DSp:=fun ds M R _=>∃ p:Addr,ds=[.ref p]∧v8 M p∧∀(q:Rat) M',RM.sz q≤41→m6 p M M'→R (e9 q) M'
theorem Ed:uk 10 18:=⟨by decide,by decide,by decide⟩
theorem Fd:uk 10 12:=⟨by decide,by decide,by decide⟩
theorem cp6:uk 10 6:=⟨by decide,by decide,by decide⟩
theorem wz{a b:Int}(h1:-(2 ^ 64)<a)(h2:a<2 ^ 64):IntMulOk a b:=.of_left (intBits_le_64 h1 h2)
theorem EN{a b:Int}(h1:-(2 ^ 64)<b)(h2:b<2 ^ 64):IntMulOk a b:=.of_right (intBits_le_64 h1 h2)
theorem EM{x m k b:Int}(hm:0<m)(hm2:m<2 ^ 60)(hk:0≤k)(hk2:k<2 ^ 60):IntMulOk (x % m+k) b:=by
 have h1:=Je x (show m≠0 by omega)
 have h2:=IL x hm
 exact wz (by omega) (by omega)
theorem Dp{x m b:Int}(hm:0<m)(hm2:m<2 ^ 60):IntMulOk (x % m) b:=by
 have h1:=Je x (show m≠0 by omega)
 have h2:=IL x hm
 exact wz (by omega) (by omega)
theorem Fe{i:Int}:CFd i 8:=⟨by decide,by decide⟩
theorem Ee{i:Int}:CFd i 20:=⟨by decide,by decide⟩
theorem xk{b:Int}{k:Nat}(h:b.natAbs.log2<k):Builtin.Int.intBits b≤k:=by
 unfold Builtin.Int.intBits
 split<;>omega
theorem gu{a b:Int}(ha:0≤a)(hb:0≤b):a.fdiv b=a / b:=Int.fdiv_eq_ediv_of_nonneg a hb
theorem nF{a b:Int}(hb:b≠0)(h:b.natAbs.log2<9000):((Ii a.natAbs b.natAbs:Nat):Int).natAbs.log2<9000:=by
 have hp:0<b.natAbs:=LJ.mpr hb
 have hle:Ii a.natAbs b.natAbs≤b.natAbs:=Nat.gcd_le_right _ hp
 have h1:b.natAbs<2 ^ 9000:=(Kf (by omega)).mp h
 rw[HF]
 exact U4 (HV hle h1) (by decide)
theorem kW{a b:Int}(hb:b≠0):((Ii a.natAbs b.natAbs:Nat):Int)≠0:=by
 have hp:0<b.natAbs:=LJ.mpr hb
 have:=Kb a.natAbs hp
 omega
theorem R8{a b s:Int}(hb:b≠0)(hs:s=if b<0 then -((Ii a.natAbs b.natAbs:Nat):Int)else((Ii a.natAbs b.natAbs:Nat):Int)){M:Mem}{R:DK}(k:R (e9 (Iv a b)) M) :
  R (.tup [.int (a.fdiv s),.int (b.fdiv s)]) M:=by
 obtain⟨h1,h2⟩:=RM.AG a b hb s hs
 rw[h1,h2];exact k
theorem P6{a b:Int}{n:Nat}(hn:0<n)(h1:a.natAbs<2 ^ n)(h2:b.natAbs<2 ^ n)(hb:b≠0):RM.sz (Iv a b)≤n :=
 Hx (RM.Q8 a b hb) (Kz.mpr ⟨RM.cG h1 hn,RM.cG h2 hn⟩)
theorem zx{q:Rat}{n:Nat}(h:RM.sz q≤n):q.num.natAbs.log2<n∧q.den.log2<n:=by
 have h1:=RM.J9 q
 have h2:=RM.B8 q
 unfold RM.bl at h1 h2
 omega
def mM:DSp:=fun ds M R _=>∃ n:Int,ds=[.int n]∧R (.bl true) M
end GM
namespace GM
open PySem PySem.Spec L2 DL
def mN:DSp:=fun ds _ R _=>∃ ns:List Int,ds=[.vl (ns.map D.int)]∧ns.length≤63∧∀ M',R (.bl true) M'
end GM
namespace GM
open PySem PySem.Spec L2 DL
open RM (sz)
def R0:DSp:=fun ds M R _=>∃ a b:Nat,ds=[.int (a:Int),.int (b:Int)]∧R (.int ((Ii a b:Nat):Int)) M
def bF:DSp:=fun ds M R _=>∃ q:Rat,ds=[e9 q]∧R (e9 (-q)) M
def bE:DSp:=fun ds M R _=>∃ q r:Rat,ds=[e9 q,e9 r]∧sz q+sz r≤8900∧R (e9 (q+r)) M
def Q9:DSp:=fun ds M R _=>∃ q r:Rat,ds=[e9 q,e9 r]∧sz q+sz r≤8900∧R (e9 (q - r)) M
def F1:DSp:=fun ds M R _=>∃ q r:Rat,ds=[e9 q,e9 r]∧sz q+sz r≤8900∧R (e9 (q*r)) M
def ko:DSp:=fun ds M R _=>∃ q r:Rat,ds=[e9 q,e9 r]∧sz q+sz r≤8900∧R (.bl (decide (q<r))) M
theorem Z0(q:Rat):q.num.natAbs<2 ^ sz q:=Ho (RM.X0 _) (HD (by decide) (RM.J9 q))
theorem Q2(q:Rat):((q.den:Int)).natAbs<2 ^ sz q:=by rw[HF];exact Ho (RM.X0 _) (HD (by decide) (RM.B8 q))
theorem mNN{q r:Rat}(h:sz q+sz r≤8900):IntMulOk q.num r.num:=A7 _ _ (Z0 q) (Z0 r) (by omega)
theorem mND{q r:Rat}(h:sz q+sz r≤8900):IntMulOk q.num (r.den:Int):=A7 _ _ (Z0 q) (Q2 r) (by omega)
theorem mDD{q r:Rat}(h:sz q+sz r≤8900):IntMulOk (q.den:Int) (r.den:Int):=A7 _ _ (Q2 q) (Q2 r) (by omega)
theorem lDD{q r:Rat}(h:sz q+sz r≤8900):((q.den:Int)*(r.den:Int)).natAbs.log2<9000:=by
 have h1:=RM.Q4 q.den r.den
 have h2:=RM.B8 q
 have h3:=RM.B8 r
 rw[HX,HF,HF]
 unfold RM.bl at *
 omega
noncomputable def C3(q:Rat):Rat:=if 0≤q then q else -q
theorem Bv(q:Rat):e9 (C3 q) = .tup [.int (q.num.natAbs:Int),.int (q.den:Int)]:=by
 unfold C3 e9
 have hz:0≤q↔0≤q.num:=JZ.symm
 split
 ·rename_i h
  have:=hz.mp h
  rw[show q.num=(q.num.natAbs:Int)by omega];simp
 ·rename_i h
  have h':¬ 0≤q.num:=fun z=>h (hz.mpr z)
  rw[Kg,KJ,show -q.num=(q.num.natAbs:Int)by omega]
theorem jv(t:Rat):t.num<0↔t<0:=by
 have:=JZ (q:=t)
 constructor
 ·intro h;have:¬ 0≤t:=fun z=>by have:=JZ.mpr z;omega
  grind
 ·intro h;have h':¬ 0≤t.num:=fun z=>by have:=JZ.mp z;grind
  omega
end GM
namespace GM
open RM (sz)
theorem gg(q:Rat){k:Nat}(h:sz q≤k):q.num.natAbs<2 ^ k:=Ho (RM.X0 _) (HD (by decide) (Hx (RM.J9 q) h))
theorem C8(q:Rat){k:Nat}(h:sz q≤k):q.den<2 ^ k:=Ho (RM.X0 _) (HD (by decide) (Hx (RM.B8 q) h))
theorem wu(q:Rat):q*(q.den:Rat)=(q.num:Rat):=by
 have h:(q.den:Rat)≠0:=by
  intro z;exact q.den_nz (by exact_mod_cast z)
 have e:=Jf q
 rw[Li,Jb]at e
 grind
theorem bX{a b m n:Nat}(h1:a<2 ^ m)(h2:b<2 ^ n):a*b<2 ^ (m+n):=by
 rw[IH];exact IX h1 h2
theorem L6{a b:Int}{m n:Nat}(h1:a.natAbs<2 ^ m)(h2:b.natAbs<2 ^ n):(a*b).natAbs<2 ^ (m+n):=by
 rw[HX];exact bX h1 h2
theorem ez{a m n:Nat}(h:a<2 ^ m)(hn:m≤n):a<2 ^ n:=Ho h (HD (by decide) hn)
end GM
namespace GM
open PySem PySem.Spec L2 DL
open RM (sz)
noncomputable abbrev T8(y u:Rat):D:=.tup [e9 y,e9 u]
theorem W7(n:Int):e9 (n:Rat) = .tup [.int n,.int 1]:=by
 unfold e9
 rw[Lz,LA];rfl
theorem eU{n:Int}{k:Nat}(hk:0<k)(h:n.natAbs<2 ^ k):sz (n:Rat)≤k:=by
 refine RM.qP _ hk ?_ ?_
 ·rw[Lz];exact h
 ·rw[LA];exact Nat.one_lt_two_pow (by omega)
theorem qR(q:Rat):sz (C3 q)=sz q:=by
 unfold C3;split
 ·rfl
 ·exact RM.F8 q
theorem xn{q:Rat}(h:q≠0):0<C3 q:=by
 unfold C3;split
 ·grind
 ·grind
noncomputable def N1(x:Str × Rat):D:=.tup [.str x.1,e9 x.2]
def qT:DSp:=fun ds M R _=>∃ q:Rat,ds=[e9 q]∧R (e9 (C3 q)) M
theorem eu{x y:Str × Rat}(h:N1 x=N1 y):x=y:=by
 unfold N1 at h
 injection h with h
 injection h with h1 h2
 injection h1 with h1
 injection h2 with h2 _
 exact Prod.ext h1 (P5 h2)
theorem g7{x y:Str × Rat}:N1 x=N1 y↔x=y:=⟨eu,fun h=>by rw[h]⟩
theorem f8{xs ys:List (Str × Rat)}:xs.map N1=ys.map N1↔xs=ys:=Io (fun _ _ h=>eu h)
noncomputable def h8(l:Rat × Rat × Rat):D:=.tup [e9 l.1,e9 l.2.1,e9 l.2.2]
theorem eB{x y:Rat × Rat × Rat}(h:h8 x=h8 y):x=y:=by
 unfold h8 at h
 injection h with h
 injection h with h1 h2
 injection h2 with h2 h3
 injection h3 with h3 _
 exact Prod.ext (P5 h1) (Prod.ext (P5 h2) (P5 h3))
theorem g8{x y:Rat × Rat × Rat}:h8 x=h8 y↔x=y:=⟨eB,fun h=>by rw[h]⟩
theorem f9{xs ys:List (Rat × Rat × Rat)}:xs.map h8=ys.map h8↔xs=ys:=Io (fun _ _ h=>eB h)
theorem zW{p q r:Rat}:D.tup [e9 p,e9 q,e9 r]=h8 (p,q,r):=rfl
theorem lY{gs:Q6}{l:Rat × Rat × Rat}{e:Ev}{M:Mem}{Q:Ev→Mem→Prop}:jM 3 gs (h8 l) e M Q=gs [e9 l.1,e9 l.2.1,e9 l.2.2] e M Q:=bA rfl
theorem me{l:Rat × Rat × Rat}{M:Mem}{R:DK}:gIx (h8 l) (.int 0) M R=R (e9 l.1) M:=N5
theorem ma{l:Rat × Rat × Rat}{M:Mem}{R:DK}:gIx (h8 l) (.int 1) M R=R (e9 l.2.1) M:=N4
theorem lZ{l:Rat × Rat × Rat}{M:Mem}{R:DK}:gIx (h8 l) (.int 2) M R=R (e9 l.2.2) M:=eO
theorem pP{q:Rat}{M:Mem}{R:DK}:gIx (e9 q) (.int 0) M R=R (.int q.num) M:=N5
theorem pO{q:Rat}{M:Mem}{R:DK}:gIx (e9 q) (.int 1) M R=R (.int (q.den:Int)) M:=N4
theorem pN{gs:Q6}{q:Rat}{e:Ev}{M:Mem}{Q:Ev→Mem→Prop}:jM 2 gs (e9 q) e M Q=gs [.int q.num,.int (q.den:Int)] e M Q:=bA rfl
theorem pK{q:Rat}{M:Mem}{R:DK}:oO [e9 q] M R=R (.int 2) M:=bB rfl
theorem lX{x:Str × Rat}{M:Mem}{R:DK}:gIx (N1 x) (.int 0) M R=R (.str x.1) M:=N5
theorem lW{x:Str × Rat}{M:Mem}{R:DK}:gIx (N1 x) (.int 1) M R=R (e9 x.2) M:=N4
theorem lV{gs:Q6}{x:Str × Rat}{e:Ev}{M:Mem}{Q:Ev→Mem→Prop}:jM 2 gs (N1 x) e M Q=gs [.str x.1,e9 x.2] e M Q:=bA rfl
theorem ig{q:Rat}{M:Mem}{R:DK}:u7 [e9 q,.ty "tuple"] M R=R (.bl true) M:=j8 rfl rfl
theorem dz{x:Str × Rat}{M:Mem}{R:DK}:u7 [N1 x,.ty "tuple"] M R=R (.bl true) M:=j8 rfl rfl
theorem lU{x:Str × Rat}{M:Mem}{R:DK}:oO [N1 x] M R=R (.int 2) M:=bB rfl
theorem uS{q:Rat}:cl 60 (e9 q)=true:=rfl
theorem uT{q:Rat}:cl 59 (e9 q)=true:=rfl
theorem uU{q:Rat}:cl 58 (e9 q)=true:=rfl
theorem uV{q:Rat}:cl 57 (e9 q)=true:=rfl
theorem r0:D.tup [.int 0,.int 1]=e9 0:=rfl
theorem r1:D.tup [.int 1,.int 1]=e9 1:=rfl
theorem r2:D.tup [.int 2,.int 1]=e9 2:=rfl
theorem r4:D.tup [.int 4,.int 1]=e9 4:=rfl
theorem CK{q:Rat}:D.tup [.int (q.num.natAbs:Int),.int (q.den:Int)]=e9 (C3 q):=(Bv q).symm
theorem rC{q:Rat}:D.tup [.int (-q.num),.int (q.den:Int)]=e9 (-q):=by unfold e9;rw[Kg,KJ]
theorem zV{q:Rat}:D.tup [.int q.num,.int (q.den:Int)]=e9 q:=rfl
theorem rm2:D.tup [.int (-2),.int 1]=e9 (-2):=rfl
theorem rm1:D.tup [.int (-1),.int 1]=e9 (-1):=rfl
end GM
local macro_rules|`(tactic| walk_at "inj")=>`(tactic| (rename_i e h;simp only[List.cons.injEq,and_true,true_and,GM.g6,GM.g7,GM.f8,GM.g8,GM.f9,DL.D.tup.injEq,DL.D.ref.injEq,DL.D.int.injEq,DL.D.str.injEq,DL.D.bl.injEq,DL.D.vl.injEq,Hz,and_assoc]at e;(repeat(obtain⟨e1,e⟩:=e;subst e1));subst e;exact h))
local macro_rules|`(tactic| walk_at "injs")=>`(tactic| (rename_i e o h;rcases o with o|o<;>(subst o;first|(exfalso;simp only[DL.D.tup.injEq,List.cons.injEq,reduceCtorEq,false_and,and_false]at e;done)|(simp only[List.cons.injEq,and_true,true_and,GM.g6,GM.g7,GM.f8,GM.g8,GM.f9,DL.D.tup.injEq,DL.D.ref.injEq,DL.D.int.injEq,DL.D.str.injEq,DL.D.bl.injEq,DL.D.vl.injEq,Hz,and_assoc]at e;(repeat(obtain⟨e1,e⟩:=e;subst e1));subst e;exact h))))
namespace GM
open PySem PySem.Spec L2 DL
open RM (sz)
theorem Z8{a b:Nat}{M:Mem}{R:DK}{Y:DXK}:R0 [.int (a:Int),.int (b:Int)] M R Y=(R (.int ((Ii a b:Nat):Int)) M):=propext ⟨fun z=>by obtain⟨_,_,_,_⟩:=z;walk_at "inj",fun h=>⟨a,b,rfl,h⟩⟩
theorem lK{q:Rat}{M:Mem}{R:DK}{Y:DXK}:bF [e9 q] M R Y=(R (e9 (-q)) M):=propext ⟨fun z=>by obtain⟨_,_,_⟩:=z;walk_at "inj",fun h=>⟨q,rfl,h⟩⟩
theorem gR{q r:Rat}{M:Mem}{R:DK}{Y:DXK}:bE [e9 q,e9 r] M R Y=(sz q+sz r≤8900∧R (e9 (q+r)) M):=propext ⟨fun z=>by obtain⟨_,_,_,_⟩:=z;walk_at "inj",fun h=>⟨q,r,rfl,h⟩⟩
theorem di{q r:Rat}{M:Mem}{R:DK}{Y:DXK}:Q9 [e9 q,e9 r] M R Y=(sz q+sz r≤8900∧R (e9 (q - r)) M):=propext ⟨fun z=>by obtain⟨_,_,_,_⟩:=z;walk_at "inj",fun h=>⟨q,r,rfl,h⟩⟩
theorem dh{q r:Rat}{M:Mem}{R:DK}{Y:DXK}:F1 [e9 q,e9 r] M R Y=(sz q+sz r≤8900∧R (e9 (q*r)) M):=propext ⟨fun z=>by obtain⟨_,_,_,_⟩:=z;walk_at "inj",fun h=>⟨q,r,rfl,h⟩⟩
theorem gT{q r:Rat}{M:Mem}{R:DK}{Y:DXK}:ko [e9 q,e9 r] M R Y=(sz q+sz r≤8900∧R (.bl (decide (q<r))) M):=propext ⟨fun z=>by obtain⟨_,_,_,_⟩:=z;walk_at "inj",fun h=>⟨q,r,rfl,h⟩⟩
theorem lL{a b:Int}{M:Mem}{R:DK}{Y:DXK}:N7 [.int a,.int b] M R Y=(b≠0∧b.natAbs.log2<9000∧R (e9 (Iv a b)) M):=propext ⟨fun z=>by obtain⟨_,_,_,_⟩:=z;walk_at "inj",fun h=>⟨a,b,rfl,h⟩⟩
theorem gQ{c:Int}{M:Mem}{R:DK}{Y:DXK}:kn [.int c] M R Y=(∀ p M',M p=none→MK M M'→v8 M' p→R (.ref p) M'):=propext ⟨fun z=>by obtain⟨_,_,_⟩:=z;walk_at "inj",fun h=>⟨c,rfl,h⟩⟩
theorem gS{p:Addr}{b:Int}{M:Mem}{R:DK}{Y:DXK}:F9 [.ref p,.int b] M R Y=(v8 M p∧0<b∧b.natAbs.log2<9000∧∀(r:Int) M',0≤r→r<b→m6 p M M'→R (.int r) M'):=propext ⟨fun z=>by obtain⟨_,_,_,_⟩:=z;walk_at "inj",fun h=>⟨p,b,rfl,h⟩⟩
theorem aX{p:Addr}{M:Mem}{R:DK}{Y:DXK}:bG [.ref p] M R Y=(v8 M p∧∀(q:Rat) M',RM.sz q≤41→m6 p M M'→R (e9 q) M'):=propext ⟨fun z=>by obtain⟨_,_,_⟩:=z;walk_at "inj",fun h=>⟨p,rfl,h⟩⟩
theorem lM{q:Rat}{M:Mem}{R:DK}{Y:DXK}:qT [e9 q] M R Y=(R (e9 (C3 q)) M):=propext ⟨fun z=>by obtain⟨_,_,_⟩:=z;walk_at "inj",fun h=>⟨q,rfl,h⟩⟩
theorem lu{k:Nat}:∀{ds:List D},(∀ x∈ds,cl k x=true)→clL k ds=true
 | [],_=>rfl
 | d :: r,h=>by
  show(cl k d && clL k r)=true
  rw[h d Hq,lu (fun x hx=>h x (Hl _ hx))];rfl
theorem m6.put{p l:Addr}{M M':Mem}{o:MO}(h:m6 p M M')(hl:M l=none)(hp:l≠p):m6 p M (j9 M' l o):=⟨fun b u hb e=>by
  rw[p7 (by intro z;subst z;rw[hl]at e;cases e)];exact h.keep b u hb e,by
  obtain⟨x,y,z,e⟩:=h.pool.ex
  exact⟨x,y,z,by rw[p7 (Ne.symm hp)];exact e⟩⟩
theorem m6.del{p l:Addr}{M M':Mem}(h:m6 p M M')(hl:M l=none)(hp:l≠p):m6 p M (aA M' l):=⟨fun b u hb e=>by
  rw[gz (by intro z;subst z;rw[hl]at e;cases e)];exact h.keep b u hb e,by
  obtain⟨x,y,z,e⟩:=h.pool.ex
  exact⟨x,y,z,by rw[gz (Ne.symm hp)];exact e⟩⟩
theorem lb{ds:List D}{n:Nat}:Z4 ds none (some (n:Int))=ds.take n:=by
 unfold Z4 HT.sIx
 simp only[LI,Nat.sub_zero]
 rw[if_neg (by omega)]
 by_cases h:n≤ds.length
 ·congr 1;omega
 ·rw[IK (by omega),IK (by omega)]
theorem aR{xs:List D}{r:Int}{M:Mem}{R:DK}(h0:0≤r)(h1:r<xs.length)(h:∀ d∈xs,R d M):gIx (.vl xs) (.int r) M R:=by
 obtain⟨z,e,hz⟩:=nT h0 h1
 exact⟨z,e,h z hz⟩
end GM
set_option maxHeartbeats 1000000
namespace L2
open PySem PySem.Spec PyProof.Rows
section
variable {X:Cx} {pins:List (Addr × Obj)} {σ:St} {H:Hp} {s:Shared} {h':Heap}
end
section
variable {prog:Program} {w:World} {A:Around} {E:Value→Shared→Prop} {s:Shared}
end
end L2
namespace DL
open PySem PySem.Spec L2
open PyProof.Rows hiding St
end DL
namespace L2
open PySem PySem.Spec PyProof.Rows
section
variable {N:Nat} {o:Nat→Nat→Bool} {s:Shared} {cmp:Nat→Nat→(Bool→Shared→Prop)→Shared→Prop}
end
noncomputable abbrev j7:=List Int × List Int
noncomputable def lt2(k k':j7):Bool:=if k.1=k'.1 then HT.sD k.2 k'.2 else HT.sD k.1 k'.1
theorem cy{us:List Value}{ns:List Int}(h:IntsAre us ns):∀{ms:List Int},IntsAre us ms→ns=ms:=by
 induction h with
 | nil=>intro ms h;cases h;rfl
 | cons a t h ih =>
  intro ms h2
  cases h2 with
  | cons a2 t2 h2=>rw[ih h2]
theorem nH{A:Around}{s:Shared}{l b:Addr}{us vs:List Value}{ns ms:List Int}(hl:IsTup s.heap l us.toArray)(hb:IsTup s.heap b vs.toArray)(hi:IntsAre us ns)(hj:IntsAre vs ms)(hu:A.units<cLine):∃ e,SeqAt.EqAt A s (.ref l) (.ref b) e∧(e=true↔ns=ms):=by
 by_cases c:l=b
 ·subst c
  refine⟨true,SeqAt.EqAt.same _,⟨fun _=>?_,fun _=>rfl⟩⟩
  obtain⟨o,h1,_,n,h2⟩:=hl
  obtain⟨o',h1',_,n',h2'⟩:=hb
  rw[h1]at h1';cases h1'
  rw[h2]at h2'
  injection h2' with h2'
  have h3:us=vs:=by simpa using h2'
  subst h3
  exact cy hi hj
 ·have item:∀{us:List Value} {ns:List Int},IntsAre us ns→∀(j:Nat) (h:j<us.toArray.size),∃ t,us.toArray[j] = .int (ns.getD j 0) t:=fun{us ns} h=>by
   induction h with
   | nil=>intro j h;exact absurd h (by simp)
   | cons a t h ih =>
    intro j hj
    cases j with
    | zero=>exact⟨t,by simp⟩
    | succ j =>
     obtain⟨t',e⟩:=ih j (by simpa using hj)
     exact⟨t',by simpa using e⟩
  refine⟨_,SeqAt.EqAt.of_refs c (SeqAt.RcAt.tuples (e:=fun j=>decide (ns.getD j 0=ms.getD j 0)) hl hb hu fun j h1 h2=>?_),?_⟩
  ·obtain⟨t,e1⟩:=item hi j h1
   obtain⟨u,e2⟩:=item hj j h2
   rw[e1,e2]
   obtain⟨e,he,hiff⟩:=HT.sZ A.in1 s (ns.getD j 0) t (ms.getD j 0) u
   have:e=decide (ns.getD j 0=ms.getD j 0):=by
    by_cases z:ns.getD j 0=ms.getD j 0
    ·rw[hiff.mpr z,decide_eq_true z]
    ·rw[decide_eq_false z]
     cases e with
     | false=>rfl
     | true=>exact absurd (hiff.mp rfl) z
   rw[← this];exact he
  ·rw[IW,Iz]
   have z1:=hi.length
   have z2:=hj.length
   simp only[HC,z1,z2,Jl,beq_iff_eq,decide_eq_true_eq]
   constructor
   ·rintro⟨h1,h2⟩
    refine Jt h2 fun i a1 a2=>?_
    have:=h1 i (by omega)
    simpa[a1,a2]using this
   ·rintro rfl
    exact⟨fun _ _=>rfl,rfl⟩
section
variable {X:Cx} {pins:List (Addr × Obj)} {σ:St} {H:Hp} {s:Shared}
end
section
variable {prog:Program} {w:World} {A:Around} {E:Value→Shared→Prop} {s:Shared}
theorem wF{h:Heap}{a:Addr}{us:List Value}{ns:List Int}(t:IsTup h a us.toArray)(i:IntsAre us ns):IsTupleKey (intKind prog w) h ns a:=by
 obtain⟨o,e1,e2,n,e3⟩:=t
 refine⟨o,us.toArray,n,e1,e2,e3,?_⟩
 have:∀{us:List Value} {ns:List Int},IntsAre us ns→ItemsAre (intKind prog w) ns us:=fun{us ns} i=>by
  induction i with
  | nil=>exact .nil
  | cons a t h ih=>exact .cons (by simp[intKind,Value.isInt]) ih
 simpa using this i
structure By(h:Heap)(k:j7)(a b c:Addr)(us vs:List Value):Prop where
 top:IsTup h a [Value.ref b,Value.ref c].toArray
 one:IsTup h b us.toArray
 two:IsTup h c vs.toArray
 i1:IntsAre us k.1
 i2:IntsAre vs k.2
def IsPair(h:Heap)(k:j7)(a:Addr):Prop:=∃ b c us vs,By h k a b c us vs
theorem eR{h:Heap}{a:Addr}{us vs:List Value}(x:IsTup h a us.toArray)(y:IsTup h a vs.toArray):us=vs:=by
 obtain⟨o,h1,_,n,h2⟩:=x
 obtain⟨o',h1',_,n',h2'⟩:=y
 rw[h1]at h1';cases h1'
 rw[h2]at h2'
 injection h2' with h2'
 simpa using h2'
theorem je{h:Heap}{a:Addr}{x y:j7}(hx:IsPair h x a)(hy:IsPair h y a):x=y:=by
 obtain⟨b,c,us,vs,p⟩:=hx
 obtain⟨b',c',us',vs',q⟩:=hy
 have e:=eR p.top q.top
 injection e with e1 e
 injection e with e2 _
 cases e1;cases e2
 have f1:=eR p.one q.one
 have f2:=eR p.two q.two
 subst f1;subst f2
 exact Prod.ext (cy p.i1 q.i1) (cy p.i2 q.i2)
theorem X9{h h':Heap}{a d:Addr}{us:List Value}{o:Obj}{es ep}(x:IsTup h a us.toArray)(ho:h.get? d=some o)(hd:o.data = .dict es ep)(hs:Heap.SameBut d h h'):IsTup h' a us.toArray:=by
 obtain⟨o',h1,h2,n,h3⟩:=x
 have hne:a≠d:=by
  rintro rfl
  rw[h1]at ho;cases ho
  rw[h3]at hd;cases hd
 exact⟨o',(hs.2 a hne).trans h1,h2,n,h3⟩
theorem bO{n:Nat}{a:Addr}{us:List Value}{ns:List Int}{Q:Bool→Shared→Prop}(t:IsTup s.heap a us.toArray)(i:IntsAre us ns)(h:Q true s):wpAny (model prog w) A (eqIsQuiet (n+1) (.ref a)) Q E s:=by
 have hT:s.TypeIs (.ref a) "tuple" := t.typeIs
 obtain⟨o,e1,e2,m,e3⟩:=t
 unfold eqIsQuiet
 refine Hh (wpAny_specialOf hT F.slot_tuple_eq.lookup ?_)
 show wpAny _ _ (isInstance (.ref a) (.type "tuple") >>= _) _ _ s
 refine Hh (wpAny_isInstance hT isSubtype_tuple_tuple ?_)
 simp only[IT,HW,if_false]
 refine Hh (wpAny_seqItems e1 e3 (Hh ?_))
 show wpAny _ _ (forIn us.toArray _ _) _ _ s
 rw[← Array.forIn_toList]
 refine wpAny_forIn_list _ (fun B0 r s'=>r.1=none∧s'=s∧∃ ms,IntsAre B0 ms) _ ?_ ?_ _ _ ⟨rfl,rfl,ns,i⟩
 ·rintro v B0 r s' ⟨_,rfl,ms,hi⟩
  cases hi with
  | cons x t hi =>
   rw[eqIsQuiet_byValue _ (by rfl)]
   refine Hh (Hn ?_)
   simp only[IT,HW,if_false]
   exact Hn ⟨rfl,rfl,_,hi⟩
 ·rintro⟨r1,r2⟩ s' ⟨hr,rfl,_⟩
  simp only at hr
  subst hr
  exact Hn h
theorem kL{k:j7}{a:Addr}{Q:Bool→Shared→Prop}(p:IsPair s.heap k a)(h:Q true s):wpAny (model prog w) A (eqIsQuiet 8 (.ref a)) Q E s:=by
 obtain⟨b,c,us,vs,p⟩:=p
 have hT:s.TypeIs (.ref a) "tuple" := p.top.typeIs
 obtain⟨o,e1,e2,m,e3⟩:=p.top
 unfold eqIsQuiet
 refine Hh (wpAny_specialOf hT F.slot_tuple_eq.lookup ?_)
 show wpAny _ _ (isInstance (.ref a) (.type "tuple") >>= _) _ _ s
 refine Hh (wpAny_isInstance hT isSubtype_tuple_tuple ?_)
 simp only[IT,HW,if_false]
 refine Hh (wpAny_seqItems e1 e3 (Hh ?_))
 show wpAny _ _ (forIn [Value.ref b,Value.ref c].toArray _ _) _ _ s
 rw[← Array.forIn_toList]
 show wpAny _ _ (forIn [Value.ref b,Value.ref c] _ _) _ _ s
 rw[ID]
 refine Hh (Hh (bO p.one p.i1 ?_))
 simp only[IT,HW,if_false]
 refine Hn ?_
 dsimp only
 rw[ID]
 refine Hh (Hh (bO p.two p.i2 ?_))
 simp only[IT,HW,if_false]
 refine Hn ?_
 dsimp only
 rw[Jm]
 exact Hn (Hn h)
noncomputable def thI(ns:List Int):Int:=reduceHash (Builtin.Tuple.tupleHashOf (ns.map hashInt))
noncomputable def thP(k:j7):Int:=reduceHash (Builtin.Tuple.tupleHashOf [thI k.1,thI k.2])
theorem eE{a:Addr}{us:List Value}{ns:List Int}{Q:Int→Shared→Prop}(hu:A.units<cLine)(t:IsTup s.heap a us.toArray)(i:IntsAre us ns)(h:Q (thI ns) { s with toks:=s.toks+(ns.length+1) }):wpAny (model prog w) A (pyHash (.ref a)) Q E s :=
 wpAny_pyHash_tuple (knd:=intKind prog w) hu (wF t i) h
theorem oN{k:j7}{a:Addr}{Q:Int→Shared→Prop}(hu:A.units+8<cLine)(p:IsPair s.heap k a)(h:Q (thP k) { s with toks:=s.toks+(k.1.length+1+(k.2.length+1)+1) }):wpAny (model prog w) A (pyHash (.ref a)) Q E s:=by
 obtain⟨b,c,us,vs,p⟩:=p
 have hT:s.TypeIs (.ref a) "tuple" := p.top.typeIs
 obtain⟨o,e1,e2,m,e3⟩:=p.top
 unfold pyHash
 first|unfold pyHashByItsType|skip
 first|refine Hh (wpAny_cRoomFor_or (.inr (by omega)) ?_)|skip
 refine Hh (wpAny_specialOf hT F.slot_tuple_hash.lookup ?_)
 show wpAny _ _ (if (some (Value.builtin "tuple.__hash__") == some Value.none)=true then _ else _) Q E s
 rw[if_neg (by rw[beq_builtin_none];exact HJ)]
 refine Hh (wpAny_specialOf hT F.slot_tuple_hash.lookup ?_)
 show wpAny _ _ (callSpecialIfBoundUnlessNone? (.ref a) "__hash__" _ >>= _) Q E s
 refine Hh (wpAny_callSpecialIfBoundUnlessNone?_slot hT F.slot_tuple_hash (wpAny_call_entry F.slot_tuple_hash hT F.entry_tuple_hash ?_ (F.args_tuple_hash_1 _)))
 show wpAny _ _ (Builtin.Tuple.tupleItemsOf (.ref a) >>= _) _ _ s
 refine Hh (wpAny_tupleItemsOf e1 e3 (Hh ?_))
 rw[← Array.forIn_toList]
 show wpAny _ _ (forIn [Value.ref b,Value.ref c] _ _) _ _ s
 rw[ID]
 refine Hh (Hh (eE (by show A.units+1<cLine;omega) p.one p.i1 ?_))
 refine Hn ?_
 dsimp only
 rw[ID]
 refine Hh (Hh (eE (s:={ s with toks:=s.toks+(k.1.length+1) }) (by show A.units+1<cLine;omega) p.two p.i2 ?_))
 refine Hn ?_
 dsimp only
 rw[Jm]
 refine Hn ?_
 show wpAny _ _ (retInt (Builtin.Tuple.tupleHashOf [thI k.1,thI k.2])) _ _ _
 refine wpAny_ret_mkInt ?_
 show wpAny _ _ (if (decide (-(2:Int) ^ 63≤Builtin.Tuple.tupleHashOf [thI k.1,thI k.2]) && decide (Builtin.Tuple.tupleHashOf [thI k.1,thI k.2]<2 ^ 63))=true then _ else _) Q E _
 unfold thP reduceHash at h
 by_cases hr:(decide (-(2:Int) ^ 63≤Builtin.Tuple.tupleHashOf [thI k.1,thI k.2]) && decide (Builtin.Tuple.tupleHashOf [thI k.1,thI k.2]<2 ^ 63))=true
 ·rw[if_pos hr]
  rw[if_pos hr]at h
  exact Hn (by simpa[Nat.add_assoc]using h)
 ·rw[if_neg hr]
  rw[if_neg hr]at h
  exact Hh (wpAny_rule (Hn (by simpa[Nat.add_assoc]using h)))
theorem wZ{x y:j7}{a b:Addr}{Q:Bool→Shared→Prop}(hu:A.units+8<cLine)(hx:IsPair s.heap x a)(hy:IsPair s.heap y b)(h:Q (decide (x=y)) s):wpAny (model prog w) A (eqBool (.ref a) (.ref b)) Q E s:=by
 by_cases c:a=b
 ·subst c
  rw[decide_eq_true (je hx hy)]at h
  exact SeqAt.EqAt.same (.ref a) prog w E Q h
 obtain⟨b1,c1,us,vs,p⟩:=hx
 obtain⟨b2,c2,us',vs',q⟩:=hy
 have hu2:A.in1.units<cLine:=by show A.units+1<cLine;omega
 obtain⟨e,he,i1⟩:=nH (A:=A.in1) (s:=s) p.one q.one p.i1 q.i1 hu2
 obtain⟨f,hf,i2⟩:=nH (A:=A.in1) (s:=s) p.two q.two p.i2 q.i2 hu2
 refine SeqAt.EqAt.of_refs c (SeqAt.RcAt.tuples (e:=fun j=>if j=0 then e else f) p.top q.top (by omega) fun j h1 h2=>?_) prog w E Q ?_
 ·have hj:j=0∨j=1:=by
   have:j<2:=h1
   omega
  rcases hj with rfl|rfl
  ·exact he
  ·exact hf
 ·have ex:((Ih (min [Value.ref b1,Value.ref c1].toArray.size [Value.ref b2,Value.ref c2].toArray.size)).all (fun j=>if j=0 then e else f) && [Value.ref b1,Value.ref c1].toArray.size == [Value.ref b2,Value.ref c2].toArray.size)=decide (x=y):=by
   show((Ih 2).all (fun j=>if j=0 then e else f) && true)=decide (x=y)
   have e2:(Ih 2).all (fun j=>if j=0 then e else f)=(e && f):=by
    show(e && (f && true))=(e && f)
    rw[La]
   rw[e2,La]
   by_cases z:x=y
   ·subst z
    rw[i1.mpr rfl,i2.mpr rfl,decide_eq_true rfl];rfl
   ·rw[decide_eq_false z]
    cases e with
    | false=>rfl
    | true =>
     cases f with
     | false=>rfl
     | true=>exact absurd (Prod.ext (i1.mp rfl) (i2.mp rfl)) z
  rw[ex];exact h
end
noncomputable def jf(prog:Program)(w:World):HeapKind prog w j7 where
 is:=IsPair
 hash:=thP
 draws:=fun k=>k.1.length+1+(k.2.length+1)+1
 room:=fun A=>A.units+8<cLine
 inj:=fun hx hy=>je hx hy
 keeps:=fun⟨b,c,us,vs,p⟩ ho hd hs=>⟨b,c,us,vs,X9 p.top ho hd hs,X9 p.one ho hd hs,X9 p.two ho hd hs,p.i1,p.i2⟩
 pyHash:=fun hu hk h=>oN hu hk h
 eqBool:=fun hu hx hy h=>wZ hu hx hy h
 quiet:=fun hk h=>kL hk h
section
variable {X:Cx} {pins:List (Addr × Obj)} {σ:St} {H:Hp} {s:Shared} {a:Addr} {k:j7}
theorem Inv.bigD(I:Inv X pins σ H s):sysModules<s.heap.objs.size:=Nat.lt_trans (show sysModules<mainGlobals by decide) (I.mod.glob.keeps I.bk).lt
def PaK(K:Hi)(H:Hp)(k:j7)(a:Addr):Prop:=∃ b c,SqT K H a [.ref b,.ref c]∧SqT K H b (k.1.map V.int)∧SqT K H c (k.2.map V.int)
theorem PaK.is(I:Inv X pins σ H s)(h:PaK X.K H k a):IsPair s.heap k a:=by
 obtain⟨b,c,h1,h2,h3⟩:=h
 obtain⟨its,r,p,_⟩:=I.tuple h1
 obtain⟨us,r2,p2,_⟩:=I.tuple h2
 obtain⟨vs,r3,p3,_⟩:=I.tuple h3
 obtain⟨u1,u2,e,e1,e2⟩:=i6.two r
 obtain rfl:=e1
 obtain rfl:=e2
 subst e
 exact⟨b,c,us,vs,p,p2,p3,cz r2,cz r3⟩
noncomputable abbrev KX:List (j7 × Addr × V)→List (j7 × Addr × Value)→Prop:=Paired fun p q=>p.1=q.1∧p.2.1=q.2.1∧m7 p.2.2 q.2.2
theorem KX.all{kvs:List (j7 × Addr × V)}{xs:List (j7 × Addr × Value)}(r:KX kvs xs){F:j7→Addr→Prop}(h:∀ x∈kvs,F x.1 x.2.1):∀ x∈xs,F x.1 x.2.1:=by
 induction r with
 | nil=>intro x hx;cases hx
 | cons p t ih =>
  intro x hx
  rcases Hr.mp hx with rfl|hx
  ·have:=h _ (.head _)
   rw[p.1,p.2.1]at this;exact this
  ·exact ih (fun y hy=>h y (.tail _ hy)) x hx
theorem KX.len{kvs:List (j7 × Addr × V)}{xs:List (j7 × Addr × Value)}(r:KX kvs xs):kvs.length=xs.length:=by
 induction r with
 | nil=>rfl
 | cons _ _ ih=>rw[Hs,Hs,ih]
theorem KX.any{kvs:List (j7 × Addr × V)}{xs:List (j7 × Addr × Value)}(r:KX kvs xs)(k:j7):(kvs.any fun x=>decide (x.1=k))=(atKey xs k).isSome:=by
 induction r with
 | nil=>rfl
 | @cons p q ps qs h t ih =>
  rw[LL,ih]
  unfold atKey
  rw[List.find?_cons,h.1]
  by_cases e:q.1=k
  ·rw[decide_eq_true e];rfl
  ·rw[decide_eq_false e,LM]
noncomputable def ja(kvs:List (j7 × Addr × V))(k:j7)(a:Addr)(v:V):List (j7 × Addr × V):=if (kvs.any fun x=>decide (x.1=k))=true then kvs.map (fun x=>if x.1=k then(x.1,x.2.1,v)else x)else kvs++[(k,a,v)]
theorem KX.put{kvs:List (j7 × Addr × V)}{xs:List (j7 × Addr × Value)}(r:KX kvs xs)(k:j7){b:Addr}{y:V}{u:Value}(ry:m7 y u):KX (ja kvs k b y) (storedH xs k b u):=by
 unfold ja storedH
 rw[r.any k]
 by_cases q:(atKey xs k).isSome=true
 ·rw[if_pos q,if_pos q]
  clear q
  induction r with
  | nil=>exact .nil
  | @cons p q ps qs h t ih =>
   refine .cons ?_ ih
   unfold putAt
   by_cases e:p.1=k
   ·simp only[if_pos e,if_pos (h.1.symm.trans e)];exact⟨h.1,h.2.1,ry⟩
   ·simp only[if_neg e,if_neg (fun z=>e (h.1.trans z))];exact h
 ·rw[if_neg q,if_neg q]
  clear q
  induction r with
  | nil=>exact .cons ⟨rfl,rfl,ry⟩ .nil
  | cons h t ih=>exact .cons h ih
theorem rF(kvs:List (j7 × Addr × V))(k:j7)(a:Addr)(v:V):(ja kvs k a v).length≤kvs.length+1:=by
 unfold ja
 split
 ·rw[Hk];omega
 ·rw[HE,Jq];exact Hy _
theorem yx(I:Inv X pins σ H s){kvs:List (j7 × Addr × V)}(e:H a=some (.dT thP kvs))(hk:∀ x∈kvs,PaK X.K H x.1 x.2.1):kvs.length≤sizeLine∧(a == sysModules)=false∧∃ xs,KX kvs xs∧s.heap.DictOfH (jf X.prog X.w) a xs:=by
 obtain⟨z,y,xs,r,o,es,ep,h1,h2,h3,h4,h5⟩:=(show t6 X.prog X.w H s.heap a (.dT thP kvs)from I.hok a _ e)
 exact⟨z,y,xs,r,o,es,ep,h1,h2,h3,h4,KX.all r fun x hx=>(hk x hx).is I,h5⟩
theorem mU{A:Around}{prog:Program}{w:World}(hu:A.units+64<cLine):(jf prog w).room A.in1:=by show A.units+1+8<cLine;omega
theorem Aw(hu:X.A.units+64<cLine):OpR X (compareOp .In) (fun x y H Q=>∃(a p:Addr) (kvs:List (j7 × Addr × V)) (k:j7),x = .ref a∧y = .ref p∧H p=some (.dT thP kvs)∧(∀ x∈kvs,PaK X.K H x.1 x.2.1)∧PaK X.K H k a∧Q (.bl (kvs.any fun x=>decide (x.1=k))) H):=by
 intro pins s σ H x y v u Q I rx ry h
 obtain⟨a,p,kvs,k,rfl,rfl,e,hk,ka,q⟩:=h
 cases rx
 cases ry
 obtain⟨_,hd,xs,rel,dd⟩:=yx I e hk
 refine wpAny_in_heap (mU hu) (ka.is I) hd dd ?_
 rw[← rel.any k]
 exact⟨.bl _,H,I.kept (t':=_) fun _ _ z=>z,rfl,q⟩
theorem vF(hu:X.A.units+64<cLine):Bz X (fun o i v H Q=>∃(p a:Addr) (kvs:List (j7 × Addr × V)) (k:j7),o = .ref p∧i = .ref a∧H p=some (.dT thP kvs)∧(∀ x∈kvs,PaK X.K H x.1 x.2.1)∧PaK X.K H k a∧kvs.length<sizeLine∧Q (upd H p (.dT thP (ja kvs k a v)))):=by
 intro pins s σ H o i v ov iv u Q I ro ri rv h
 obtain⟨p,a,kvs,k,rfl,rfl,e,hk,ka,hl,q⟩:=h
 cases ro
 cases ri
 obtain⟨z,hd,xs,rel,dd⟩:=yx I e hk
 refine wpAny_setItem_heap (hsz:=by rw[← rel.len];exact z) (mU hu) (ka.is I) dd fun h' dd' hs=>⟨_,?_,q⟩
 obtain⟨qo,es,ep,hq,h2,h3,h4,_,h5⟩:=dd'
 exact I.write (x:=p) (e:=p) (by rw[e];exact True.intro) (.inl rfl) (fun b o hb z=>(hs.2 b hb).trans z) ⟨qo,hq⟩ ⟨by have:=rF kvs k a v;omega,hd,_,rel.put k rv,qo,es,ep,hq,h2,h3,h4,h5⟩
theorem rQ{pos:Pos}:PE X (.Dict [] [] pos) (fun _ H Q=>∀ p,H p=none→Q (.ref p) (upd H p (.dT thP []))):=fun pins s σ H Q I h =>
 wpAny_Dict_empty ⟨.ref s.heap.objs.size,_,I.laid (a:=s.heap.objs.size) (o:=.dT thP []) (t':=s.toks) (fun _ _ q=>Hj _ q) (Hy _)
  ⟨Ic _,beq_eq_false_iff_ne.mpr (Ne.symm (HQ I.bigD)),[],.nil,_,#[],0,HA _ rfl,⟨rfl,rfl,rfl⟩,rfl,rfl,LK⟩,rfl,h _ (I.hok.fresh (Hy _))⟩
end
section
variable {prog:Program} {w:World} {A:Around} {E:Value→Shared→Prop} {s:Shared} {d:Addr} {o:Obj} {es:Array DictEntry} {ep:Nat}
theorem wC{Q:Value→Shared→Prop}(hd:(d == sysModules)=false)(ho:s.heap.get? d=some o)(hc:o.ExactDict)(hdat:o.data = .dict es ep)(hz:es.size≤sizeLine)
  (h:Q (.int es.size (s.toks+1)) { s with toks:=s.toks+1+1 }):wpAny (model prog w) A (call (.builtin "len") [.ref d]) Q E s:=by
 have hT:s.TypeIs (.ref d) "dict" := ⟨o,ho,hc.1⟩
 have hz:(es.size:Int)<2 ^ 63:=by rw[sizeLine_eq]at hz;omega
 refine Calls.call_function_entry kind_len plain_len entry_len (args_len1 _) ?_
 unfold Builtin.«len»
 refine Hh (m:=oneArg "len" _) (Hn ?_)
 refine Hh (m:=callSpecial? (.ref d) (Str.ofString "__len__")) (wpAny_callSpecial?_slot (name:=Str.ofString "__len__") hT F.slot_dict_len
  (wpAny_call_entry F.slot_dict_len hT F.entry_dict_len ?_ (F.args_dict_len_1 _)))
 show wpAny _ _ (dictSize d >>= _) _ _ s
 unfold dictSize
 refine Hh (Hh (wpAny_dictEntries ho hdat (Hn ?_)))
 show wpAny _ _ (Builtin.Dict.pendingCount d >>= _) _ _ s
 refine Hh (wpAny_pendingCount_other hd (wpAny_ret_mkInt ?_))
 show wpAny _ _ _ _ _ { s with toks:=s.toks+1 }
 refine Hh (wpAny_holding (Hn (Hh (wpAny_letGo ?_))))
 rw[Nat.add_zero]
 show wpAny _ _ (if ((es.size:Nat):Int)<0 then _ else _) _ _ _
 rw[if_neg (by omega)]
 show wpAny _ _ (if ((es.size:Nat):Int)≥2 ^ 63 then _ else _) _ _ _
 rw[if_neg (by omega)]
 exact Hh (wpAny_mkInt (Hn ⟨_,rfl,h⟩))
theorem AY{b:Addr}{o':Obj}{ep':Nat}{Q:Value→Shared→Prop}(ha:(d == sysModules)=false)(hb:(b == sysModules)=false)(ho:s.heap.get? d=some o)(hc:o.ExactDict)(hdat:o.data = .dict es ep)
  (ho':s.heap.get? b=some o') (hc':o'.ExactDict) (hdat':o'.data = .dict #[] ep') (hu:A.units<cLine) (h:Q (.bool (es.size == 0)) s):wpAny (model prog w) A (compareOp .Eq (.ref d) (.ref b)) Q E s:=by
 have hT:s.TypeIs (.ref d) "dict" := ⟨o,ho,hc.1⟩
 have hT':s.TypeIs (.ref b) "dict" := ⟨o',ho',hc'.1⟩
 refine wpAny_richCompare_same_room (op:=.Eq) hT hT' PySem.F.slot_dict_eq (wpAny_call_entry PySem.F.slot_dict_eq hT PySem.F.entry_dict_eq ?_ (PySem.F.args_dict_eq_2 _ _)) hu
 show wpAny _ _ (Builtin.Dict.dictSlotArgs "__eq__" ⟨[.ref d,.ref b],[]⟩ >>= _) _ _ s
 refine Hh ?_
 unfold Builtin.Dict.dictSlotArgs
 refine Hh (wpAny_notOrdered_dict hT ?_)
 show wpAny _ _ (pure (Value.ref d,Value.ref b)) _ _ s
 refine Hn (Hh (wpAny_isInstance (T := "dict") hT' PySem.F.sub_dict_dict ?_))
 simp only[IT,HW,if_false]
 refine Hh (Hn (Hh (Hn (Hh ?_))))
 unfold Builtin.Dict.samePairs Builtin.Dict.showsAll
 rw[if_neg (show ¬ (d == sysModules)=true by rw[ha];exact HJ),if_neg (show ¬ (b == sysModules)=true by rw[hb];exact HJ)]
 refine Hh (Hn (Hh (Hn (Hh (wpAny_dictEntries ho hdat ?_)))))
 dsimp only
 refine Hh (wpAny_dictEntries ho' hdat' ?_)
 by_cases hsz:es.size=0
 ·rw[hsz]at h ⊢
  rw[if_neg (by simp)]
  refine Hh (wpAny_dictEpoch ho hdat (Hh ?_))
  rw[Std.Legacy.Range.forIn_eq_forIn_range']
  show wpAny _ _ (forIn ([]:List Nat) _ _) _ _ _
  rw[Jm]
  exact Hn (Hn (Hn ⟨_,rfl,⟨(fun z:Value.bool _=Value.notImplemented=>nomatch z),h⟩⟩))
 ·have e0:(es.size == 0)=false:=by simpa using hsz
  rw[e0]at h
  rw[if_pos (by simpa using hsz)]
  exact Hh (wpAny_rule (Hn (Hn ⟨_,rfl,⟨(fun z:Value.bool _=Value.notImplemented=>nomatch z),h⟩⟩)))
end
section
variable {X:Cx}
theorem xc:v7 X (.builtin "len") (fun xs H Q=>∃(p:Addr) (hs:j7→Int) (kvs:List (j7 × Addr × V)),xs=[.ref p]∧H p=some (.dT hs kvs)∧Q (.int kvs.length) H):=by
 intro pins s σ H xs us Q I rv h
 obtain⟨p,hs,kvs,rfl,e,q⟩:=h
 obtain⟨u,rfl,ru⟩:=i6.one rv
 obtain rfl:u=Value.ref p:=ru
 obtain⟨z,hd,xs,r,o,es,ep,h1,h2,h3,h4,h5⟩:=(show t6 X.prog X.w H s.heap p (.dT hs kvs)from I.hok p _ e)
 have hl:es.size=kvs.length:=by rw[← Array.length_toList,h4,Hk,KX.len r]
 refine wC hd h1 h2 h3 (by rw[hl];exact z) ?_
 rw[hl]
 exact⟨.int kvs.length,H,I.kept (t':=_) fun _ _ z=>z,⟨_,rfl⟩,q⟩
theorem Ax(hu:X.A.units+64<cLine):OpR X (compareOp .Eq) (fun x y H Q=>∃(p q:Addr) (hs hs':j7→Int) (kvs:List (j7 × Addr × V)),x = .ref p∧y = .ref q∧H p=some (.dT hs kvs)∧H q=some (.dT hs' [])∧Q (.bl kvs.isEmpty) H):=by
 intro pins s σ H x y v u Q I rx ry h
 obtain⟨p,q,hs,hs',kvs,rfl,rfl,e,e',qq⟩:=h
 cases rx
 cases ry
 obtain⟨z,hd,xs,r,o,es,ep,h1,h2,h3,h4,h5⟩:=(show t6 X.prog X.w H s.heap p (.dT hs kvs)from I.hok p _ e)
 obtain⟨z',hd',xs',r',o',es',ep',h1',h2',h3',h4',h5'⟩:=(show t6 X.prog X.w H s.heap q (.dT hs' [])from I.hok q _ e')
 cases r'
 obtain rfl:es' = #[]:=by
  rw[IA]at h4'
  exact Array.toList_eq_nil_iff.mp h4'
 have hl:es.size=kvs.length:=by rw[← Array.length_toList,h4,Hk,KX.len r]
 refine AY hd hd' h1 h2 h3 h1' h2' h3' (by omega) ?_
 have:(es.size == 0)=kvs.isEmpty:=by rw[hl];cases kvs<;>rfl
 rw[this]
 exact⟨.bl _,H,I,rfl,qq⟩
end
end L2
namespace DL
open PySem PySem.Spec L2
open PyProof.Rows hiding St
noncomputable def pkD(k:j7):D:=.tup [.tup (k.1.map D.int),.tup (k.2.map D.int)]
noncomputable abbrev DPs:=List (j7 × D × D)
noncomputable def aw(kvs:DPs)(k:j7)(v:D):DPs:=if (kvs.any fun x=>decide (x.1=k))=true then kvs.map (fun x=>if x.1=k then(x.1,x.2.1,v)else x)else kvs++[(k,pkD k,v)]
def Z6(kvs:DPs):Prop:=∀ e∈kvs,e.2.1=pkD e.1
section
variable {K:Hi} {H:Hp} {M:Mem} {p:Addr}
theorem Z2:∀{vs:List V} {ns:List Int},HasL K H vs (ns.map D.int)→vs=ns.map V.int
 | _,[],h=>by cases h;rfl
 | _,n :: ns,h=>by
  cases h with
  | cons h t=>cases h;rw[Z2 t];rfl
theorem kN{v:V}{k:j7}(h:Has K H v (pkD k)):∃ a,v = .ref a∧PaK K H k a:=by
 cases h with
 | tup s1 l1 =>
 cases l1 with
 | cons g1 l1 =>
 cases l1 with
 | cons g2 l1 =>
 cases l1
 cases g1 with
 | tup s2 l2 =>
 cases g2 with
 | tup s3 l3 =>
 have e2:=Z2 l2
 have e3:=Z2 l3
 subst e2;subst e3
 exact⟨_,rfl,_,_,s1,s2,s3⟩
theorem jH{xs:List (j7 × Addr × V)}{kvs:DPs}(h:xs.map (·.1)=kvs.map (·.1))(k:j7):(xs.any fun x=>decide (x.1=k))=kvs.any fun x=>decide (x.1=k):=by
 have e1:(xs.any fun x=>decide (x.1=k))=(xs.map (·.1)).any fun y=>decide (y=k):=by rw[List.any_map];rfl
 have e2:(kvs.any fun x=>decide (x.1=k))=(kvs.map (·.1)).any fun y=>decide (y=k):=by rw[List.any_map];rfl
 rw[e1,e2,h]
theorem jG{xs:List (j7 × Addr × V)}{kvs:DPs}(h:cK K H xs kvs)(ok:Z6 kvs):∀ x∈xs,PaK K H x.1 x.2.1:=by
 obtain⟨h1,h2,h3⟩:=h
 clear h3
 induction xs generalizing kvs with
 | nil=>intro x hx;cases hx
 | cons y xs ih =>
  cases kvs with
  | nil=>cases h1
  | cons e kvs =>
   injection h1 with e1 h1
   have e1:y.1=e.1:=e1
   cases h2 with
   | cons g h2 =>
    have g:Has K H (V.ref y.2.1) e.2.1:=g
    intro x hx
    rcases Hr.mp hx with rfl|hx
    ·rw[ok e (.head _)]at g
     obtain⟨a,e2,pk⟩:=kN g
     cases e2
     rw[e1];exact pk
    ·exact ih (fun z hz=>ok z (.tail _ hz)) h1 h2 x hx
theorem kT{kvs:DPs}(ok:Z6 kvs)(k:j7)(v:D):Z6 (aw kvs k v):=by
 unfold aw
 split
 ·intro e he
  obtain⟨x,hx,rfl⟩:=Hm.mp he
  by_cases c:x.1=k
  ·rw[if_pos c];exact ok x hx
  ·rw[if_neg c];exact ok x hx
 ·intro e he
  rcases HH.mp he with he|he
  ·exact ok e he
  ·rw[HP.mp he]
theorem sS{xs:List (j7 × Addr × V)}{kvs:DPs}(h:cK K H xs kvs)(k:j7){a:Addr}{v:V}{d:D}(hk:Has K H (.ref a) (pkD k))(hv:Has K H v d):cK K H (ja xs k a v) (aw kvs k d):=by
 obtain⟨h1,h2,h3⟩:=h
 unfold ja aw
 rw[jH h1]
 by_cases q:(kvs.any fun x=>decide (x.1=k))=true
 ·rw[if_pos q,if_pos q]
  clear q
  induction xs generalizing kvs with
  | nil =>
   cases kvs with
   | nil=>exact⟨rfl,.nil,.nil⟩
   | cons e kvs=>cases h1
  | cons y xs ih =>
   cases kvs with
   | nil=>cases h1
   | cons e kvs =>
    injection h1 with e1 h1
    have e1:y.1=e.1:=e1
    cases h2 with
    | cons g h2 =>
    cases h3 with
    | cons g3 h3 =>
    obtain⟨i1,i2,i3⟩:=ih h1 h2 h3
    by_cases c:y.1=k
    ·have c':e.1=k:=e1.symm.trans c
     simp only[HL,if_pos c,if_pos c']
     exact⟨by rw[HL,HL,i1,e1],.cons g i2,.cons hv i3⟩
    ·have c':¬ e.1=k:=fun z=>c (e1.trans z)
     simp only[HL,if_neg c,if_neg c']
     exact⟨by rw[HL,HL,i1,e1],.cons g i2,.cons g3 i3⟩
 ·rw[if_neg q,if_neg q]
  refine⟨by rw[Hw,Hw,h1];rfl,?_,?_⟩
  ·rw[Hw,Hw];exact h2.append (.cons hk .nil)
  ·rw[Hw,Hw];exact h3.append (.cons hv .nil)
theorem sH{hs:j7→Int}{xs:List (j7 × Addr × V)}{o:HO}(h:H p=some (.dT hs xs)):KT H (upd H p o):=KT.at (fun xs r=>by rcases r with r|⟨_,r⟩<;>(rw[h]at r;cases r)) (fun q xs r=>by rw[h]at r;cases r) fun φ r=>by rw[h]at r;cases r
theorem oW(h:j3 K H M){hs:j7→Int}(e:H p=none):j3 K (upd H p (.dT hs [])) (j9 M p (.dic hs [])):=fun a o m=>by
 by_cases q:a=p
 ·subst q
  rw[f6]at m;cases m
  exact⟨[],i4,rfl,.nil,.nil⟩
 ·rw[p7 q]at m
  exact h.alloc e a o m
theorem jX(h:j3 K H M){hs:j7→Int}{xs ys:List (j7 × Addr × V)}{kvs:DPs}(e:H p=some (.dT hs xs))(l:cK K H ys kvs):j3 K (upd H p (.dT hs ys)) (j9 M p (.dic hs kvs)):=fun a o m=>by
 have k:KT H (upd H p (.dT hs ys)):=sH e
 by_cases q:a=p
 ·subst q
  rw[f6]at m;cases m
  exact⟨ys,i4,l.mono k⟩
 ·rw[p7 q]at m
  cases o with
  | lst es =>
   obtain⟨zs,z,l⟩:=h a _ m
   exact⟨zs,by rw[g9 q];exact z,l.mono k⟩
  | ins C fs =>
   obtain⟨C0,dx,zs,z,l,hc⟩:=h a _ m
   exact⟨C0,dx,zs,by rw[g9 q];exact z,l.mono k,hc⟩
  | dic hs' kvs' =>
   obtain⟨zs,z,l⟩:=h a _ m
   exact⟨zs,by rw[g9 q];exact z,l.mono k⟩
end
section
variable {X:Cx} {pos:Pos} {o i:Expr} {to ti:DTE}
def yI:DTE:=fun _ M R=>∀ p,M p=none→R (.ref p) (j9 M p (.dic thP []))
theorem nA:JE X (.Dict [] [] pos) yI:=⟨rQ.imp fun σ H Q ⟨e,M,R,ok,am,t,f⟩=>fun p hp=>f _ _ (t p (am.fresh hp)) _ _ (KT.alloc hp) (oW am hp) (.ref p)⟩
theorem qy{e:Ev}{M:Mem}{R:DK}:yI e M R = ∀ p,M p=none→R (.ref p) (j9 M p (.dic thP [])):=rfl
def EZ:DR2:=fun x y M R=>∃(p:Addr) (kvs:DPs) (k:j7),x=pkD k∧y = .ref p∧M p=some (.dic thP kvs)∧Z6 kvs∧R (.bl (kvs.any fun e=>decide (e.1=k))) M
theorem Di(hu:X.A.units+64<cLine):DOp X (compareOp .In) EZ:=OpR.imp (Aw hu) fun x y H Q ⟨dx,dy,M,R,hx,hy,am,⟨p,kvs,k,e1,e2,hm,ok,r⟩,f⟩=>by
 subst e1;subst e2
 cases hy
 obtain⟨a,rfl,pk⟩:=kN hx
 obtain⟨xs,he,hd⟩:=am p _ hm
 refine⟨a,p,xs,k,rfl,rfl,he,jG hd ok,pk,?_⟩
 rw[jH hd.keys]
 exact f _ M r _ H (KT.refl H) am (.bl _)
def Fb:DR2:=fun x y M R=>∃(p q:Addr) (kvs:DPs),x = .ref p∧y = .ref q∧M p=some (.dic thP kvs)∧M q=some (.dic thP [])∧R (.bl kvs.isEmpty) M
theorem Dj(hu:X.A.units+64<cLine):DOp X (compareOp .Eq) Fb:=OpR.imp (Ax hu) fun x y H Q ⟨dx,dy,M,R,hx,hy,am,⟨p,q,kvs,e1,e2,hm,hm2,r⟩,f⟩=>by
 subst e1;subst e2
 cases hx
 cases hy
 obtain⟨xs,he,hd⟩:=am p _ hm
 obtain⟨ys,he2,hd2⟩:=am q _ hm2
 obtain rfl:ys=[]:=List.map_eq_nil_iff.mp hd2.keys
 refine⟨p,q,thP,thP,xs,rfl,rfl,he,he2,?_⟩
 have:xs.isEmpty=kvs.isEmpty:=by
  have:=congrArg Jj hd.keys
  rw[Hk,Hk]at this
  cases xs<;>cases kvs<;>first|rfl|(simp at this)
 rw[this]
 exact f _ M r _ H (KT.refl H) am (.bl _)
def DD:DRC:=fun ds M R=>∃(p:Addr) (kvs:DPs),ds=[.ref p]∧M p=some (.dic thP kvs)∧R (.int (kvs.length:Int)) M
theorem Bo:S8 X (.builtin "len") DD:=v7.imp xc fun xs H Q ⟨ds,M,R,hl,am,⟨p,kvs,z,hm,r⟩,f⟩=>by
 subst z
 obtain⟨v,rfl,h⟩:=hl.one
 cases h
 obtain⟨ys,he,hd⟩:=am p _ hm
 refine⟨p,thP,ys,rfl,he,?_⟩
 have:ys.length=kvs.length:=by
  have:=congrArg Jj hd.keys
  rwa [Hk,Hk]at this
 rw[this]
 exact f _ M r _ H (KT.refl H) am (.int _)
noncomputable def DA:nW:=fun o i v M R=>∃(p:Addr) (kvs:DPs) (k:j7),o = .ref p∧i=pkD k∧M p=some (.dic thP kvs)∧Z6 kvs∧kvs.length<sizeLine∧R (j9 M p (.dic thP (aw kvs k v)))
theorem jE(hu:X.A.units+64<cLine)(ho:JE X o to)(hi:JE X i ti)
  (ha:∀ v,assign (.Subscript o i pos) X.env v=(do
   let ov ← holding [v] (eval o X.env)
   let iv ← holding [v,ov] (eval i X.env)
   standAt pos
   holding [v,ov,iv] (setItem ov iv v)
   release [v,ov,iv] []):=by intro _;rfl):JG X (.Subscript o i pos) (tH to ti DA) :=
 ⟨PG.imp (rN ho.out hi.out (vF hu) ha) fun v σ H Q ⟨d,e,M,R,r,ok,am,g,f⟩ =>
  ⟨e,M,_,ok,am,g,fun x M1 h1 vo H1 k1 a1 r1=>⟨e,M1,_,ok.mono k1,a1,h1,fun y M2 ⟨p,kvs,k,e1,e2,hm,kok,hl,h2⟩ vi H2 k2 a2 r2=>by
   subst e1;subst e2
   cases r1
   obtain⟨a,rfl,pk⟩:=kN r2
   obtain⟨xs,he,hd⟩:=a2 p _ hm
   have kt:KT H H2:=k1.trans k2
   have kw:KT H2 (upd H2 p (.dT thP (ja xs k a v))):=sH he
   refine⟨p,a,xs,k,rfl,rfl,he,jG hd kok,pk,?_,f e _ h2 σ _ (kt.trans kw) (jX a2 he (sS hd k r2 (r.mono kt))) ((ok.mono kt).mono kw)⟩
   have:=congrArg Jj hd.keys
   rw[Hk,Hk]at this
   omega⟩⟩⟩
end
end DL
namespace GM
open PySem PySem.Spec L2 DL
open RM (sz)
noncomputable def ay(l:Rat × Rat × Rat)(y u:Rat):Bool:=decide (C3 (l.1*y+l.2.1*u)≤l.2.2)
noncomputable def m9(ls:List (Rat × Rat × Rat))(y u:Rat):Bool:=ls.all fun l=>ay l y u
structure LSz(n:Nat)(l:Rat × Rat × Rat):Prop where
 p:sz l.1≤n
 q:sz l.2.1≤n
 r:sz l.2.2≤n
structure LOk(n:Nat)(l:Rat × Rat × Rat):Prop extends LSz n l where
 ne:¬ (l.1=0∧l.2.1=0)
def CB(B m:Nat)(x:Rat):Prop:=∃ n:Int,x=Iv n (B:Int)∧n.natAbs≤B*2 ^ m
def Col(k:Nat)(xs:List Rat):Prop:=∃ B:Nat,0<B∧B≤2 ^ (42*k)∧∀ x∈xs,CB B (41+2*k) x
theorem Col.nil:Col 0 []:=⟨1,by decide,by decide,fun x hx=>by cases hx⟩
theorem CB.mono{B m m':Nat}{x:Rat}(h:CB B m x)(hm:m≤m'):CB B m' x:=by
 obtain⟨n,e,h⟩:=h
 exact⟨n,e,Hx h (KO _ (HD (by decide) hm))⟩
theorem CB.scale{B m:Nat}{x:Rat}(h:CB B m x)(hB:0<B){c:Nat}(hc:0<c):CB (B*c) m x:=by
 obtain⟨n,e,h⟩:=h
 refine⟨n*c,?_,?_⟩
 ·rw[e,JL,Jy (by omega)]
 ·rw[HX,HF]
  have:=Ie c h
  rw[Nat.mul_right_comm]at this
  exact this
theorem CB.sz{B m k:Nat}{x:Rat}(h:CB B m x)(hB:0<B)(hk:B≤2 ^ k):RM.sz x≤k+m+1:=by
 obtain⟨n,rfl,h⟩:=h
 refine P6 (by omega) ?_ ?_ (by omega)
 ·have h2:B*2 ^ m≤2 ^ (k+m):=by rw[IH];exact Ie _ hk
  exact HV (Hx h h2) (KD (by decide) (by omega))
 ·rw[HF]
  exact HV hk (KD (by decide) (by omega))
theorem Col.sz{k:Nat}{xs:List Rat}(h:Col k xs)(hk:k≤12){x:Rat}(hx:x∈xs):RM.sz x≤600:=by
 obtain⟨B,b0,b1,h⟩:=h
 have:=(h x hx).sz b0 b1
 omega
theorem Col.new{k:Nat}{xs:List Rat}(h:Col k xs){x:Rat}(hx:RM.sz x≤41):Col (k+1) (xs++[x]):=by
 obtain⟨B,b0,b1,h⟩:=h
 have hd:x.den<2 ^ 41:=C8 x hx
 have hn:x.num.natAbs<2 ^ 41:=gg x hx
 have d0:=x.den_pos
 refine⟨B*x.den,LB b0 d0,?_,fun z hz=>?_⟩
 ·have:=KH b1 (Jn hd)
  rw[← IH]at this
  exact Hx this (HD (by decide) (by omega))
 ·rcases HH.mp hz with hz|hz
  ·exact((h z hz).scale b0 d0).mono (by omega)
  ·obtain rfl:z=x:=by simpa using hz
   refine⟨z.num*B,?_,?_⟩
   ·rw[Jr,JL,Jy (by omega),Jf]
   ·rw[HX,HF,Jr,Lb]
    refine KO _ (Hx (Jn hn) ?_)
    have h1:2 ^ 41≤2 ^ (41+2*(k+1)):=HD (by decide) (by omega)
    exact Hx h1 (Nat.le_mul_of_pos_left _ d0)
theorem Col.add{k:Nat}{xs:List Rat}(h:Col k xs){x y:Rat}(hx:x∈xs)(hy:y∈xs):Col (k+1) (xs++[x+y]):=by
 obtain⟨B,b0,b1,h⟩:=h
 refine⟨B,b0,Hx b1 (HD (by decide) (by omega)),fun z hz=>?_⟩
 rcases HH.mp hz with hz|hz
 ·exact(h z hz).mono (by omega)
 ·obtain rfl:z=x+y:=by simpa using hz
  obtain⟨n,rfl,hn⟩:=h x hx
  obtain⟨m,rfl,hm⟩:=h y hy
  refine⟨n+m,?_,?_⟩
  ·rw[Rat.divInt_add_divInt _ _ (by omega) (by omega),← Int.add_mul,Jy (by omega)]
  ·have:=Lg n m
   have e:41+2*(k+1)=(41+2*k)+1+1:=by omega
   rw[e,JR,JR]
   generalize 2 ^ (41+2*k)=t at *
   have:B*(t*2*2)=4*(B*t):=by grind
   omega
theorem Col.again{k:Nat}{xs:List Rat}(h:Col k xs){x:Rat}(hx:x∈xs):Col (k+1) (xs++[x]):=by
 obtain⟨B,b0,b1,h⟩:=h
 refine⟨B,b0,Hx b1 (HD (by decide) (by omega)),fun z hz=>?_⟩
 rcases HH.mp hz with hz|hz
 ·exact(h z hz).mono (by omega)
 ·obtain rfl:z=x:=by simpa using hz
  exact(h z hx).mono (by omega)
theorem Col.by{k:Nat}{xs:List Rat}(h:Col k xs){x w:Rat}(hx:x∈xs)(h1:w.num.natAbs≤4)(h2:w.den≤4):Col (k+1) (xs++[w*x]):=by
 obtain⟨B,b0,b1,h⟩:=h
 have d0:=w.den_pos
 refine⟨B*w.den,LB b0 d0,?_,fun z hz=>?_⟩
 ·have:=KH b1 (show w.den≤2 ^ 2 from h2)
  rw[← IH]at this
  exact Hx this (HD (by decide) (by omega))
 ·rcases HH.mp hz with hz|hz
  ·exact((h z hz).scale b0 d0).mono (by omega)
  ·obtain rfl:z=w*x:=by simpa using hz
   obtain⟨n,rfl,hn⟩:=h x hx
   refine⟨w.num*n,?_,?_⟩
   ·rw[JL,Int.mul_comm (B:Int),← Rat.divInt_mul_divInt,Jf]
   ·rw[HX]
    have e:41+2*(k+1)=(41+2*k)+2:=by omega
    rw[e,IH]
    have:=KH h1 hn
    generalize 2 ^ (41+2*k)=t at *
    have h3:B*w.den*(t*2 ^ 2)=4*(B*t)*w.den:=by grind
    rw[h3]
    exact Hx this (Nat.le_mul_of_pos_right _ d0)
theorem jC{l:Rat × Rat × Rat}{y u:Rat}:ay l y u = !decide (l.2.2<C3 (l.1*y+l.2.1*u)):=by
 unfold ay
 by_cases h:C3 (l.1*y+l.2.1*u)≤l.2.2
 ·rw[decide_eq_true h,decide_eq_false (by grind)];rfl
 ·rw[decide_eq_false h,decide_eq_true (by grind)];rfl
theorem kS{ls:List (Rat × Rat × Rat)}{y u:Rat}(h:∀(i:Nat) (l:Rat × Rat × Rat),ls[i]? = some l→ay l y u=true):m9 ls y u=true:=by
 unfold m9
 rw[Iz]
 intro x hx
 obtain⟨i,hi,e⟩:=Jz.mp hx
 exact h i x (by rw[Hu hi,e])
theorem sE{ls:List (Rat × Rat × Rat)}{y u:Rat}{l:Rat × Rat × Rat}(hl:l∈ls)(h:ay l y u=false):m9 ls y u=false:=by
 unfold m9
 rw[List.all_eq_false]
 exact⟨l,hl,by rw[h];decide⟩
theorem eA{ls:List (Rat × Rat × Rat)}{i:Nat}{d:D}(h:(ls.map h8)[i]? = some d):∃ l,ls[i]? = some l∧d=h8 l:=by
 rw[HK]at h
 cases e:ls[i]? with
 | none=>rw[e]at h;cases h
 | some l=>rw[e]at h;exact⟨l,rfl,(Option.some.inj h).symm⟩
theorem cB{l:Addr}{xs:List D}{r:Int}{M:Mem}{R:DK}(hM:M l=some (.lst xs))(h0:0≤r)(h1:r<xs.length)(h:∀ d∈xs,R d M):gIx (.ref l) (.int r) M R:=by
 obtain⟨z,e,hz⟩:=nT h0 h1
 exact⟨z,A5 hM e,h z hz⟩
structure N0(k:Nat)(ls:List (Rat × Rat × Rat)):Prop where
 p:Col k (ls.map fun l=>l.1)
 q:Col k (ls.map fun l=>l.2.1)
 r:Col k (ls.map fun l=>l.2.2)
 ne:∀ l∈ls,¬ (l.1=0∧l.2.1=0)
theorem N0.nil:N0 0 []:=⟨Col.nil,Col.nil,Col.nil,fun _ h=>nomatch h⟩
theorem gi{ls:List (Rat × Rat × Rat)}{x:Rat × Rat × Rat}(h:∀ l∈ls,¬ (l.1=0∧l.2.1=0))(hx:¬ (x.1=0∧x.2.1=0)):∀ l∈ls++[x],¬ (l.1=0∧l.2.1=0):=fun l hl=>by
 rcases HH.mp hl with z|z
 ·exact h l z
 ·rw[HP.mp z];exact hx
theorem U0{ls:List (Rat × Rat × Rat)}{x:Rat × Rat × Rat}(h:x∈ls)(f:Rat × Rat × Rat→Rat):f x∈ls.map f:=Hm.mpr ⟨x,h,rfl⟩
theorem N0.new{k:Nat}{ls:List (Rat × Rat × Rat)}(h:N0 k ls){x:Rat × Rat × Rat}(hx:LOk 41 x):N0 (k+1) (ls++[x]) :=
 ⟨by rw[Hw];exact h.p.new hx.p,by rw[Hw];exact h.q.new hx.q,by rw[Hw];exact h.r.new hx.r,gi h.ne hx.ne⟩
theorem N0.again{k:Nat}{ls:List (Rat × Rat × Rat)}(h:N0 k ls){x:Rat × Rat × Rat}(hx:x∈ls):N0 (k+1) (ls++[x]) :=
 ⟨by rw[Hw];exact h.p.again (U0 hx _),by rw[Hw];exact h.q.again (U0 hx _),by rw[Hw];exact h.r.again (U0 hx _),gi h.ne (h.ne x hx)⟩
theorem N0.sum{k:Nat}{ls:List (Rat × Rat × Rat)}(h:N0 k ls){x y:Rat × Rat × Rat}(hx:x∈ls)(hy:y∈ls)(hn:¬ (x.1+y.1=0∧x.2.1+y.2.1=0)):N0 (k+1) (ls++[(x.1+y.1,x.2.1+y.2.1,x.2.2+y.2.2)]) :=
 ⟨by rw[Hw];exact h.p.add (U0 hx _) (U0 hy _),by rw[Hw];exact h.q.add (U0 hx (fun l=>l.2.1)) (U0 hy (fun l=>l.2.1)),by rw[Hw];exact h.r.add (U0 hx (fun l=>l.2.2)) (U0 hy (fun l=>l.2.2)),gi h.ne hn⟩
structure cH(w:Rat):Prop where
 n:w.num.natAbs≤4
 d:w.den≤4
 ne:w≠0
theorem N0.taken{k:Nat}{ls:List (Rat × Rat × Rat)}(h:N0 k ls){x:Rat × Rat × Rat}(hx:x∈ls){w r:Rat}(hw:cH w)(hr:r=x.2.2∨sz r≤41):N0 (k+1) (ls++[(w*x.1,w*x.2.1,r)]) :=
 ⟨by rw[Hw];exact h.p.by (U0 hx _) hw.n hw.d,by rw[Hw];exact h.q.by (U0 hx (fun l=>l.2.1)) hw.n hw.d,by
  rw[Hw]
  rcases hr with rfl|hr
  ·exact h.r.again (U0 hx (fun l=>l.2.2))
  ·exact h.r.new hr,gi h.ne fun z=>h.ne x hx (by
   have a:=hw.ne
   have b1:w*x.1=0:=z.1
   have b2:w*x.2.1=0:=z.2
   exact⟨by grind,by grind⟩)⟩
theorem N0.ok{k:Nat}{ls:List (Rat × Rat × Rat)}(h:N0 k ls)(hk:k≤12):∀ l∈ls,LOk 600 l:=fun l hl =>
 ⟨⟨h.p.sz hk (U0 hl _),h.q.sz hk (U0 hl (fun l=>l.2.1)),h.r.sz hk (U0 hl (fun l=>l.2.2))⟩,h.ne l hl⟩
theorem eV{a b:Int}(h0:a.natAbs≤4)(h1:0<b)(h2:b≤4)(h3:Iv a b≠0):cH (Iv a b):=by
 have ha:a = -4∨a = -3∨a = -2∨a = -1∨a=0∨a=1∨a=2∨a=3∨a=4:=by omega
 have hb:b=1∨b=2∨b=3∨b=4:=by omega
 refine⟨?_,?_,h3⟩<;>(rcases ha with rfl|rfl|rfl|rfl|rfl|rfl|rfl|rfl|rfl<;>rcases hb with rfl|rfl|rfl|rfl<;>decide)
theorem small_one:cH 1:=⟨by decide,by decide,by decide⟩
theorem cH.sz{w:Rat}(h:cH w):RM.sz w≤3:=by
 rw[← Jf w]
 exact P6 (by decide) (by have:=h.n;omega) (by have:=h.d;omega) (RM.B5 w)
noncomputable def rD(r:Rat × Rat):D:=T8 r.1 r.2
noncomputable def jB(l:Nat × Rat × Rat × Rat):D:=.tup [.int (l.1:Int),e9 l.2.1,e9 l.2.2.1,e9 l.2.2.2]
end GM
namespace DL
open PySem PySem.Spec L2
open PyProof.Rows hiding St
section
variable {X:Cx} {name:Str} {id:String} {o:Expr} {to:DTE} {apos cpos:Pos}
def DW(g:DRM)(to:DTE):DTE:=fun e M R=>to e M fun x M1=>(∃ l ds,x = .ref l∧M1 l=some (.lst ds))∧g x [] M1 R
theorem AN{g:DRM}(slot:Slot "list" name id)(hty:typeOf (.builtin id)=pure (.type "method_descriptor"))(hm:DMt X id g)(ho:JE X o to)
  (hbase:attributeBase o name X.env (eval o X.env)=eval o X.env:=by rfl) (hline:(apos.endLine == cpos.line)=true:=by rfl):JE X (.Call (.Attribute o name apos) [] [] cpos) (DW g to) :=
 ⟨(rT PySem.F.plainAttrs_list slot hty hm ho.out hbase hline).imp fun σ H Q ⟨e,M,R,ok,am,t,f⟩=>⟨e,M,_,ok,am,t,fun x M1 ⟨⟨l,ds,z,hM⟩,h1⟩ v H1 k1 a1 r1=>by
  subst z
  have r1':=r1
  cases r1
  obtain⟨xs,hx,_⟩:=a1.lst hM
  exact⟨.inl ⟨rfl,xs,SqL.of hx⟩,_,[],M1,R,r1',.nil,a1,h1,f.mono k1⟩⟩⟩
def sU:DRM:=fun x xs M R=>∃ l ds,x = .ref l∧xs=[]∧M l=some (.lst ds)∧R .non (j9 M l (.lst ds.reverse))
theorem jF{K:Hi}{H:Hp}:∀{xs:List V} {ds:List D},HasL K H xs ds→HasL K H xs.reverse ds.reverse
 | _,_,.nil=>.nil
 | _,_,.cons a b=>by rw[Jk,Jk];exact(jF b).append (.cons a .nil)
theorem kY:DMt X "list.reverse" sU:=MtR.imp (r:=iZ) kQ fun x xs H Q ⟨dx,ds,M,R,hx,hl,am,⟨l,es,e1,e2,hM,r⟩,f⟩=>by
 subst e1;subst e2
 cases hx
 cases hl
 obtain⟨ys,hy,ly⟩:=am.lst hM
 exact⟨l,ys,rfl,rfl,hy,f _ _ r _ _ (KT.write hy) (am.write hy (jF ly)) .non⟩
end
section
variable {e:Ev} {M:Mem} {R:DK} {to:DTE}
theorem xX{g:DRM}:DW g to e M R=to e M fun x M1=>LMK x M1 (g x [] M1 R):=rfl
end
end DL
namespace L2
open PySem PySem.Spec PyProof.Rows
end L2
namespace DL
open PySem PySem.Spec L2
open PyProof.Rows hiding St
end DL
namespace L2
open PySem PySem.Spec PyProof.Rows
section
variable {prog:Program} {w:World} {A:Around} {E:Value→Shared→Prop} {s:Shared}
end
section
variable {prog:Program} {w:World} {A:Around} {E:Value→Shared→Prop} {s:Shared}
end
end L2
namespace DL
open PySem PySem.Spec L2
end DL
namespace GM
noncomputable abbrev T3:=Rat × Rat × Rat
noncomputable def ve(a b:T3):Rat:=a.1*b.2.1 - a.2.1*b.1
noncomputable def tn(a b c:T3):Rat:=a.2.2*ve b c - b.2.2*ve a c+c.2.2*ve a b
noncomputable def dt(a:T3)(z:Rat × Rat):Rat:=a.1*z.1+a.2.1*z.2
noncomputable def ry(a b:T3):Rat × Rat:=((a.2.2*b.2.1 - b.2.2*a.2.1) / ve a b,(a.1*b.2.2 - b.1*a.2.2) / ve a b)
noncomputable def ng(a:T3):T3:=(-a.1,-a.2.1,a.2.2)
noncomputable def ngZ(z:Rat × Rat):Rat × Rat:=(-z.1,-z.2)
def Sup(ss:List T3)(z:Rat × Rat):Prop:=∀ s∈ss,dt s z≤s.2.2
structure BG(ss:List T3)(a b:T3):Prop where
 ve:0<ve a b
 mem:b∈ss
 hull:∀ s∈ss,0<GM.ve a s→0≤tn a b s
theorem dZ{a b:T3}(h:ve a b≠0):ve a b*(ry a b).1=a.2.2*b.2.1 - b.2.2*a.2.1∧ve a b*(ry a b).2=a.1*b.2.2 - b.1*a.2.2:=by
 unfold ry
 constructor
 ·show ve a b*((a.2.2*b.2.1 - b.2.2*a.2.1) / ve a b)=_
  rw[IP,HZ h]
 ·show ve a b*((a.1*b.2.2 - b.1*a.2.2) / ve a b)=_
  rw[IP,HZ h]
theorem A2{x:Rat}(h:0<x):x≠0:=by grind
theorem D6{x:Rat}(h:0<x):0≤x:=by grind
theorem tot(x y:Rat):x≤y∨y≤x:=by grind
theorem F4{v x y:Rat}(hv:v≠0)(h:v*x=v*y):x=y:=by grind
theorem iU{a b:T3}(h:ve a b≠0)(s:T3):ve a b*(s.2.2 - dt s (ry a b))=tn a b s:=by
 obtain⟨e1,e2⟩:=dZ h
 unfold dt tn
 have:ve a b*(s.2.2 - (s.1*(ry a b).1+s.2.1*(ry a b).2))=ve a b*s.2.2 - s.1*(ve a b*(ry a b).1) - s.2.1*(ve a b*(ry a b).2):=by grind
 rw[this,e1,e2]
 unfold ve
 grind
theorem iW{a b:T3}(h:ve a b≠0):dt a (ry a b)=a.2.2:=by
 have:=iU h a
 have e:tn a b a=0:=by unfold tn ve;grind
 rw[e]at this
 grind
theorem fM{a b:T3}(h:ve a b≠0):dt b (ry a b)=b.2.2:=by
 have:=iU h b
 have e:tn a b b=0:=by unfold tn ve;grind
 rw[e]at this
 grind
theorem aO{a b:T3}{z:Rat × Rat}(h:ve a b≠0)(h1:dt a z=a.2.2)(h2:dt b z=b.2.2):z=ry a b:=by
 obtain⟨e1,e2⟩:=dZ h
 have z1:ve a b*z.1=ve a b*(ry a b).1:=by
  rw[e1,← h1,← h2];unfold ve dt;grind
 have z2:ve a b*z.2=ve a b*(ry a b).2:=by
  rw[e2,← h1,← h2];unfold ve dt;grind
 exact Prod.ext (F4 h z1) (F4 h z2)
theorem iV(a b:T3):ry (ng a) (ng b)=ngZ (ry a b):=by
 have e:ve (ng a) (ng b)=ve a b:=by unfold ve ng;grind
 unfold ry ngZ
 rw[e]
 show((a.2.2*(-b.2.1) - b.2.2*(-a.2.1)) / ve a b,((-a.1)*b.2.2 - (-b.1)*a.2.2) / ve a b)=_
 exact Prod.ext (by show _ / _ = -(_ / _);grind) (by show _ / _ = -(_ / _);grind)
theorem yk(a b s:T3)(z:Rat × Rat):tn a b s=(a.2.2 - dt a z)*ve b s - (b.2.2 - dt b z)*ve a s+(s.2.2 - dt s z)*ve a b:=by
 unfold tn ve dt;grind
theorem B1{v x:Rat}(hv:0<v)(h:0≤v*x):0≤x:=by
 rcases tot 0 x with z|z
 ·exact z
 ·by_cases e:x=0
  ·grind
  ·have:0<v * -x:=Ij hv (by grind)
   grind
theorem zF{a b:T3}{ss:List T3}(h:0<ve a b)(ht:∀ s∈ss,0≤tn a b s):Sup ss (ry a b):=fun s hs=>by
 have:=iU (A2 h) s
 have h2:=ht s hs
 rw[← this]at h2
 have:=B1 h h2
 grind
theorem iH{ss:List T3}{a b:T3}{z:Rat × Rat}(hz:Sup ss z)(ha:dt a z=a.2.2)(e:BG ss a b):Sup ss (ry a b):=by
 refine zF e.ve fun s hs=>?_
 by_cases h:0<ve a s
 ·exact e.hull s hs h
 ·rw[yk a b s z,ha]
  have h1:0≤(b.2.2 - dt b z)*(-ve a s):=Ht (by have:=hz b e.mem;grind) (by grind)
  have h2:0≤(s.2.2 - dt s z)*ve a b:=Ht (by have:=hz s hs;grind) (by have:=e.ve;grind)
  grind
theorem bD{ss:List T3}(sy:∀ s∈ss,ng s∈ss){z:Rat × Rat}(h:Sup ss z):Sup ss (ngZ z):=fun s hs=>by
 have:=h _ (sy s hs)
 have e:dt (ng s) z=dt s (ngZ z):=by unfold dt ng ngZ;grind
 rw[← e];exact this
theorem F7{a b w:T3}(h:0<ve a b)(z:Rat × Rat):ve a b*dt w z=ve w b*dt a z+ve a w*dt b z:=by
 unfold ve dt;grind
theorem ke{w:T3}:∀(x:T3) (l:List T3) (y:T3),0≤ve x w→0<ve w y→∃ ab∈(x :: l).zip (l++[y]),0≤ve ab.1 w∧0<ve w ab.2
 | x,[],y,h1,h2=>⟨(x,y),Hq,h1,h2⟩
 | x,x' :: l,y,h1,h2=>by
  by_cases h:0<ve w x'
  ·exact⟨(x,x'),Hq,h1,h⟩
  ·have e:ve x' w = -ve w x':=by unfold ve;grind
   obtain⟨ab,hm,q⟩:=ke x' l y (by rw[e];grind) h2
   exact⟨ab,Hl _ hm,q⟩
structure Rim(ss:List T3)(h0:T3)(l:List T3):Prop where
 ne:l≠[]
 sy:∀ s∈ss,ng s∈ss
 pos:∀ s∈ss,0<s.2.2
 all:∀ ab∈(h0 :: l).zip (l++[ng h0]),ab.1∈ss∧ab.2∈ss∧0<ve ab.1 ab.2∧Sup ss (ry ab.1 ab.2)
noncomputable def gx(h0:T3)(l:List T3):List (T3 × T3):=(h0 :: l).zip (l++[ng h0])
noncomputable def aB(h0:T3)(l:List T3):List (Rat × Rat):=(gx h0 l).map (fun ab=>ry ab.1 ab.2)++(gx h0 l).map (fun ab=>ngZ (ry ab.1 ab.2))
theorem E5{α β:Type}(f:α→β):∀(l m:List α),(l.map f).zip (m.map f)=(l.zip m).map fun p=>(f p.1,f p.2)
 | [],_=>rfl
 | _ :: _,[]=>rfl
 | a :: l,b :: m=>by rw[HL,HL,Lc,E5 f l m];rfl
theorem sm(a:T3):ng (ng a)=a:=by
 obtain⟨p,q,r⟩:=a
 unfold ng
 show(- -p,- -q,r)=(p,q,r)
 rw[KP,KP]
theorem Rim.around{ss:List T3}{h0:T3}{l:List T3}(R:Rim ss h0 l)(w:T3)(hw:¬ (w.1=0∧w.2.1=0)) :
  ∃ a b,a∈ss∧b∈ss∧0<ve a b∧Sup ss (ry a b)∧ry a b∈aB h0 l∧0≤ve a w∧0<ve w b:=by
 have fromE:∀ ab∈gx h0 l,0≤ve ab.1 w→0<ve w ab.2→∃ a b,a∈ss∧b∈ss∧0<ve a b∧Sup ss (ry a b)∧ry a b∈aB h0 l∧0≤ve a w∧0<ve w b:=fun ab hm h1 h2=>by
  obtain⟨q1,q2,q3,q4⟩:=R.all ab hm
  exact⟨ab.1,ab.2,q1,q2,q3,q4,Iq _ (Hm.mpr ⟨ab,hm,rfl⟩),h1,h2⟩
 have fromN:∀ ab∈gx h0 l,0≤ve (ng ab.1) w→0<ve w (ng ab.2)→∃ a b,a∈ss∧b∈ss∧0<ve a b∧Sup ss (ry a b)∧ry a b∈aB h0 l∧0≤ve a w∧0<ve w b:=fun ab hm h1 h2=>by
  obtain⟨q1,q2,q3,q4⟩:=R.all ab hm
  refine⟨ng ab.1,ng ab.2,R.sy _ q1,R.sy _ q2,?_,?_,?_,h1,h2⟩
  ·have:ve (ng ab.1) (ng ab.2)=ve ab.1 ab.2:=by unfold ve ng;grind
   rw[this];exact q3
  ·rw[iV];exact bD R.sy q4
  ·rw[iV];exact HI _ (Hm.mpr ⟨ab,hm,rfl⟩)
 have e0:ve w (ng h0)=ve h0 w:=by unfold ve ng;grind
 have e1:ve (ng h0) w = -ve h0 w:=by unfold ve ng;grind
 by_cases c1:0<ve h0 w
 ·obtain⟨ab,hm,k1,k2⟩:=ke h0 l (ng h0) (D6 c1) (by rw[e0];exact c1)
  exact fromE ab hm k1 k2
 by_cases c2:ve h0 w<0
 ·have e2:ve w h0 = -ve h0 w:=by unfold ve;grind
  obtain⟨ab,hm,k1,k2⟩:=ke (w:=w) (ng h0) (l.map ng) h0 (by rw[e1];clear fromE fromN;grind) (by rw[e2];clear fromE fromN;grind)
  have em:ab∈((h0 :: l).map ng).zip ((l++[ng h0]).map ng):=by
   rw[Hw,HL,HL,IA,sm];exact hm
  rw[E5]at em
  obtain⟨cd,hcd,rfl⟩:=Hm.mp em
  exact fromN cd hcd k1 k2
 ·have c0:ve h0 w=0:=by clear fromE fromN;grind
  cases l with
  | nil=>exact absurd rfl R.ne
  | cons x l =>
   have hm:(h0,x)∈gx h0 (x :: l):=Hq
   obtain⟨q1,q2,q3,q4⟩:=R.all _ hm
   have q3:0<ve h0 x:=q3
   by_cases k:0<ve w x
   ·exact fromE _ hm (by show 0≤ve h0 w;rw[c0];exact JM) k
   ·refine fromN _ hm (by show 0≤ve (ng h0) w;rw[e1,c0];exact JM) ?_
    show 0<ve w (ng x)
    have ex:ve w (ng x) = -ve w x:=by unfold ve ng;grind
    rw[ex]
    clear fromE fromN
    have hne:ve w x≠0:=fun z=>hw (by
     unfold ve at c0 z q3
     have i1:w.1*(h0.1*x.2.1 - h0.2.1*x.1)=0:=by
      have:w.1*(h0.1*x.2.1 - h0.2.1*x.1)=h0.1*(w.1*x.2.1 - w.2.1*x.1)+x.1*(h0.1*w.2.1 - h0.2.1*w.1):=by grind
      rw[this,z,c0];grind
     have i2:w.2.1*(h0.1*x.2.1 - h0.2.1*x.1)=0:=by
      have:w.2.1*(h0.1*x.2.1 - h0.2.1*x.1)=h0.2.1*(w.1*x.2.1 - w.2.1*x.1)+x.2.1*(h0.1*w.2.1 - h0.2.1*w.1):=by grind
      rw[this,z,c0];grind
     have hv:h0.1*x.2.1 - h0.2.1*x.1≠0:=by grind
     exact⟨by grind,by grind⟩)
    grind
theorem Rim.most{ss:List T3}{h0:T3}{l:List T3}(R:Rim ss h0 l)(w:T3)(hw:¬ (w.1=0∧w.2.1=0)):∃ c∈aB h0 l,Sup ss c∧∀ z,Sup ss z→dt w z≤dt w c:=by
 obtain⟨a,b,ha,hb,hv,hs,hc,k1,k2⟩:=R.around w hw
 refine⟨_,hc,hs,fun z hz=>?_⟩
 have e1:=F7 (w:=w) hv z
 have e2:=F7 (w:=w) hv (ry a b)
 rw[iW (A2 hv),fM (A2 hv)]at e2
 have h1:0≤ve w b*(a.2.2 - dt a z):=Ht (D6 k2) (by have:=hz a ha;grind)
 have h2:0≤ve a w*(b.2.2 - dt b z):=Ht k1 (by have:=hz b hb;grind)
 have h3:0≤ve a b*(dt w (ry a b) - dt w z):=by grind
 have:=B1 hv h3
 grind
theorem Rim.corner{ss:List T3}{h0:T3}{l:List T3}(R:Rim ss h0 l){s t:T3}{z:Rat × Rat}(hz:Sup ss z)(hs:s∈ss)(ht:t∈ss)(hv:0<ve s t)(es:dt s z=s.2.2)(et:dt t z=t.2.2):z∈aB h0 l:=by
 have hw:¬ (s.1=0∧s.2.1=0):=fun⟨q1,q2⟩=>by
  unfold ve at hv
  rw[q1,q2]at hv
  grind
 obtain⟨a,b,ha,hb,hab,hsup,hc,k1,k2⟩:=R.around s hw
 have e1:=F7 (w:=s) hab z
 have e2:=F7 (w:=s) hab (ry a b)
 rw[iW (A2 hab),fM (A2 hab)]at e2
 have za:=hz a ha
 have zb:=hz b hb
 have zs:=hsup s hs
 have h1:0≤ve s b*(a.2.2 - dt a z):=Ht (D6 k2) (by grind)
 have h2:0≤ve a s*(b.2.2 - dt b z):=Ht k1 (by grind)
 have h3:0≤ve a b*(s.2.2 - dt s (ry a b)):=Ht (by grind) (by grind)
 rw[es]at e1
 have s1:ve s b*(a.2.2 - dt a z)=0:=by grind
 have s2:ve a s*(b.2.2 - dt b z)=0:=by grind
 have ta:dt a z=a.2.2:=by grind
 have fin:dt b z=b.2.2→z∈aB h0 l:=fun tb=>by rw[aO (A2 hab) ta tb];exact hc
 by_cases c:ve a s=0
 ·
  have hat:0<ve a t:=by
   have i:ve a b*ve s t=ve s b*ve a t - ve t b*ve a s:=by unfold ve;grind
   rw[c]at i
   have p1:0<ve a b*ve s t:=Ij hab hv
   have p2:0<ve s b*ve a t:=by grind
   rcases tot 0 (ve a t)with z|z
   ·by_cases e:ve a t=0
    ·rw[e]at p2;grind
    ·grind
   ·have:0≤ve s b*(-ve a t):=Ht (by grind) (by grind)
    grind
  have h5:0≤tn a b t:=by
   rw[← iU (A2 hab) t]
   exact Ht (by grind) (by have:=hsup t ht;grind)
  rw[yk a b t z,ta,et]at h5
  have h6:0≤ve a t * -(b.2.2 - dt b z):=by grind
  have:=B1 hat h6
  exact fin (by grind)
 ·exact fin (by grind)
theorem yN{ss:List T3}{h0 hm f:T3}{z0 z:Rat × Rat}(sy:∀ s∈ss,ng s∈ss)(m0:h0∈ss)(mm:hm∈ss)(s0:Sup ss z0)(t0:dt h0 z0=h0.2.2)(sz:Sup ss z)(tz:dt hm z=hm.2.2)(e:BG ss hm f)(h1:0<ve h0 hm)(h2:ve h0 f≤0) :
  Sup ss (ry hm (ng h0)):=by
 have sf:=iH sz tz e
 have v1:0<ve hm (ng h0):=by
  have:ve hm (ng h0)=ve h0 hm:=by unfold ve ng;grind
  rw[this];exact h1
 have v2:0≤ve (ng h0) f:=by
  have:ve (ng h0) f = -ve h0 f:=by unfold ve ng;grind
  rw[this];grind
 have tf:=iW (a:=hm) (b:=f) (A2 e.ve)
 have tg:=fM (a:=hm) (b:=f) (A2 e.ve)
 have e1:=F7 (w:=ng h0) e.ve (ngZ z0)
 have e2:=F7 (w:=ng h0) e.ve (ry hm f)
 rw[tf,tg]at e2
 have sn:=bD sy s0
 have q1:=sn hm mm
 have q2:=sn f e.mem
 have g0:dt (ng h0) (ngZ z0)=(ng h0).2.2:=by
  have:dt (ng h0) (ngZ z0)=dt h0 z0:=by unfold dt ng ngZ;grind
  rw[this,t0];rfl
 rw[g0]at e1
 have q3:=sf (ng h0) (sy h0 m0)
 have p1:0≤ve (ng h0) f*(hm.2.2 - dt hm (ngZ z0)):=Ht v2 (by grind)
 have p2:0≤ve hm (ng h0)*(f.2.2 - dt f (ngZ z0)):=Ht (by grind) (by grind)
 have p3:0≤ve hm f*(dt (ng h0) (ry hm f) - (ng h0).2.2):=by grind
 have p4:=B1 e.ve p3
 have t3:dt (ng h0) (ry hm f)=(ng h0).2.2:=by grind
 rw[← aO (a:=hm) (b:=ng h0) (A2 v1) tf t3]
 exact sf
end GM
namespace GM
open PySem PySem.Spec L2 DL
open RM (sz)
noncomputable abbrev Sd:=Int × Int × Int × Int × Int
noncomputable def sdD(s:Sd):D:=.tup [.int s.1,.int s.2.1,.int s.2.2.1,.int s.2.2.2.1,.int s.2.2.2.2]
noncomputable def tri(s:Sd):T3:=((s.1:Rat),(s.2.1:Rat),(s.2.2.1:Rat))
noncomputable def veZ(a b:Sd):Int:=a.1*b.2.1 - a.2.1*b.1
noncomputable def tnZ(a b c:Sd):Int:=a.2.2.1*veZ b c - b.2.2.1*veZ a c+c.2.2.1*veZ a b
noncomputable def j0(s:Sd):Sd:=(-s.1,-s.2.1,s.2.2.1,s.2.2.2.1,-s.2.2.2.2)
noncomputable def B4(a b:Sd):Bool:=if a.1*b.2.2.1 - b.1*a.2.2.1=0 then decide (0<a.2.1*b.2.2.1 - b.2.1*a.2.2.1)else decide (0<a.1*b.2.2.1 - b.1*a.2.2.1)
noncomputable def v6(ss:List Sd)(f:Sd):Sd:=ss.foldl (fun f s=>if B4 s f=true then s else f) f
noncomputable def xl(h:Sd)(f:Option Sd)(s:Sd):Bool:=match f with
 | none=>true
 | some g=>decide (tnZ h g s<0) || (decide (tnZ h g s=0) && decide (0<veZ g s))
noncomputable def L0(h:Sd)(f:Option Sd)(s:Sd):Option Sd:=if 0<veZ h s then(if xl h f s=true then some s else f)else f
noncomputable def A1(h:Sd)(ss:List Sd):Option Sd:=ss.foldl (L0 h) none
noncomputable def C1(h0:Sd)(ss:List Sd):Nat→Option Sd→List Sd
 | 0,_=>[]
 | _+1,none=>[]
 | k+1,some h=>if 0<veZ h0 h then h :: C1 h0 ss k (A1 h ss)else[]
noncomputable def N2:List Sd→List Sd
 | []=>[]
 | s :: r=>v6 (s :: r) s :: C1 (v6 (s :: r) s) (s :: r) (s :: r).length (A1 (v6 (s :: r) s) (s :: r))
theorem t7(a b:Sd):ve (tri a) (tri b)=(veZ a b:Rat):=by
 unfold ve tri veZ
 rw[Jg,HU,HU]
theorem eT(a b c:Sd):tn (tri a) (tri b) (tri c)=(tnZ a b c:Rat):=by
 unfold tn tnZ
 rw[t7,t7,t7,Rat.intCast_add,Jg,HU,HU,HU]
 rfl
theorem t4{n:Int}:(0:Rat)<(n:Rat)↔0<n:=by
 have:=Rat.intCast_lt_intCast (a:=0) (b:=n)
 rw[← this];rfl
theorem yP{n:Int}:(0:Rat)≤(n:Rat)↔0≤n:=by
 have:=Ko (a:=0) (b:=n)
 rw[← this];rfl
theorem u5(s:Sd):tri (j0 s)=ng (tri s):=by
 unfold tri j0 ng
 rw[Kt,Kt]
theorem T9{a b:Int}(ha:0<a)(h:0≤a*b):0≤b:=by
 rcases Ku b 0 with z|z
 ·have:=Int.mul_lt_mul_of_pos_left z ha
  omega
 ·exact z
theorem jy{a b:Int}(ha:0<a)(h:0<a*b):0<b:=by
 rcases Ku 0 b with z|z
 ·exact z
 ·have:=Int.mul_le_mul_of_nonneg_left z (Lo ha)
  omega
theorem plu(h g s t:Sd):veZ h g*tnZ h s t=veZ h s*tnZ h g t - veZ h t*tnZ h g s:=by unfold tnZ veZ;grind
theorem EK(h g s t:Sd):veZ h g*tnZ g s t=tnZ h g s*veZ t g - tnZ h g t*veZ s g:=by unfold tnZ veZ;grind
theorem EJ(o h g s:Sd):veZ o g*veZ h s=veZ o h*veZ g s+veZ o s*veZ h g:=by unfold veZ;grind
structure ud(h:Sd)(pre:List Sd)(f:Option Sd):Prop where
 no:f=none→∀ s∈pre,¬ 0<veZ h s
 yes:∀ g,f=some g→g∈pre∧0<veZ h g∧∀ s∈pre,0<veZ h s→0≤tnZ h g s∧(tnZ h g s=0→veZ g s≤0)
theorem sj{h:Sd}{pre:List Sd}{f:Option Sd}{s:Sd}(hp:∀ s∈pre,0<s.2.2.1)(hs:0<s.2.2.1)(I:ud h pre f):ud h (pre++[s]) (L0 h f s):=by
 unfold L0
 by_cases c:0<veZ h s
 ·rw[if_pos c]
  by_cases b:xl h f s=true
  ·rw[if_pos b]
   refine⟨fun z=>(by cases z),fun g e=>?_⟩
   cases e
   refine⟨by simp,c,fun t ht hv=>?_⟩
   have self:tnZ h s s=0∧veZ s s=0:=by unfold tnZ veZ;grind
   rcases HH.mp ht with ht|ht
   ·cases f with
    | none=>exact absurd hv (I.no rfl t ht)
    | some g =>
     obtain⟨g1,g2,g3⟩:=I.yes g rfl
     obtain⟨k1,k2⟩:=g3 t ht hv
     have b':tnZ h g s<0∨(tnZ h g s=0∧0<veZ g s):=by
      have b:(decide (tnZ h g s<0) || (decide (tnZ h g s=0) && decide (0<veZ g s)))=true:=b
      simpa using b
     have pl:=plu h g s t
     have n1:0≤veZ h s*tnZ h g t:=IU (by omega) k1
     have n2:0≤veZ h t * -tnZ h g s:=IU (by omega) (by omega)
     rw[KQ]at n2
     refine⟨T9 g2 (by omega),fun z=>?_⟩
     rw[z,Int.mul_zero]at pl
     have m1:veZ h s*tnZ h g t=0:=by omega
     have m2:veZ h t*tnZ h g s=0:=by omega
     have e1:tnZ h g t=0:=(JN.mp m1).resolve_left (by omega)
     have e2:tnZ h g s=0:=(JN.mp m2).resolve_left (by omega)
     have gs:0<veZ g s:=by omega
     have gt:=k2 e1
     have p2:=EK h g s t
     rw[e1,e2,Lp,Lp]at p2
     have e3:tnZ g s t=0:=(JN.mp (by omega:veZ h g*tnZ g s t=0)).resolve_left (by omega)
     have e4:g.2.2.1*veZ s t - s.2.2.1*veZ g t+t.2.2.1*veZ g s=0:=e3
     have rg:=hp g g1
     have rt:=hp t ht
     have q1:0≤s.2.2.1 * -veZ g t:=IU (by omega) (by omega)
     have q2:0≤t.2.2.1*veZ g s:=IU (by omega) (by omega)
     rw[KQ]at q1
     have q3:0≤g.2.2.1 * -veZ s t:=by rw[KQ];omega
     have:=T9 rg q3
     omega
   ·rw[HP.mp ht,self.1,self.2]
    exact⟨Int.le_refl _,fun _=>Int.le_refl _⟩
  ·rw[if_neg b]
   cases f with
   | none=>exact absurd rfl b
   | some g =>
    obtain⟨g1,g2,g3⟩:=I.yes g rfl
    refine⟨fun z=>(by cases z),fun g' e=>?_⟩
    cases e
    refine⟨Iq _ g1,g2,fun t ht hv=>?_⟩
    rcases HH.mp ht with ht|ht
    ·exact g3 t ht hv
    ·rw[HP.mp ht]
     have b':¬ (tnZ h g s<0∨(tnZ h g s=0∧0<veZ g s)):=by
      intro z
      apply b
      show(decide (tnZ h g s<0) || (decide (tnZ h g s=0) && decide (0<veZ g s)))=true
      simpa using z
     exact⟨by omega,fun z=>by omega⟩
 ·rw[if_neg c]
  refine⟨fun z t ht=>?_,fun g e=>?_⟩
  ·rcases HH.mp ht with ht|ht
   ·exact I.no z t ht
   ·rw[HP.mp ht];exact c
  ·obtain⟨g1,g2,g3⟩:=I.yes g e
   refine⟨Iq _ g1,g2,fun t ht hv=>?_⟩
   rcases HH.mp ht with ht|ht
   ·exact g3 t ht hv
   ·rw[HP.mp ht]at hv;exact absurd hv c
theorem jt{h:Sd}:∀(l pre:List Sd) (f:Option Sd),(∀ s∈pre,0<s.2.2.1)→(∀ s∈l,0<s.2.2.1)→ud h pre f→ud h (pre++l) (l.foldl (L0 h) f)
 | [],pre,f,_,_,I=>by rw[Jd];exact I
 | s :: l,pre,f,h1,h2,I=>by
  have h3:=h2 s Hq
  have:=jt l (pre++[s]) (L0 h f s) (fun t ht=>by
   rcases HH.mp ht with ht|ht
   ·exact h1 t ht
   ·rw[HP.mp ht];exact h3) (fun t ht=>h2 t (Hl _ ht)) (sj h1 h3 I)
  rwa [Kc]at this
theorem W9{h:Sd}{ss:List Sd}(hp:∀ s∈ss,0<s.2.2.1):ud h ss (A1 h ss):=by
 have:=jt (h:=h) ss [] none (fun _ z=>nomatch z) hp ⟨fun _ _ z=>(nomatch z),fun _ z=>(nomatch z)⟩
 rwa [LC]at this
theorem E4{h f:Sd}{ss:List Sd}(hp:∀ s∈ss,0<s.2.2.1)(e:A1 h ss=some f):f∈ss∧0<veZ h f∧BG (ss.map tri) (tri h) (tri f):=by
 obtain⟨h1,h2,h3⟩:=(W9 hp).yes f e
 refine⟨h1,h2,by rw[t7];exact t4.mpr h2,Hm.mpr ⟨f,h1,rfl⟩,fun s hs hv=>?_⟩
 obtain⟨t,ht,rfl⟩:=Hm.mp hs
 rw[t7]at hv
 rw[eT]
 exact yP.mpr (h3 t ht (t4.mp hv)).1
theorem W8:∀(ss:List Sd) (f:Sd),v6 ss f=f∨v6 ss f∈ss
 | [],f=>.inl rfl
 | s :: r,f=>by
  show v6 r (if B4 s f=true then s else f)=f∨_
  rcases W8 r (if B4 s f=true then s else f)with h|h
  ·rw[h]
   split
   ·rename_i c;right;show v6 r (if B4 s f=true then s else f)∈_;rw[h,if_pos c];exact Hq
   ·exact .inl rfl
  ·exact .inr (Hl _ h)
theorem wH{s f:Sd}(h:B4 s f=true):f.1*s.2.2.1≤s.1*f.2.2.1:=by
 unfold B4 at h
 split at h
 ·omega
 ·have:=of_decide_eq_true h;omega
theorem wI{s f:Sd}(h:¬ B4 s f=true):s.1*f.2.2.1≤f.1*s.2.2.1:=by
 unfold B4 at h
 split at h
 ·omega
 ·have:¬ 0<s.1*f.2.2.1 - f.1*s.2.2.1:=fun z=>h (decide_eq_true z)
  omega
theorem Dr{a b c x y z:Int}(hy:0<y)(hx:0<x)(hz:0<z)(h1:a*y≤b*x)(h2:b*z≤c*y):a*z≤c*x:=by
 have e1:=Js h1 (Lo hz)
 have e2:=Js h2 (Lo hx)
 have e3:0≤y*(c*x - a*z):=by
  have:y*(c*x - a*z)=c*y*x - a*y*z:=by grind
  have e4:b*x*z=b*z*x:=by grind
  omega
 have:=T9 hy e3
 omega
theorem ni:∀(ss:List Sd) (f:Sd) (t:Sd),(∀ s∈ss,0<s.2.2.1)→0<f.2.2.1→0<t.2.2.1→(t∈ss∨t.1*f.2.2.1≤f.1*t.2.2.1)→t.1*(v6 ss f).2.2.1≤(v6 ss f).1*t.2.2.1
 | [],f,t,_,_,_,h=>by
  rcases h with h|h
  ·cases h
  ·exact h
 | s :: r,f,t,hp,hf,ht,h=>by
  have hs:=hp s Hq
  show t.1*(v6 r (if B4 s f=true then s else f)).2.2.1≤(v6 r (if B4 s f=true then s else f)).1*t.2.2.1
  refine ni r _ t (fun s hs=>hp s (Hl _ hs)) (by split<;>assumption) ht ?_
  rcases h with h|h
  ·rcases Hr.mp h with rfl|h
   ·right
    split
    ·omega
    ·rename_i c;exact wI c
   ·exact .inl h
  ·right
   split
   ·rename_i c
    exact Dr hf ht hs h (wH c)
   ·exact h
theorem jR{α:Type}{p q:α→Bool}{x:α}:∀{l:List α},(∀ y∈l,q y=true→p y=true)→x∈l→p x=true→q x=false→(l.filter q).length<(l.filter p).length
 | [],_,h,_,_=>nomatch h
 | y :: l,h1,h2,h3,h4=>by
  have le:∀(l:List α),(∀ y∈l,q y=true→p y=true)→(l.filter q).length≤(l.filter p).length:=fun l=>by
   induction l with
   | nil=>intro _;exact Hy _
   | cons a l ih =>
    intro h
    have:=ih fun y hy=>h y (Hl _ hy)
    by_cases qa:q a=true
    ·rw[HY qa,HY (h a Hq qa),Hs,Hs];omega
    ·rw[Iu qa]
     by_cases pa:p a=true
     ·rw[HY pa,Hs];omega
     ·rw[Iu pa];exact this
  have hl:=le l fun y hy=>h1 y (Hl _ hy)
  rcases Hr.mp h2 with rfl|h2
  ·rw[HY h3,Iu (by rw[h4];decide),Hs];omega
  ·have ih:=jR (fun y hy=>h1 y (Hl _ hy)) h2 h3 h4
   by_cases qa:q y=true
   ·rw[HY qa,HY (h1 y Hq qa),Hs,Hs];omega
   ·rw[Iu qa]
    by_cases pa:p y=true
    ·rw[HY pa,Hs];omega
    ·rw[Iu pa];exact ih
noncomputable def oR(h0:Sd)(ss:List Sd)(h:Sd):Nat:=(ss.filter fun s=>decide (0<veZ h s) && decide (0<veZ h0 s)).length
theorem tR(h0:Sd)(ss:List Sd)(h:Sd):oR h0 ss h≤ss.length:=List.length_filter_le _ _
theorem X6{h0 h f:Sd}{ss:List Sd}(hp:∀ s∈ss,0<s.2.2.1)(e:A1 h ss=some f)(h1:h=h0∨0<veZ h0 h)(h2:0<veZ h0 f):oR h0 ss f<oR h0 ss h:=by
 obtain⟨m,v,_⟩:=E4 hp e
 unfold oR
 refine jR (x:=f) (fun s _ hq=>?_) m (by rw[decide_eq_true v,decide_eq_true h2];rfl) ?_
 ·rw[IW,decide_eq_true_eq,decide_eq_true_eq]at hq ⊢
  refine⟨?_,hq.2⟩
  rcases h1 with rfl|h1
  ·exact hq.2
  ·have i:=EJ h0 h f s
   have a1:=KR h1 hq.1
   have a2:=KR hq.2 v
   exact jy h2 (by omega)
 ·have:veZ f f=0:=by unfold veZ;grind
  rw[this];rfl
theorem vN{h0:Sd}{ss:List Sd}(hp:∀ s∈ss,0<s.2.2.1)(sy:∀ s∈ss,j0 s∈ss)(m0:h0∈ss){z0:Rat × Rat}(s0:Sup (ss.map tri) z0)(t0:dt (tri h0) z0=(tri h0).2.2):∀(k:Nat) (a:Sd) (z:Rat × Rat),a∈ss→Sup (ss.map tri) z→dt (tri a) z=(tri a).2.2 →
  (a=h0∨0<veZ h0 a)→(a=h0→∃ f,A1 h0 ss=some f)→(∀ f,A1 a ss=some f→0<veZ h0 f→oR h0 ss f<k) →
  ∀ ab∈(a :: C1 h0 ss k (A1 a ss)).zip (C1 h0 ss k (A1 a ss)++[j0 h0]),ab.1∈ss∧ab.2∈ss∧0<veZ ab.1 ab.2∧Sup (ss.map tri) (ry (tri ab.1) (tri ab.2)):=by
 have syT:∀ s∈ss.map tri,ng s∈ss.map tri:=fun s hs=>by
  obtain⟨t,ht,rfl⟩:=Hm.mp hs
  rw[← u5];exact Hm.mpr ⟨_,sy t ht,rfl⟩
 intro k
 induction k with
 | zero =>
  intro a z ha hz ta h1 h2 h3 ab hab
  cases e:A1 a ss with
  | none =>
   exfalso
   rcases h1 with rfl|h1
   ·obtain⟨f,hf⟩:=h2 rfl;rw[e]at hf;cases hf
   ·have:=(W9 (h:=a) hp).no e (j0 h0) (sy h0 m0)
    exact this (by rw[show veZ a (j0 h0)=veZ h0 a by unfold veZ j0;grind];exact h1)
  | some f =>
   obtain⟨mf,vf,ef⟩:=E4 hp e
   by_cases c:0<veZ h0 f
   ·exact absurd (h3 f e c) (IQ _)
   ·rw[e]at hab
    have hab:ab∈[(a,j0 h0)]:=hab
    rw[HP.mp hab]
    have hv:0<veZ h0 a:=by
     rcases h1 with rfl|h1
     ·exact absurd vf c
     ·exact h1
    have ev:veZ a (j0 h0)=veZ h0 a:=by unfold veZ j0;grind
    refine⟨ha,sy h0 m0,by show 0<veZ a (j0 h0);rw[ev];exact hv,?_⟩
    show Sup _ (ry (tri a) (tri (j0 h0)))
    rw[u5]
    exact yN syT (Hm.mpr ⟨h0,m0,rfl⟩) (Hm.mpr ⟨a,ha,rfl⟩) s0 t0 hz ta ef (by rw[t7];exact t4.mpr hv) (by rw[t7];have:=t4 (n:=veZ h0 f);grind)
 | succ k ih =>
  intro a z ha hz ta h1 h2 h3 ab hab
  cases e:A1 a ss with
  | none =>
   exfalso
   rcases h1 with rfl|h1
   ·obtain⟨f,hf⟩:=h2 rfl;rw[e]at hf;cases hf
   ·have:=(W9 (h:=a) hp).no e (j0 h0) (sy h0 m0)
    exact this (by rw[show veZ a (j0 h0)=veZ h0 a by unfold veZ j0;grind];exact h1)
  | some f =>
   obtain⟨mf,vf,ef⟩:=E4 hp e
   rw[e]at hab
   by_cases c:0<veZ h0 f
   ·have er:C1 h0 ss (k+1) (some f)=f :: C1 h0 ss k (A1 f ss):=if_pos c
    rw[er]at hab
    have sf:=iH hz ta ef
    rcases Hr.mp hab with rfl|hab
    ·exact⟨ha,mf,vf,sf⟩
    ·refine ih f (ry (tri a) (tri f)) mf sf (fM (A2 ef.ve)) (.inr c) (fun z=>?_) (fun g hg hc=>?_) ab hab
     ·subst z
      have:veZ f f=0:=by unfold veZ;grind
      omega
     ·have:=X6 hp hg (.inr c) hc
      have:=h3 f e c
      omega
   ·have er:C1 h0 ss (k+1) (some f)=[]:=if_neg c
    rw[er]at hab
    have hab:ab∈[(a,j0 h0)]:=hab
    rw[HP.mp hab]
    have hv:0<veZ h0 a:=by
     rcases h1 with rfl|h1
     ·exact absurd vf c
     ·exact h1
    have ev:veZ a (j0 h0)=veZ h0 a:=by unfold veZ j0;grind
    refine⟨ha,sy h0 m0,by show 0<veZ a (j0 h0);rw[ev];exact hv,?_⟩
    show Sup _ (ry (tri a) (tri (j0 h0)))
    rw[u5]
    exact yN syT (Hm.mpr ⟨h0,m0,rfl⟩) (Hm.mpr ⟨a,ha,rfl⟩) s0 t0 hz ta ef (by rw[t7];exact t4.mpr hv) (by rw[t7];have:=t4 (n:=veZ h0 f);grind)
noncomputable def D7(c d:Nat):Nat:=c / Ii c d*d
theorem aQ(c d:Nat):D7 c d=LO c d:=by
 unfold D7 LO
 rw[Jr,← Nat.mul_div_assoc _ (Nat.gcd_dvd_left c d),Jr]
noncomputable def cbL(l:T3):Nat:=D7 (D7 (D7 1 l.1.den) l.2.1.den) l.2.2.den
theorem gD(l:T3):cbL l=LO (LO l.1.den l.2.1.den) l.2.2.den:=by
 unfold cbL
 rw[aQ,aQ,aQ,Nat.lcm_one_left]
theorem xg(l:T3):0<cbL l:=by
 rw[gD]
 exact LD (LD l.1.den_pos l.2.1.den_pos) l.2.2.den_pos
theorem Eh(l:T3):l.1.den ∣ cbL l:=by rw[gD];exact Nat.dvd_trans (Kk _ _) (Kk _ _)
theorem Eg(l:T3):l.2.1.den ∣ cbL l:=by rw[gD];exact Nat.dvd_trans (Lj _ _) (Kk _ _)
theorem Ef(l:T3):l.2.2.den ∣ cbL l:=by rw[gD];exact Lj _ _
noncomputable def iE(q:Rat)(c:Nat):Int:=q.num*((c / q.den:Nat):Int)
theorem eS{q:Rat}{c:Nat}(h:q.den ∣ c):(iE q c:Rat)=q*(c:Rat):=by
 obtain⟨k,rfl⟩:=h
 unfold iE
 rw[Nat.mul_div_cancel_left _ q.den_pos,HU,← wu q,Rat.natCast_mul,Jb]
 grind
noncomputable def h7(l:T3)(i:Nat):Sd:=(iE l.1 (cbL l),iE l.2.1 (cbL l),iE l.2.2 (cbL l),(i:Int),(cbL l:Int))
noncomputable def E6:Nat→List T3→List Sd
 | _,[]=>[]
 | i,l :: r=>h7 l i :: j0 (h7 l i) :: E6 (i+1) r
noncomputable abbrev f7(ls:List T3):List Sd:=E6 0 ls
theorem w6(l:T3)(i:Nat):tri (h7 l i)=(l.1*(cbL l:Rat),l.2.1*(cbL l:Rat),l.2.2*(cbL l:Rat)):=by
 unfold tri h7
 rw[eS (Eh l),eS (Eg l),eS (Ef l)]
theorem wY(s:Sd):j0 (j0 s)=s:=by
 obtain⟨a,b,c,d,e⟩:=s
 unfold j0
 show(- -a,- -b,c,d,- -e)=_
 rw[LF,LF,LF]
theorem C5{s:Sd}:∀{ls:List T3} {i:Nat},s∈E6 i ls→∃ l∈ls,∃ j,s=h7 l j∨s=j0 (h7 l j)
 | [],_,h=>nomatch h
 | l :: r,i,h=>by
  rcases Hr.mp h with h|h
  ·exact⟨l,Hq,i,.inl h⟩
  ·rcases Hr.mp h with h|h
   ·exact⟨l,Hq,i,.inr h⟩
   ·obtain⟨l',h1,j,h2⟩:=C5 h
    exact⟨l',Hl _ h1,j,h2⟩
theorem aF{l:T3}:∀{ls:List T3} {i:Nat},l∈ls→∃ j,h7 l j∈E6 i ls∧j0 (h7 l j)∈E6 i ls
 | [],_,h=>nomatch h
 | m :: r,i,h=>by
  rcases Hr.mp h with rfl|h
  ·exact⟨i,Hq,Hl _ Hq⟩
  ·obtain⟨j,h1,h2⟩:=aF (i:=i+1) h
   exact⟨j,Hl _ (Hl _ h1),Hl _ (Hl _ h2)⟩
theorem kr:∀{ls:List T3} {i:Nat},∀ s∈E6 i ls,j0 s∈E6 i ls
 | [],_,_,h=>nomatch h
 | l :: r,i,s,h=>by
  rcases Hr.mp h with rfl|h
  ·exact Hl _ Hq
  ·rcases Hr.mp h with rfl|h
   ·rw[wY];exact Hq
   ·exact Hl _ (Hl _ (kr s h))
structure LineOk(l:T3):Prop where
 ne:¬ (l.1=0∧l.2.1=0)
 pos:0<l.2.2
theorem B6(l:T3):(0:Rat)<(cbL l:Rat):=by
 exact Rat.natCast_pos.mpr (xg l)
theorem eX{ls:List T3}(h:∀ l∈ls,LineOk l){i:Nat}:∀ s∈E6 i ls,0<s.2.2.1:=fun s hs=>by
 obtain⟨l,hl,j,e⟩:=C5 hs
 have hr:s.2.2.1=(h7 l j).2.2.1:=by rcases e with rfl|rfl<;>rfl
 rw[hr]
 have e2:((h7 l j).2.2.1:Rat)=l.2.2*(cbL l:Rat):=congrArg (fun t:T3=>t.2.2) (w6 l j)
 refine t4.mp ?_
 rw[e2]
 exact Ij (h l hl).pos (B6 l)
theorem D2(l:T3)(y u:Rat):ay l y u=true↔l.1*y+l.2.1*u≤l.2.2∧-(l.1*y+l.2.1*u)≤l.2.2:=by
 unfold ay C3
 rw[decide_eq_true_iff]
 split<;>grind
theorem X1{c x r:Rat}(hc:0<c):x*c≤r*c↔x≤r:=by
 constructor
 ·intro h
  have:0≤c*(r - x):=by grind
  have:=B1 hc this
  grind
 ·intro h
  have:0≤(r - x)*c:=Ht (by grind) (D6 hc)
  grind
theorem gy(l:T3)(j:Nat)(z:Rat × Rat):dt (tri (h7 l j)) z=(l.1*z.1+l.2.1*z.2)*(cbL l:Rat):=by
 rw[w6];unfold dt;grind
theorem tu(s:Sd)(z:Rat × Rat):dt (tri (j0 s)) z = -dt (tri s) z:=by rw[u5];unfold dt ng;grind
theorem C4(ls:List T3)(z:Rat × Rat):Sup ((f7 ls).map tri) z↔m9 ls z.1 z.2=true:=by
 unfold m9
 rw[Iz]
 constructor
 ·intro h l hl
  obtain⟨j,h1,h2⟩:=aF (i:=0) hl
  have a1:=h _ (Hm.mpr ⟨_,h1,rfl⟩)
  have a2:=h _ (Hm.mpr ⟨_,h2,rfl⟩)
  rw[tu]at a2
  have e:(tri (j0 (h7 l j))).2.2=(tri (h7 l j)).2.2:=rfl
  rw[e]at a2
  rw[gy,w6]at a1 a2
  rw[D2]
  refine⟨(X1 (B6 l)).mp a1,(X1 (B6 l)).mp ?_⟩
  rw[Rat.neg_mul];exact a2
 ·intro h s hs
  obtain⟨t,ht,rfl⟩:=Hm.mp hs
  obtain⟨l,hl,j,e⟩:=C5 ht
  obtain⟨b1,b2⟩:=(D2 l z.1 z.2).mp (h l hl)
  rcases e with rfl|rfl
  ·rw[gy,w6];exact(X1 (B6 l)).mpr b1
  ·rw[tu]
   show -dt (tri (h7 l j)) z≤(tri (h7 l j)).2.2
   rw[gy,w6,← Rat.neg_mul]
   exact(X1 (B6 l)).mpr b2
theorem J7{ls:List T3}(hok:∀ l∈ls,LineOk l)(hne:ls≠[]):∃ h0 l,N2 (f7 ls)=h0 :: l∧h0∈f7 ls ∧
  ((l=[]∧∀ s∈f7 ls,veZ h0 s=0)∨(l≠[]∧Rim ((f7 ls).map tri) (tri h0) (l.map tri)∧∀ ab∈(h0 :: l).zip (l++[j0 h0]),ab.1∈f7 ls∧ab.2∈f7 ls∧0<veZ ab.1 ab.2)):=by
 have hp:∀ s∈f7 ls,0<s.2.2.1:=eX hok (i:=0)
 have sy:∀ s∈f7 ls,j0 s∈f7 ls:=kr (ls:=ls) (i:=0)
 have nn:f7 ls≠[]:=by
  cases ls with
  | nil=>exact absurd rfl hne
  | cons a b=>exact fun z=>nomatch z
 generalize f7 ls=ss at *
 obtain⟨s1,r,rfl⟩:∃ s1 r,ss=s1 :: r:=by
  cases ss with
  | nil=>exact absurd rfl nn
  | cons a b=>exact⟨_,_,rfl⟩
 refine⟨v6 (s1 :: r) s1,_,rfl,?_⟩
 have m0:v6 (s1 :: r) s1∈s1 :: r:=by
  rcases W8 (s1 :: r) s1 with h|h
  ·rw[h];exact Hq
  ·exact h
 have le:=fun t ht=>ni (s1 :: r) s1 t hp (hp s1 Hq) (hp t ht) (.inl ht)
 generalize v6 (s1 :: r) s1=h0 at *
 generalize s1 :: r=ss at *
 refine⟨m0,?_⟩
 cases e:A1 h0 ss with
 | none =>
  left
  have no:=(W9 (h:=h0) hp).no e
  refine⟨by cases ss.length<;>rfl,fun s hs=>?_⟩
  have a1:=no s hs
  have a2:=no _ (sy s hs)
  have:veZ h0 (j0 s) = -veZ h0 s:=by unfold veZ j0;grind
  omega
 | some f =>
  right
  obtain⟨mf,vf,ef⟩:=E4 hp e
  have hl:ss.length≠0:=fun z=>by rw[List.eq_nil_of_length_eq_zero z]at m0;cases m0
  have r0:=hp h0 m0
  have p0:0<h0.1:=by
   rcases Ku 0 h0.1 with z|z
   ·exact z
   ·exfalso
    have lB:∀ s∈ss,s.1=0:=fun s hs=>by
     have q1:=le s hs
     have q2:=le _ (sy s hs)
     have rs:=hp s hs
     have q2:-s.1*h0.2.2.1≤h0.1*s.2.2.1:=q2
     have q3:0 ≤ -h0.1*s.2.2.1:=IU (by omega) (by omega)
     rw[Int.neg_mul]at q2 q3
     have q4:s.1*h0.2.2.1=0:=by omega
     exact(JN.mp q4).resolve_right (by omega)
    have:veZ h0 f=0:=by
     unfold veZ;rw[lB h0 m0,lB f mf,Lp,Int.mul_zero];rfl
    omega
  have p0R:(0:Rat)<(h0.1:Rat):=t4.mpr p0
  have s0:Sup (ss.map tri) ((h0.2.2.1:Rat) / (h0.1:Rat),0):=fun s hs=>by
   obtain⟨t,ht,rfl⟩:=Hm.mp hs
   have q:=le t ht
   have q':((t.1*h0.2.2.1:Int):Rat)≤((h0.1*t.2.2.1:Int):Rat):=Ko.mpr q
   rw[HU,HU]at q'
   unfold dt tri
   show(t.1:Rat)*((h0.2.2.1:Rat) / (h0.1:Rat))+(t.2.1:Rat)*0≤(t.2.2.1:Rat)
   have e1:(h0.1:Rat)*((h0.2.2.1:Rat) / (h0.1:Rat))=(h0.2.2.1:Rat):=by rw[IP,HZ (A2 p0R)]
   have:0≤(h0.1:Rat)*((t.2.2.1:Rat) - (t.1:Rat)*((h0.2.2.1:Rat) / (h0.1:Rat))):=by
    generalize (h0.2.2.1:Rat) / (h0.1:Rat)=w at *
    generalize (h0.1:Rat)=A at *
    generalize (h0.2.2.1:Rat)=B at *
    generalize (t.1:Rat)=C at *
    generalize (t.2.2.1:Rat)=E at *
    subst e1
    clear le hp sy
    grind
   have:=B1 p0R this
   rw[Kv,Kw]
   generalize (t.1:Rat)*((h0.2.2.1:Rat) / (h0.1:Rat))=w at *
   generalize (t.2.2.1:Rat)=E at *
   clear le hp sy
   grind
  have t0:dt (tri h0) ((h0.2.2.1:Rat) / (h0.1:Rat),0)=(tri h0).2.2:=by
   unfold dt tri
   show(h0.1:Rat)*((h0.2.2.1:Rat) / (h0.1:Rat))+(h0.2.1:Rat)*0=(h0.2.2.1:Rat)
   rw[IP,HZ (A2 p0R),Kv,Kw]
  have all:=vN hp sy m0 s0 t0 ss.length h0 _ m0 s0 t0 (.inl rfl) (fun _=>⟨f,e⟩) (fun g hg hv=>Ho (X6 hp hg (.inl rfl) hv) (tR h0 ss h0))
  rw[e]at all
  refine⟨?_,⟨?_,fun s hs=>?_,fun s hs=>?_,fun ab hab=>?_⟩,fun ab hab=>?_⟩
  ·obtain⟨k,hk⟩:∃ k,ss.length=k+1:=⟨ss.length - 1,by omega⟩
   rw[hk]
   show(if 0<veZ h0 f then _ else _)≠[]
   rw[if_pos vf];exact fun z=>nomatch z
  ·obtain⟨k,hk⟩:∃ k,ss.length=k+1:=⟨ss.length - 1,by omega⟩
   rw[hk]
   show(if 0<veZ h0 f then _ else _:List Sd).map tri≠[]
   rw[if_pos vf];exact fun z=>nomatch z
  ·obtain⟨t,ht,rfl⟩:=Hm.mp hs
   rw[← u5];exact Hm.mpr ⟨_,sy t ht,rfl⟩
  ·obtain⟨t,ht,rfl⟩:=Hm.mp hs
   exact t4.mpr (hp t ht)
  ·have em:ab∈((h0 :: C1 h0 ss ss.length (some f)).map tri).zip ((C1 h0 ss ss.length (some f)++[j0 h0]).map tri):=by
    rw[Hw,HL,HL,IA,u5];exact hab
   rw[E5]at em
   obtain⟨cd,hcd,rfl⟩:=Hm.mp em
   obtain⟨q1,q2,q3,q4⟩:=all cd hcd
   exact⟨Hm.mpr ⟨_,q1,rfl⟩,Hm.mpr ⟨_,q2,rfl⟩,by show 0<ve (tri cd.1) (tri cd.2);rw[t7];exact t4.mpr q3,q4⟩
  ·obtain⟨q1,q2,q3,q4⟩:=all ab hab
   exact⟨q1,q2,q3⟩
noncomputable def B3(a b:Rat × Rat):Bool:=if a.1=b.1 then decide (a.2<b.2)else decide (a.1<b.1)
noncomputable def C9(rs:List (Rat × Rat)):Nat→Nat
 | 0=>0
 | i+1=>if B3 (rs.getD i (0,0)) (rs.getD (C9 rs i) (0,0))=true then i else C9 rs i
noncomputable def Y6(rs:List (Rat × Rat)):List (Rat × Rat):=rs.drop (C9 rs rs.length)++rs.take (C9 rs rs.length)
noncomputable def v9(h0:Sd)(l:List Sd):List (Rat × Rat):=((h0 :: l).zip (l++[j0 h0])).map fun ab=>ry (tri ab.1) (tri ab.2)
noncomputable def F0(ls:List T3):Option (List (Rat × Rat)):=match N2 (f7 ls)with
 | []=>none
 | [_]=>none
 | h0 :: x :: l=>some (Y6 (v9 h0 (x :: l)++(v9 h0 (x :: l)).map ngZ))
theorem W5{rs:List (Rat × Rat)}{z:Rat × Rat}:z∈Y6 rs↔z∈rs:=by
 unfold Y6
 rw[HH,Or.comm,← HH,Kx]
theorem rz(h0:Sd)(l:List Sd):v9 h0 l++(v9 h0 l).map ngZ=aB (tri h0) (l.map tri):=by
 unfold v9 aB gx
 have e:(tri h0 :: l.map tri).zip (l.map tri++[ng (tri h0)])=((h0 :: l).zip (l++[j0 h0])).map fun ab=>(tri ab.1,tri ab.2):=by
  rw[← E5,HL,Hw,HL,IA,u5]
 rw[e,IF,IF,IF]
 rfl
def Q7(ls:List T3):Prop:=∀ a∈ls,∀ b∈ls,a.1*b.2.1=b.1*a.2.1
theorem iA(a b:T3)(i j:Nat):ve (tri (h7 a i)) (tri (h7 b j))=(a.1*b.2.1 - b.1*a.2.1)*((cbL a:Rat)*(cbL b:Rat)):=by
 rw[w6,w6];unfold ve;grind
theorem tQ{ls:List T3}(hok:∀ l∈ls,LineOk l) :
  (F0 ls=none∧Q7 ls) ∨ ∃ cs,F0 ls=some cs∧¬ Q7 ls∧(∃ h0 l,Rim ((f7 ls).map tri) h0 l∧∀ z,z∈cs↔z∈aB h0 l):=by
 by_cases hne:ls=[]
 ·subst hne
  exact .inl ⟨rfl,fun a ha=>nomatch ha⟩
 obtain⟨h0,l,e,m0,h⟩:=J7 hok hne
 rcases h with⟨rfl,h⟩|⟨hl,R,h⟩
 ·left
  refine⟨by unfold F0;rw[e],fun a ha b hb=>?_⟩
  obtain⟨i,ha,_⟩:=aF (i:=0) ha
  obtain⟨j,hb,_⟩:=aF (i:=0) hb
  have e1:=h _ ha
  have e2:=h _ hb
  obtain⟨c,hc,k,ec⟩:=C5 m0
  have hc0:¬ ((tri h0).1=0∧(tri h0).2.1=0):=fun⟨z1,z2⟩=>by
   have cp:=B6 c
   have:(tri (h7 c k)).1=0∧(tri (h7 c k)).2.1=0:=by
    rcases ec with rfl|rfl
    ·exact⟨z1,z2⟩
    ·rw[u5]at z1 z2
     unfold ng at z1 z2
     exact⟨by grind,by grind⟩
   rw[w6]at this
   have t1:c.1*(cbL c:Rat)=0:=this.1
   have t2:c.2.1*(cbL c:Rat)=0:=this.2
   exact(hok c hc).ne ⟨by grind,by grind⟩
  have f1:ve (tri h0) (tri (h7 a i))=0:=by rw[t7,e1];rfl
  have f2:ve (tri h0) (tri (h7 b j))=0:=by rw[t7,e2];rfl
  have f3:ve (tri (h7 a i)) (tri (h7 b j))=0:=by
   generalize tri (h7 a i)=x at *
   generalize tri (h7 b j)=y at *
   generalize tri h0=w at *
   unfold ve at *
   have i1:w.1*(x.1*y.2.1 - x.2.1*y.1)=0:=by
    have:w.1*(x.1*y.2.1 - x.2.1*y.1)=x.1*(w.1*y.2.1 - w.2.1*y.1) - y.1*(w.1*x.2.1 - w.2.1*x.1):=by grind
    rw[this,f1,f2];grind
   have i2:w.2.1*(x.1*y.2.1 - x.2.1*y.1)=0:=by
    have:w.2.1*(x.1*y.2.1 - x.2.1*y.1)=x.2.1*(w.1*y.2.1 - w.2.1*y.1) - y.2.1*(w.1*x.2.1 - w.2.1*x.1):=by grind
    rw[this,f1,f2];grind
   by_cases c1:w.1=0
   ·have c2:w.2.1≠0:=fun z=>hc0 ⟨c1,z⟩
    grind
   ·grind
  rw[iA]at f3
  have q1:=A2 (Ij (B6 a) (B6 b))
  generalize (cbL a:Rat)*(cbL b:Rat)=k at *
  generalize a.1*b.2.1=u at *
  generalize b.1*a.2.1=v at *
  clear h e m0 hc0 f1 f2 e1 e2 hok
  grind
 ·right
  obtain⟨x,l,rfl⟩:∃ x l',l=x :: l':=by
   cases l with
   | nil=>exact absurd rfl hl
   | cons x l=>exact⟨x,l,rfl⟩
  refine⟨_,by unfold F0;rw[e],fun al=>?_,_,_,R,fun z=>?_⟩
  ·obtain⟨q1,q2,q3⟩:=h (h0,x) Hq
   obtain⟨a,ha,i,ea⟩:=C5 q1
   obtain⟨b,hb,j,eb⟩:=C5 q2
   have hv:=al a ha b hb
   have z0:ve (tri (h7 a i)) (tri (h7 b j))=0:=by rw[iA,hv];grind
   have q3:0<veZ h0 x:=q3
   have q4:(0:Rat)<ve (tri h0) (tri x):=by rw[t7];exact t4.mpr q3
   have ea':tri h0=tri (h7 a i)∨tri h0=ng (tri (h7 a i)):=by
    rcases ea with h|h
    ·have h:h0=_:=h;left;rw[h]
    ·have h:h0=_:=h;right;rw[h,u5]
   have eb':tri x=tri (h7 b j)∨tri x=ng (tri (h7 b j)):=by
    rcases eb with h|h
    ·have h:x=_:=h;left;rw[h]
    ·have h:x=_:=h;right;rw[h,u5]
   have z1:ve (tri h0) (tri x)=0:=by
    rcases ea' with h|h<;>rcases eb' with h'|h'<;>(rw[h,h'];clear q4;generalize tri (h7 a i)=A at *;generalize tri (h7 b j)=B at *;unfold ve at *;first|exact z0|(unfold ng;grind))
   grind
  ·rw[W5,rz]
theorem A0{a b:Sd}:sdD a=sdD b↔a=b:=by
 constructor
 ·intro h
  unfold sdD at h
  injection h with h
  injection h with h1 h
  injection h with h2 h
  injection h with h3 h
  injection h with h4 h
  injection h with h5 h
  injection h1 with h1;injection h2 with h2;injection h3 with h3;injection h4 with h4;injection h5 with h5
  exact Prod.ext h1 (Prod.ext h2 (Prod.ext h3 (Prod.ext h4 h5)))
 ·rintro rfl;rfl
theorem u9{xs ys:List Sd}:xs.map sdD=ys.map sdD↔xs=ys:=Io (fun _ _ h=>A0.mp h)
theorem t9{a b:Rat × Rat}:rD a=rD b↔a=b:=by
 constructor
 ·intro h
  unfold rD T8 at h
  injection h with h
  injection h with h1 h
  injection h with h2 h
  exact Prod.ext (g6.mp h1) (g6.mp h2)
 ·rintro rfl;rfl
theorem p5{xs ys:List (Rat × Rat)}:xs.map rD=ys.map rD↔xs=ys:=Io (fun _ _ h=>t9.mp h)
structure SzS(s:Sd):Prop where
 p:s.1.natAbs<2 ^ 1200
 q:s.2.1.natAbs<2 ^ 1200
 r:s.2.2.1.natAbs<2 ^ 1200
noncomputable def jg:Option Sd→D
 | none=>.non
 | some s=>sdD s
structure LnOk(l:T3):Prop extends LineOk l where
 p:sz l.1≤1300
 q:sz l.2.1≤1300
 r:sz l.2.2≤1300
 s:SzS (h7 l 0)
def ue(ls:List T3):Prop:=ls.length≤12∧∀ l∈ls,LnOk l
local macro_rules|`(tactic| walk_at "inj")=>`(tactic| (rename_i e h;simp only[List.cons.injEq,GM.A0,GM.u9,GM.t9,GM.p5,and_true,true_and,GM.g6,GM.g7,GM.f8,GM.g8,GM.f9,D.tup.injEq,D.ref.injEq,D.int.injEq,D.str.injEq,D.bl.injEq,D.vl.injEq,Hz,and_assoc]at e;(repeat(obtain⟨e1,e⟩:=e;subst e1));subst e;exact h))
local macro_rules|`(tactic| walk_at "injs")=>`(tactic| (rename_i e o h;rcases o with o|o<;>(subst o;first|(exfalso;simp only[D.tup.injEq,List.cons.injEq,reduceCtorEq,false_and,and_false]at e;done)|(simp only[List.cons.injEq,GM.A0,GM.u9,GM.t9,GM.p5,and_true,true_and,GM.g6,GM.g7,GM.f8,GM.g8,GM.f9,D.tup.injEq,D.ref.injEq,D.int.injEq,D.str.injEq,D.bl.injEq,D.vl.injEq,Hz,and_assoc]at e;(repeat(obtain⟨e1,e⟩:=e;subst e1));subst e;exact h))))
abbrev fJ(l:T3)(M:Mem)(R:DK)(Y:DXK):Prop:=LnOk l∧R (.int ((cbL l:Nat):Int)) M
def zQ:DSp:=fun ds M R Y=>∃(l:T3),ds=[h8 l]∧fJ l M R Y
theorem pH{l:T3}{M:Mem}{R:DK}{Y:DXK}:zQ [h8 l] M R Y=(fJ l M R Y):=propext ⟨fun z=>by obtain⟨_,_,_⟩:=z;walk_at "inj",fun h=>⟨l,rfl,h⟩⟩
abbrev V6(l:T3)(c:Int)(M:Mem)(R:DK)(Y:DXK):Prop:=(LnOk l∧c=((cbL l:Nat):Int))∧R (.vl [.int (h7 l 0).1,.int (h7 l 0).2.1,.int (h7 l 0).2.2.1]) M
def kC:DSp:=fun ds M R Y=>∃(l:T3) (c:Int),ds=[h8 l,.int c]∧V6 l c M R Y
theorem gW{l:T3}{c:Int}{M:Mem}{R:DK}{Y:DXK}:kC [h8 l,.int c] M R Y=(V6 l c M R Y):=propext ⟨fun z=>by obtain⟨_,_,_,_⟩:=z;walk_at "inj",fun h=>⟨l,c,rfl,h⟩⟩
abbrev P1(ls:List T3)(M:Mem)(R:DK)(Y:DXK):Prop:=ue ls∧R (.vl ((f7 ls).map sdD)) M
def fq:DSp:=fun ds M R Y=>∃(x0:D) (ls:List T3),ds=[x0]∧(x0 = .vl (ls.map h8)∨x0 = .tup (ls.map h8))∧P1 ls M R Y
theorem gX{ls:List T3}{M:Mem}{R:DK}{Y:DXK}:fq [.vl (ls.map h8)] M R Y=(P1 ls M R Y):=propext ⟨fun z=>by obtain⟨_,_,_,_,_⟩:=z;walk_at "injs",fun h=>⟨_,ls,rfl,.inl rfl,h⟩⟩
theorem aY{ls:List T3}{M:Mem}{R:DK}{Y:DXK}:fq [.tup (ls.map h8)] M R Y=(P1 ls M R Y):=propext ⟨fun z=>by obtain⟨_,_,_,_,_⟩:=z;walk_at "injs",fun h=>⟨_,ls,rfl,.inr rfl,h⟩⟩
abbrev fE(a:Sd)(M:Mem)(R:DK)(Y:DXK):Prop:=R (sdD (j0 a)) M
def vJ:DSp:=fun ds M R Y=>∃(a:Sd),ds=[sdD a]∧fE a M R Y
theorem pF{a:Sd}{M:Mem}{R:DK}{Y:DXK}:vJ [sdD a] M R Y=(fE a M R Y):=propext ⟨fun z=>by obtain⟨_,_,_⟩:=z;walk_at "inj",fun h=>⟨a,rfl,h⟩⟩
abbrev aH(a b:Sd)(M:Mem)(R:DK)(Y:DXK):Prop:=(SzS a∧SzS b)∧R (.int (veZ a b)) M
def dX:DSp:=fun ds M R Y=>∃(a b:Sd),ds=[sdD a,sdD b]∧aH a b M R Y
theorem lN{a b:Sd}{M:Mem}{R:DK}{Y:DXK}:dX [sdD a,sdD b] M R Y=(aH a b M R Y):=propext ⟨fun z=>by obtain⟨_,_,_,_⟩:=z;walk_at "inj",fun h=>⟨a,b,rfl,h⟩⟩
abbrev aI(a b c:Sd)(M:Mem)(R:DK)(Y:DXK):Prop:=(SzS a∧SzS b∧SzS c)∧R (.int (tnZ a b c)) M
def qY:DSp:=fun ds M R Y=>∃(a b c:Sd),ds=[sdD a,sdD b,sdD c]∧aI a b c M R Y
theorem lO{a b c:Sd}{M:Mem}{R:DK}{Y:DXK}:qY [sdD a,sdD b,sdD c] M R Y=(aI a b c M R Y):=propext ⟨fun z=>by obtain⟨_,_,_,_,_⟩:=z;walk_at "inj",fun h=>⟨a,b,c,rfl,h⟩⟩
abbrev aM(a b:Sd)(M:Mem)(R:DK)(Y:DXK):Prop:=(SzS a∧SzS b)∧R (.bl (B4 a b)) M
def rj:DSp:=fun ds M R Y=>∃(a b:Sd),ds=[sdD a,sdD b]∧aM a b M R Y
theorem lS{a b:Sd}{M:Mem}{R:DK}{Y:DXK}:rj [sdD a,sdD b] M R Y=(aM a b M R Y):=propext ⟨fun z=>by obtain⟨_,_,_,_⟩:=z;walk_at "inj",fun h=>⟨a,b,rfl,h⟩⟩
abbrev aJ(ss:List Sd)(M:Mem)(R:DK)(Y:DXK):Prop:=(∃ s r,ss=s :: r)∧(∀ s∈ss,SzS s)∧R (sdD (v6 ss (ss.headD (0,0,0,0,0)))) M
def qZ:DSp:=fun ds M R Y=>∃(ss:List Sd),ds=[.vl (ss.map sdD)]∧aJ ss M R Y
theorem lP{ss:List Sd}{M:Mem}{R:DK}{Y:DXK}:qZ [.vl (ss.map sdD)] M R Y=(aJ ss M R Y):=propext ⟨fun z=>by obtain⟨_,_,_⟩:=z;walk_at "inj",fun h=>⟨ss,rfl,h⟩⟩
abbrev ft(ss:List Sd)(g:Sd)(M:Mem)(R:DK)(Y:DXK):Prop:=(SzS g∧∀ s∈ss,SzS s)∧R (jg (A1 g ss)) M
def zL:DSp:=fun ds M R Y=>∃(ss:List Sd) (g:Sd),ds=[.vl (ss.map sdD),sdD g]∧ft ss g M R Y
theorem pC{ss:List Sd}{g:Sd}{M:Mem}{R:DK}{Y:DXK}:zL [.vl (ss.map sdD),sdD g] M R Y=(ft ss g M R Y):=propext ⟨fun z=>by obtain⟨_,_,_,_⟩:=z;walk_at "inj",fun h=>⟨ss,g,rfl,h⟩⟩
abbrev W2(ls:List T3)(M:Mem)(R:DK)(Y:DXK):Prop:=ue ls∧R (.vl ((N2 (f7 ls)).map sdD)) M
def mT:DSp:=fun ds M R Y=>∃(x0:D) (ls:List T3),ds=[x0]∧(x0 = .vl (ls.map h8)∨x0 = .tup (ls.map h8))∧W2 ls M R Y
theorem lT{ls:List T3}{M:Mem}{R:DK}{Y:DXK}:mT [.vl (ls.map h8)] M R Y=(W2 ls M R Y):=propext ⟨fun z=>by obtain⟨_,_,_,_,_⟩:=z;walk_at "injs",fun h=>⟨_,ls,rfl,.inl rfl,h⟩⟩
theorem dq{ls:List T3}{M:Mem}{R:DK}{Y:DXK}:mT [.tup (ls.map h8)] M R Y=(W2 ls M R Y):=propext ⟨fun z=>by obtain⟨_,_,_,_,_⟩:=z;walk_at "injs",fun h=>⟨_,ls,rfl,.inr rfl,h⟩⟩
abbrev fw(a b:Sd)(M:Mem)(R:DK)(Y:DXK):Prop:=(SzS a∧SzS b∧veZ a b≠0)∧R (rD (ry (tri a) (tri b))) M
def zM:DSp:=fun ds M R Y=>∃(a b:Sd),ds=[sdD a,sdD b]∧fw a b M R Y
theorem pD{a b:Sd}{M:Mem}{R:DK}{Y:DXK}:zM [sdD a,sdD b] M R Y=(fw a b M R Y):=propext ⟨fun z=>by obtain⟨_,_,_,_⟩:=z;walk_at "inj",fun h=>⟨a,b,rfl,h⟩⟩
def xr(z:Rat × Rat):Prop:=sz z.1≤2402∧sz z.2≤2402
abbrev V9(a b:Rat × Rat)(M:Mem)(R:DK)(Y:DXK):Prop:=(xr a∧xr b)∧R (.bl (B3 a b)) M
def kG:DSp:=fun ds M R Y=>∃(a b:Rat × Rat),ds=[rD a,rD b]∧V9 a b M R Y
theorem hG{a b:Rat × Rat}{M:Mem}{R:DK}{Y:DXK}:kG [rD a,rD b] M R Y=(V9 a b M R Y):=propext ⟨fun z=>by obtain⟨_,_,_,_⟩:=z;walk_at "inj",fun h=>⟨a,b,rfl,h⟩⟩
theorem pz{a:Sd}{M:Mem}{R:DK}:gIx (sdD a) (.int 0) M R=R (.int a.1) M:=N5
theorem pw{a:Sd}{M:Mem}{R:DK}:gIx (sdD a) (.int 1) M R=R (.int a.2.1) M:=N4
theorem pv{a:Sd}{M:Mem}{R:DK}:gIx (sdD a) (.int 2) M R=R (.int a.2.2.1) M:=eO
theorem pB{a:Rat × Rat}{M:Mem}{R:DK}:gIx (rD a) (.int 0) M R=R (e9 a.1) M:=N5
theorem pA{a:Rat × Rat}{M:Mem}{R:DK}:gIx (rD a) (.int 1) M R=R (e9 a.2) M:=N4
theorem SzS.ve{a b:Sd}(ha:SzS a)(hb:SzS b):(veZ a b).natAbs<2 ^ 2401:=by
 have h1:=L6 ha.p hb.q
 have h2:=L6 ha.q hb.p
 unfold veZ
 have:=Lk (a.1*b.2.1) (a.2.1*b.1)
 rw[show 2401=1200+1200+1 from rfl,JR]
 omega
theorem L1(c d:Nat):D7 c d≤c*d:=by
 unfold D7
 exact Ie _ (JH _ _)
theorem gC:∀(xs:List Rat) (c m:Nat),(∀ x∈xs,sz x≤1300)→c<2 ^ m→xs.foldl (fun c q=>D7 c q.den) c<2 ^ (m+1300*xs.length)
 | [],c,m,_,h=>by simpa using h
 | x :: xs,c,m,hx,h=>by
  have h1:D7 c x.den<2 ^ (m+1300):=HV (L1 c x.den) (bX h (C8 x (hx x Hq)))
  have:=gC xs _ _ (fun y hy=>hx y (Hl _ hy)) h1
  rw[List.foldl_cons,Hs]
  rwa [show m+1300*(xs.length+1)=m+1300+1300*xs.length by omega]
theorem LnOk.all{l:T3}(h:LnOk l):∀ x∈[l.1,l.2.1,l.2.2],sz x≤1300:=fun x hx=>by
 simp only[Hr,HM,or_false]at hx
 rcases hx with rfl|rfl|rfl
 ·exact h.p
 ·exact h.q
 ·exact h.r
theorem LnOk.cb{l:T3}(h:LnOk l):cbL l<2 ^ 3901:=gC [l.1,l.2.1,l.2.2] 1 1 h.all (by decide)
theorem Y1{ls:List T3}(h:ue ls){i:Nat}:∀ s∈E6 i ls,SzS s:=fun s hs=>by
 obtain⟨l,hl,j,e⟩:=C5 hs
 obtain⟨a,b,c⟩:=(h.2 l hl).s
 rcases e with rfl|rfl
 ·exact⟨a,b,c⟩
 ·exact⟨by show(-(h7 l j).1).natAbs<_;rw[IC];exact a,by show(-(h7 l j).2.1).natAbs<_;rw[IC];exact b,c⟩
theorem iJ:∀(ls:List T3) (i j:Nat) (l:T3),ls[j]? = some l→E6 i (ls.take (j+1))=E6 i (ls.take j)++[h7 l (i+j),j0 (h7 l (i+j))]
 | [],_,_,_,h=>nomatch h
 | a :: r,i,0,l,h=>by
  obtain rfl:=Option.some.inj h
  rfl
 | a :: r,i,j+1,l,h=>by
  have:=iJ r (i+1) j l h
  rw[JK,JK]
  show _ :: _ :: E6 (i+1) (r.take (j+1))=_ :: _ :: (E6 (i+1) (r.take j)++_)
  rw[this,show i+1+j=i+(j+1)by omega]
theorem aE:∀(ls:List T3) (i:Nat),(E6 i ls).length=2*ls.length
 | [],_=>rfl
 | a :: r,i=>by
  show(E6 (i+1) r).length+1+1=2*(r.length+1)
  rw[aE r (i+1)];omega
theorem Q1(a b:Int):Iv a b=(a:Rat) / (b:Rat):=Li a b
theorem rn(a b:Sd):(Iv (a.2.2.1*b.2.1 - b.2.2.1*a.2.1) (veZ a b),Iv (a.1*b.2.2.1 - b.1*a.2.2.1) (veZ a b))=ry (tri a) (tri b):=by
 unfold ry
 rw[t7,Q1,Q1,Jg,Jg,HU,HU,HU,HU]
 rfl
theorem yn{n:Nat}{a b:Sd}(ha:a.1.natAbs<2 ^ n∧a.2.1.natAbs<2 ^ n∧a.2.2.1.natAbs<2 ^ n)(hb:b.1.natAbs<2 ^ n∧b.2.1.natAbs<2 ^ n∧b.2.2.1.natAbs<2 ^ n)(hv:veZ a b≠0):sz (ry (tri a) (tri b)).1≤2*n+1∧sz (ry (tri a) (tri b)).2≤2*n+1:=by
 have sub:∀{x y z w:Int},x.natAbs<2 ^ n→y.natAbs<2 ^ n→z.natAbs<2 ^ n→w.natAbs<2 ^ n→(x*y - z*w).natAbs<2 ^ (2*n+1):=fun{x y z w} h1 h2 h3 h4=>by
  have e1:=L6 h1 h2
  have e2:=L6 h3 h4
  have:=Lk (x*y) (z*w)
  rw[show 2*n+1=n+n+1 by omega,JR]
  omega
 rw[← rn]
 have hve:(veZ a b).natAbs<2 ^ (2*n+1):=sub ha.1 hb.2.1 ha.2.1 hb.1
 exact⟨P6 (by omega) (sub ha.2.2 hb.2.1 hb.2.2 ha.2.1) hve hv,P6 (by omega) (sub ha.1 hb.2.2 hb.1 ha.2.2) hve hv⟩
theorem bP{rs:List (Rat × Rat)}(h:rs≠[]):∀ i,i≤rs.length→C9 rs i<rs.length
 | 0,_=>by
  cases rs with
  | nil=>exact absurd rfl h
  | cons a r=>exact Nat.zero_lt_succ _
 | i+1,hi=>by
  unfold C9
  split
  ·omega
  ·exact bP h i (by omega)
theorem jI{ls:List T3}(hok:∀ l∈ls,LineOk l):(N2 (f7 ls)).length≤2*ls.length+1:=by
 have:∀(h0:Sd) (ss:List Sd) (k:Nat) (o:Option Sd),(C1 h0 ss k o).length≤k:=fun h0 ss k=>by
  induction k with
  | zero=>intro o;exact Hy _
  | succ k ih =>
   intro o
   cases o with
   | none=>exact Ic _
   | some h =>
    show(if 0<veZ h0 h then h :: C1 h0 ss k (A1 h ss)else[]).length≤k+1
    split
    ·rw[Hs];have:=ih (A1 h ss);omega
    ·exact Ic _
 have e:=aE ls 0
 unfold f7
 cases es:E6 0 ls with
 | nil=>exact Ic _
 | cons s r =>
  rw[es]at e
  show(C1 _ _ _ _).length+1≤_
  have:=this (v6 (s :: r) s) (s :: r) (s :: r).length (A1 (v6 (s :: r) s) (s :: r))
  omega
theorem nR{ds:List D}{n:Nat}:DL.Z4 ds (some (n:Int)) none=ds.drop n:=by
 unfold DL.Z4 HT.sIx
 have h1:¬ ((n:Int)<0):=by omega
 simp only[h1,if_false]
 rw[show((n:Int)).toNat=n from rfl]
 by_cases h:n≤ds.length
 ·rw[Nat.min_eq_left h,IK (by rw[Ia];exact Hy _)]
 ·rw[Nat.min_eq_right (by omega),Kp (Hy _),Kp (by omega)]
  simp
theorem Bi{x:D}{xs:List D}:DL.Z4 (x :: xs) (some 1) none=xs:=by
 have:=nR (ds:=x :: xs) (n:=1)
 exact this
theorem pe:∀(a b:List Sd),X8 (a.map sdD) (b.map sdD)=(a.zip b).map fun ab=>D.tup [sdD ab.1,sdD ab.2]
 | [],_=>rfl
 | _ :: _,[]=>rfl
 | x :: a,y :: b=>by
  show D.tup [sdD x,sdD y] :: X8 (a.map sdD) (b.map sdD)=_
  rw[pe a b];rfl
theorem iX(h0:Sd)(l:List Sd):(v9 h0 l).length=l.length+1:=by
 unfold v9
 rw[Hk,IS,Hs,HE]
 simp
end GM
namespace GM
open PySem PySem.Spec L2 DL
open RM (sz)
theorem DP{a q:Rat}(h:q≠0):a / q*q=a:=HZ h
theorem Rim.neg{ss:List T3}{h0:T3}{l:List T3}{z:Rat × Rat}(h:z∈aB h0 l):ngZ z∈aB h0 l:=by
 have nn:∀ z:Rat × Rat,ngZ (ngZ z)=z:=fun z=>by
  unfold ngZ;exact Prod.ext (by show - -z.1=z.1;grind) (by show - -z.2=z.2;grind)
 rcases HH.mp h with h|h
 ·obtain⟨ab,hab,rfl⟩:=Hm.mp h
  exact HI _ (Hm.mpr ⟨ab,hab,rfl⟩)
 ·obtain⟨ab,hab,rfl⟩:=Hm.mp h
  rw[nn]
  exact Iq _ (Hm.mpr ⟨ab,hab,rfl⟩)
theorem above{ls:List T3}{h0:T3}{r:List T3}(R:Rim ((f7 ls).map tri) h0 r)(hok:∀ l∈ls,LineOk l):∃ z∈aB h0 r,0<z.1:=by
 have eps:∀(l:List T3),(∀ x∈l,LineOk x)→∃ e:Rat,0<e∧∀ x∈l,ay x e 0=true:=fun l=>by
  induction l with
  | nil=>exact fun _=>⟨1,by decide,fun _ h=>nomatch h⟩
  | cons x l ih =>
   intro h
   obtain⟨e,e0,he⟩:=ih fun y hy=>h y (Hl _ hy)
   have hr:=(h x Hq).pos
   have small:∀{y:T3} {e e':Rat},ay y e 0=true→0≤e'→e'≤e→0<e→ay y e' 0=true:=fun{y e e'} k z1 z2 z3=>by
    rw[D2]at k ⊢
    rw[Kv,Kw]at k ⊢
    obtain⟨k1,k2⟩:=k
    have m1:0≤e'*(y.2.2 - y.1*e):=Ht z1 (by grind)
    have m2:0≤e'*(y.2.2+y.1*e):=Ht z1 (by grind)
    have r0:0≤y.2.2:=by grind
    have m3:0≤y.2.2*(e - e'):=Ht r0 (by grind)
    have u1:0≤e*(y.2.2 - y.1*e'):=by grind
    have u2:=B1 z3 u1
    have u3:0≤e*(y.2.2+y.1*e'):=by grind
    have u4:=B1 z3 u3
    exact⟨by grind,by grind⟩
   by_cases p0:x.1=0
   ·refine⟨e,e0,fun y hy=>?_⟩
    rcases Hr.mp hy with rfl|hy
    ·rw[D2,p0];exact⟨by grind,by grind⟩
    ·exact he y hy
   ·have ap:0<C3 x.1:=xn p0
    have dd:=DP (a:=x.2.2) (A2 ap)
    have t0:0<x.2.2 / C3 x.1:=by
     rcases tot (x.2.2 / C3 x.1) 0 with z|z
     ·have:=Ht (show 0 ≤ -(x.2.2 / C3 x.1)by grind) (D6 ap)
      grind
     ·by_cases z0:x.2.2 / C3 x.1=0
      ·rw[z0]at dd;grind
      ·grind
    have lx:ay x (x.2.2 / C3 x.1) 0=true:=by
     rw[D2,Kv,Kw]
     generalize x.2.2 / C3 x.1=t at *
     unfold C3 at dd
     have x0:0≤x.2.2:=by grind
     split at dd
     ·exact⟨by grind,by grind⟩
     ·exact⟨by grind,by grind⟩
    by_cases c:x.2.2 / C3 x.1≤e
    ·refine⟨_,t0,fun y hy=>?_⟩
     rcases Hr.mp hy with rfl|hy
     ·exact lx
     ·exact small (he y hy) (D6 t0) c e0
    ·refine⟨e,e0,fun y hy=>?_⟩
     rcases Hr.mp hy with rfl|hy
     ·exact small lx (D6 e0) (by grind) t0
     ·exact he y hy
 obtain⟨e,e0,he⟩:=eps ls hok
 obtain⟨c,hc,_,hm⟩:=R.most (1,0,0) (fun z=>by have:=z.1;revert this;decide)
 have:=hm (e,0) ((C4 ls (e,0)).mpr (by unfold m9;rw[Iz];exact he))
 unfold dt at this
 exact⟨c,hc,by grind⟩
def oY(n:Nat)(s:Sd):Prop:=s.1.natAbs<2 ^ n∧s.2.1.natAbs<2 ^ n∧s.2.2.1.natAbs<2 ^ n
theorem tO{ls:List T3}{n:Nat}(hok:∀ l∈ls,LineOk l)(hb:∀ l∈ls,oY n (h7 l 0)){cs:List (Rat × Rat)}(e:F0 ls=some cs):cs.length≤4*ls.length+2∧∀ z∈cs,sz z.1≤2*n+1∧sz z.2≤2*n+1:=by
 have hne:ls≠[]:=fun z=>by rw[z]at e;cases e
 have bs:∀ s∈f7 ls,oY n s:=fun s hs=>by
  obtain⟨l,hl,j,es⟩:=C5 hs
  obtain⟨a,b,c⟩:=hb l hl
  rcases es with rfl|rfl
  ·exact⟨a,b,c⟩
  ·exact⟨by show(-(h7 l j).1).natAbs<_;rw[IC];exact a,by show(-(h7 l j).2.1).natAbs<_;rw[IC];exact b,c⟩
 obtain⟨h0,l,eh,m0,h⟩:=J7 hok hne
 have hlen:=jI hok
 unfold F0 at e
 rw[eh]at e hlen
 cases l with
 | nil=>cases e
 | cons x l =>
  have e:=Option.some.inj e
  rcases h with⟨z,_⟩|⟨_,_,h⟩
  ·cases z
  have rl:=iX h0 (x :: l)
  have hz:∀ z∈v9 h0 (x :: l),sz z.1≤2*n+1∧sz z.2≤2*n+1:=fun z hz=>by
   obtain⟨ab,hab,rfl⟩:=Hm.mp hz
   obtain⟨q1,q2,q3⟩:=h ab hab
   exact yn (bs _ q1) (bs _ q2) (by omega)
  refine⟨?_,fun z hzc=>?_⟩
  ·rw[← e]
   unfold Y6
   rw[HE,Ia,HS,HE,Hk,rl]
   simp only[Hs]at hlen ⊢
   omega
  ·rw[← e,W5]at hzc
   rcases HH.mp hzc with hzc|hzc
   ·exact hz z hzc
   ·obtain⟨y,hy,rfl⟩:=Hm.mp hzc
    obtain⟨y1,y2⟩:=hz y hy
    exact⟨by show sz (-y.1)≤_;rw[RM.F8];exact y1,by show sz (-y.2)≤_;rw[RM.F8];exact y2⟩
theorem E3{xs ys:List Rat}:xs.map e9=ys.map e9↔xs=ys:=Io (fun _ _ h=>g6.mp h)
local macro_rules|`(tactic| walk_at "inj")=>`(tactic| (rename_i e h;simp only[List.cons.injEq,GM.E3,and_true,true_and,GM.g6,GM.g7,GM.f8,GM.g8,GM.f9,D.tup.injEq,D.ref.injEq,D.int.injEq,D.str.injEq,D.bl.injEq,D.vl.injEq,Hz,and_assoc]at e;(repeat(obtain⟨e1,e⟩:=e;subst e1));subst e;exact h))
local macro_rules|`(tactic| walk_at "injs")=>`(tactic| (rename_i e o h;rcases o with o|o<;>(subst o;first|(exfalso;simp only[D.tup.injEq,List.cons.injEq,reduceCtorEq,false_and,and_false]at e;done)|(simp only[List.cons.injEq,GM.E3,and_true,true_and,GM.g6,GM.g7,GM.f8,GM.g8,GM.f9,D.tup.injEq,D.ref.injEq,D.int.injEq,D.str.injEq,D.bl.injEq,D.vl.injEq,Hz,and_assoc]at e;(repeat(obtain⟨e1,e⟩:=e;subst e1));subst e;exact h))))
theorem oH{a b:Nat × Rat × Rat × Rat}:jB a=jB b↔a=b:=by
 constructor
 ·intro h
  unfold jB at h
  injection h with h
  injection h with h1 h
  injection h with h2 h
  injection h with h3 h
  injection h with h4 h
  injection h1 with h1
  exact Prod.ext (by omega) (Prod.ext (g6.mp h2) (Prod.ext (g6.mp h3) (g6.mp h4)))
 ·rintro rfl;rfl
theorem bZ{xs ys:List (Nat × Rat × Rat × Rat)}:xs.map jB=ys.map jB↔xs=ys:=Io (fun _ _ h=>oH.mp h)
end GM
namespace GM
open PySem PySem.Spec L2 DL
open RM (sz)
local macro_rules|`(tactic| walk_at "inj")=>`(tactic| (rename_i e h;simp only[List.cons.injEq,GM.bZ,and_true,true_and,GM.g6,GM.g7,GM.f8,GM.g8,GM.f9,D.tup.injEq,D.ref.injEq,D.int.injEq,D.str.injEq,D.bl.injEq,D.vl.injEq,Hz,and_assoc]at e;(repeat(obtain⟨e1,e⟩:=e;subst e1));subst e;exact h))
local macro_rules|`(tactic| walk_at "injs")=>`(tactic| (rename_i e o h;rcases o with o|o<;>(subst o;first|(exfalso;simp only[D.tup.injEq,List.cons.injEq,reduceCtorEq,false_and,and_false]at e;done)|(simp only[List.cons.injEq,GM.bZ,and_true,true_and,GM.g6,GM.g7,GM.f8,GM.g8,GM.f9,D.tup.injEq,D.ref.injEq,D.int.injEq,D.str.injEq,D.bl.injEq,D.vl.injEq,Hz,and_assoc]at e;(repeat(obtain⟨e1,e⟩:=e;subst e1));subst e;exact h))))
end GM
namespace L2
open PySem PySem.Spec PyProof.Rows
section
variable {prog:Program} {w:World} {A:Around} {E:Value→Shared→Prop} {s:Shared}
end
section
variable {prog:Program} {w:World} {A:Around} {E:Value→Shared→Prop} {s:Shared}
end
section
variable {prog:Program} {w:World} {A:Around} {E:Value→Shared→Prop} {s:Shared}
variable {R:Result→Shared→Prop} {I:Addr} {fp wr:List Addr} {G:Array GenState→Array GenState→Prop} {n:Nat} {P:Nat→Value→Prop} {St:Nat→Shared→Prop}
end
section
variable {prog:Program} {w:World} {A:Around} {E:Value→Shared→Prop} {s:Shared}
end
end L2
namespace DL
open PySem PySem.Spec L2
open PyProof.Rows hiding St
end DL
namespace GM
open PySem PySem.Spec L2 DL
open RM (sz)
noncomputable abbrev Zr:=Rat × Rat
noncomputable def cr(v w:Zr):Rat:=v.1*w.2 - v.2*w.1
theorem yM(v w:Zr):cr (ngZ v) (ngZ w)=cr v w:=by unfold cr ngZ;grind
theorem eF(v w:Zr):cr v (ngZ w) = -cr v w:=by unfold cr ngZ;grind
theorem yL(v w:Zr):cr (ngZ v) w = -cr v w:=by unfold cr ngZ;grind
theorem jQ(v w:Zr):cr v w = -cr w v:=by unfold cr;grind
theorem gA(v:Zr):cr v v=0:=by unfold cr;grind
theorem aP(v:Zr):ngZ (ngZ v)=v:=by unfold ngZ;show(- -v.1,- -v.2)=v;rw[KP,KP]
theorem Ec{a b c:T3}(h1:ve a b≠0)(h2:ve b c≠0):ve a b*ve b c*cr (ry a b) (ry b c)=b.2.2*tn a b c:=by
 obtain⟨e1,e2⟩:=dZ h1
 obtain⟨e3,e4⟩:=dZ h2
 have:ve a b*ve b c*cr (ry a b) (ry b c)=(ve a b*(ry a b).1)*(ve b c*(ry b c).2) - (ve a b*(ry a b).2)*(ve b c*(ry b c).1):=by unfold cr;grind
 rw[this,e1,e2,e3,e4]
 unfold tn ve
 grind
theorem DO{a b c:T3}(h:T3)(h1:ve a b≠0)(h2:ve b c≠0):ve a b*ve b c*(dt h (ry a b) - dt h (ry b c))=ve h b*tn a b c:=by
 obtain⟨e1,e2⟩:=dZ h1
 obtain⟨e3,e4⟩:=dZ h2
 have:ve a b*ve b c*(dt h (ry a b) - dt h (ry b c))=ve b c*(h.1*(ve a b*(ry a b).1)+h.2.1*(ve a b*(ry a b).2)) - ve a b*(h.1*(ve b c*(ry b c).1)+h.2.1*(ve b c*(ry b c).2)):=by unfold dt;grind
 rw[this,e1,e2,e3,e4]
 unfold tn ve
 grind
theorem tq(s:T3)(v w x:Zr):cr v w*dt s x=cr x w*dt s v+cr v x*dt s w:=by unfold dt cr;grind
theorem mp{a b:Rat}(h1:0<a)(h2:0<b):0<a*b:=Ij h1 h2
theorem K8{v x:Rat}(hv:0<v)(h:0<v*x):0<x:=by
 rcases tot x 0 with z|z
 ·have:0≤v*(-x):=Ht (D6 hv) (by grind)
  grind
 ·by_cases e:x=0
  ·rw[e]at h;grind
  ·grind
structure Cn2(ss:List T3)(x:Zr):Prop where
 sup:Sup ss x
 two:∃ s t,s∈ss∧t∈ss∧ve s t≠0∧dt s x=s.2.2∧dt t x=t.2.2
theorem Cn2.ng{ss:List T3}(sy:∀ s∈ss,ng s∈ss){x:Zr}(h:Cn2 ss x):Cn2 ss (ngZ x):=by
 obtain⟨hs,s,t,ms,mt,hv,es,et⟩:=h
 refine⟨bD sy hs,GM.ng s,GM.ng t,sy s ms,sy t mt,?_,?_,?_⟩
 ·have:ve (GM.ng s) (GM.ng t)=ve s t:=by unfold ve GM.ng;grind
  rw[this];exact hv
 ·have:dt (GM.ng s) (ngZ x)=dt s x:=by unfold dt GM.ng ngZ;grind
  rw[this,es];rfl
 ·have:dt (GM.ng t) (ngZ x)=dt t x:=by unfold dt GM.ng ngZ;grind
  rw[this,et];rfl
theorem CJ{u x y:Rat}(hu:0<u)(h:x*u≤y*u):x≤y:=by
 have:0≤u*(y - x):=by grind
 have:=B1 hu this
 grind
theorem so{ss:List T3}(pos:∀ s∈ss,0<s.2.2){b:T3}{v w:Zr}(hb:b∈ss)(bv:dt b v=b.2.2)(bw:dt b w=b.2.2)(sv:Sup ss v)(sw:Sup ss w)(hc:0<cr v w){x:Zr}(hx:Cn2 ss x)(h1:0<cr v x):x=w∨0<cr w x:=by
 by_cases h2:0<cr w x
 ·exact .inr h2
 left
 obtain⟨sx,s,t,ms,mt,hv,es,et⟩:=hx
 have h3:0≤cr x w:=by rw[jQ];grind
 have hle:cr x w+cr v x≤cr v w:=by
  have e:=tq b v w x
  rw[bv,bw]at e
  have r:=pos b hb
  have q:=sx b hb
  have:cr v w*dt b x≤cr v w*b.2.2:=by
   have:0≤cr v w*(b.2.2 - dt b x):=Ht (D6 hc) (by grind)
   grind
  refine CJ r ?_
  grind
 have key:∀ s∈ss,dt s x=s.2.2→dt s w=s.2.2:=fun s ms es=>by
  have e:=tq s v w x
  rw[es]at e
  have r:=pos s ms
  have q1:=sv s ms
  have q2:=sw s ms
  have p1:0≤cr x w*(s.2.2 - dt s v):=Ht h3 (by grind)
  have p2:0≤cr v x*(s.2.2 - dt s w):=Ht (D6 h1) (by grind)
  have p3:0≤(cr v w - (cr x w+cr v x))*s.2.2:=Ht (by grind) (D6 r)
  have p4:cr v x*(s.2.2 - dt s w)=0:=by grind
  grind
 have e1:=key s ms es
 have e2:=key t mt et
 rw[aO hv es et,aO hv e1 e2]
structure E9(ss:List T3)(A:Nat→T3)(k:Nat):Prop where
 two:2≤k
 sy:∀ s∈ss,ng s∈ss
 pos:∀ s∈ss,0<s.2.2
 mem:∀ i,i≤k+1→A i∈ss
 ve:∀ i,i≤k→0<ve (A i) (A (i+1))
 sup:∀ i,i≤k→Sup ss (ry (A i) (A (i+1)))
 tn:∀ i,i<k→0<tn (A i) (A (i+1)) (A (i+2))
 up:∀ i,1≤i→i<k→0<GM.ve (A 0) (A i)
 lst:A k=ng (A 0)
 lst1:A (k+1)=ng (A 1)
noncomputable def rA(A:Nat→T3)(i:Nat):Zr:=ry (A i) (A (i+1))
section
variable {ss:List T3} {A:Nat→T3} {k:Nat}
theorem E9.rk(R:E9 ss A k):rA A k=ngZ (rA A 0):=by
 unfold rA;rw[R.lst,R.lst1,iV]
theorem E9.cn(R:E9 ss A k){i:Nat}(h:i≤k):Cn2 ss (rA A i) :=
 ⟨R.sup i h,A i,A (i+1),R.mem i (by omega),R.mem (i+1) (by omega),A2 (R.ve i h),iW (A2 (R.ve i h)),fM (A2 (R.ve i h))⟩
theorem E9.cr(R:E9 ss A k){i:Nat}(h:i<k):0<cr (rA A i) (rA A (i+1)):=by
 have v1:=R.ve i (by omega)
 have v2:=R.ve (i+1) (by omega)
 have e:=Ec (A2 v1) (A2 v2)
 have p:0<(A (i+1)).2.2*GM.tn (A i) (A (i+1)) (A (i+2)):=mp (R.pos _ (R.mem _ (by omega))) (R.tn i h)
 rw[← e]at p
 exact K8 (mp v1 v2) p
theorem E9.nxt(R:E9 ss A k){i:Nat}(h:i<k){x:Zr}(hx:Cn2 ss x)(h1:0<GM.cr (rA A i) x):x=rA A (i+1)∨0<GM.cr (rA A (i+1)) x :=
 so R.pos (b:=A (i+1)) (R.mem _ (by omega)) (fM (A2 (R.ve i (by omega)))) (iW (A2 (R.ve (i+1) (by omega)))) (R.sup i (by omega)) (R.sup (i+1) (by omega)) (R.cr h) hx h1
theorem E9.down(R:E9 ss A k){i:Nat}(h:i+1<k):dt (A 0) (rA A (i+1))<dt (A 0) (rA A i):=by
 have v1:=R.ve i (by omega)
 have v2:=R.ve (i+1) (by omega)
 have e:=DO (A 0) (A2 v1) (A2 v2)
 have p:0<GM.ve (A 0) (A (i+1))*GM.tn (A i) (A (i+1)) (A (i+2)):=mp (R.up (i+1) (by omega) h) (R.tn i (by omega))
 rw[← e]at p
 have:=K8 (mp v1 v2) p
 unfold rA
 grind
theorem E9.down2(R:E9 ss A k):∀{i j:Nat},i<j→j<k→dt (A 0) (rA A j)<dt (A 0) (rA A i):=fun{i j}=>by
 induction j with
 | zero=>intro h;omega
 | succ j ih =>
  intro h1 h2
  have:=R.down h2
  by_cases e:i=j
  ·rw[e];exact this
  ·have:=ih (by omega) (by omega)
   grind
theorem E9.up0(R:E9 ss A k):∀{i:Nat},1≤i→i<k→0<GM.cr (rA A 0) (rA A i):=fun{i}=>by
 induction i with
 | zero=>intro h;omega
 | succ i ih =>
  intro _ h2
  by_cases e:i=0
  ·rw[e];exact R.cr (by omega)
  have h:=ih (by omega) (by omega)
  by_cases hc:0<GM.cr (rA A 0) (rA A (i+1))
  ·exact hc
  exfalso
  have hx:Cn2 ss (ngZ (rA A 0)):=(R.cn (Ic _)).ng R.sy
  have e1:GM.cr (rA A i) (ngZ (rA A 0))=GM.cr (rA A 0) (rA A i):=by rw[eF,jQ];grind
  have e2:GM.cr (rA A (i+1)) (ngZ (rA A 0))=GM.cr (rA A 0) (rA A (i+1)):=by rw[eF,jQ];grind
  rcases R.nxt (i:=i) (by omega) hx (by rw[e1];exact h)with z|z
  ·have ek:GM.cr (rA A (k - 1)) (ngZ (rA A 0))=GM.cr (rA A 0) (rA A (k - 1)):=by rw[eF,jQ];grind
   have ck:=R.cr (i:=k - 1) (by have:=R.two;omega)
   rw[show k - 1+1=k by have:=R.two;omega,R.rk]at ck
   have l0:dt (A 0) (ngZ (rA A 0)) = -dt (A 0) (rA A 0):=by unfold dt ngZ;grind
   have l1:dt (A 0) (rA A 0)=(A 0).2.2:=iW (A2 (R.ve 0 (by omega)))
   have lk:dt (A 0) (rA A (k - 1)) = -(A 0).2.2:=by
    have:=fM (A2 (R.ve (k - 1) (by omega)))
    rw[show k - 1+1=k by have:=R.two;omega,R.lst]at this
    have e3:dt (ng (A 0)) (ry (A (k - 1)) (ng (A 0))) = -dt (A 0) (ry (A (k - 1)) (ng (A 0))):=by unfold dt ng;grind
    rw[e3]at this
    have e4:(ng (A 0)).2.2=(A 0).2.2:=rfl
    rw[e4]at this
    unfold rA
    rw[show k - 1+1=k by have:=R.two;omega,R.lst]
    grind
   rw[z,l1]at l0
   by_cases ei:i+1=k - 1
   ·rw[← ei,← z,gA]at ck;grind
   ·have:=R.down2 (i:=i+1) (j:=k - 1) (by omega) (by omega)
    grind
  ·rw[e2]at z;exact hc z
end
noncomputable def nth(L:List Zr)(i:Nat):Zr:=L.getD (i % L.length) (0,0)
structure Chn(L:List Zr):Prop where
 cr:∀ i,0<cr (nth L i) (nth L (i+1))
 nxt:∀ i,∀ x∈L,0<GM.cr (nth L i) x→x=nth L (i+1)∨0<GM.cr (nth L (i+1)) x
 nd:∀ i j,i<j→j<L.length→nth L i≠nth L j
theorem A4{L:List Zr}(h:L≠[])(i:Nat):nth L i∈L:=by
 have hl:0<L.length:=II.mpr h
 unfold nth
 rw[HB,Hu (Iw _ hl)]
 exact Ja _
theorem Ei{L M:List Zr}(hL:Chn L)(hM:Chn M)(nL:L≠[])(nM:M≠[])(hs:∀ z,z∈L↔z∈M)(h0:nth L 0=nth M 0):L=M:=by
 have same:∀ i,nth L i=nth M i:=fun i=>by
  induction i with
  | zero=>exact h0
  | succ i ih =>
   have a1:=hL.cr i
   have a2:=hM.cr i
   rw[← ih]at a2
   have b1:=hL.nxt i (nth M (i+1)) ((hs _).mpr (A4 nM _)) a2
   have b2:=hM.nxt i (nth L (i+1)) ((hs _).mp (A4 nL _)) (by rw[← ih];exact a1)
   rcases b1 with e|b1
   ·exact e.symm
   ·rcases b2 with e|b2
    ·exact e
    ·rw[jQ]at b2;grind
 have pL:0<L.length:=II.mpr nL
 have pM:0<M.length:=II.mpr nM
 have per:∀(K:List Zr),nth K K.length=nth K 0:=fun K=>by unfold nth;rw[Nat.mod_self,Nat.zero_mod]
 have ll:L.length=M.length:=by
  rcases Ll L.length M.length with h|h|h
  ·exact absurd (by rw[← same 0,← same L.length,per L]) (hM.nd 0 L.length pL h)
  ·exact h
  ·exact absurd (by rw[same 0,same M.length,per M]) (hL.nd 0 M.length pM h)
 refine Jt ll fun i h1 h2=>?_
 have:=same i
 unfold nth at this
 rw[Ib h1,Ib h2,HB,HB,Hu h1,Hu h2]at this
 exact this
theorem gh{L:List Zr}{i:Nat}(h:i<L.length):nth L i=L[i]:=by
 unfold nth
 rw[Ib h,HB,Hu h];rfl
theorem B2(L:List Zr){n:Nat}(hn:n<L.length)(i:Nat):nth (L.drop n++L.take n) i=nth L (i+n):=by
 have hl:(L.drop n++L.take n).length=L.length:=by rw[HE,Ia,HS];omega
 have hi:i % L.length<L.length:=Iw _ (by omega)
 unfold nth
 rw[hl,HB,HB]
 congr 1
 rw[show(i+n) % L.length=(i % L.length+n) % L.length by rw[LG]]
 generalize i % L.length=j at *
 by_cases c:j<L.length - n
 ·rw[IB (by rw[Ia];exact c),List.getElem?_drop,Ib (by omega),Nat.add_comm]
 ·rw[Ig (by rw[Ia];omega),Ia,Ka (by omega),show(j+n) % L.length=j+n - L.length by rw[Ld (by omega),Ib (by omega)]]
  congr 1;omega
theorem Chn.rot{L:List Zr}(h:Chn L){n:Nat}(hn:n<L.length):Chn (L.drop n++L.take n):=by
 have hl:(L.drop n++L.take n).length=L.length:=by rw[HE,Ia,HS];omega
 have hm:∀ z,z∈L.drop n++L.take n↔z∈L:=fun z=>by rw[HH,Or.comm,← HH,Kx]
 refine⟨fun i=>?_,fun i x hx h1=>?_,fun i j h1 h2=>?_⟩
 ·rw[B2 L hn,B2 L hn,show i+1+n=i+n+1 by omega];exact h.cr _
 ·rw[B2 L hn]at h1
  rw[B2 L hn,show i+1+n=i+n+1 by omega]
  exact h.nxt _ x ((hm x).mp hx) h1
 ·rw[B2 L hn,B2 L hn]
  rw[hl]at h2
  have md:∀ a,a<L.length→nth L (a+n)=if a+n<L.length then nth L (a+n)else nth L (a+n - L.length):=fun a ha=>by
   split
   ·rfl
   ·unfold nth
    rw[Ld (by omega)]
  rw[md i (by omega),md j h2]
  split<;>split
  ·exact h.nd _ _ (by omega) (by omega)
  ·exact fun e=>h.nd (j+n - L.length) (i+n) (by omega) (by omega) e.symm
  ·omega
  ·exact h.nd _ _ (by omega) (by omega)
noncomputable def B9(A:Nat→T3)(k:Nat):List Zr:=(Ih k).map (rA A)++(Ih k).map fun i=>ngZ (rA A i)
noncomputable def vA(A:Nat→T3)(k j:Nat):Zr:=if j<k then rA A j else ngZ (rA A (j - k))
section
variable {ss:List T3} {A:Nat→T3} {k:Nat}
theorem W6:(B9 A k).length=2*k:=by unfold B9;rw[HE,Hk,Hk,Ik];omega
theorem A9(hk:0<k)(i:Nat):nth (B9 A k) i=vA A k (i % (2*k)):=by
 have hi:i % (2*k)<2*k:=Iw _ (by omega)
 unfold nth
 rw[W6,HB]
 generalize i % (2*k)=j at *
 unfold B9 vA
 split
 ·rename_i h
  rw[IB (by rw[Hk,Ik];exact h),HK,KS h];rfl
 ·rename_i h
  rw[Ig (by rw[Hk,Ik];omega),Hk,Ik,HK,KS (by omega)];rfl
theorem E9.v1(R:E9 ss A k){j:Nat}(_h:j<2*k):vA A k (if j+1=2*k then 0 else j+1)=if j<k then rA A (j+1)else ngZ (rA A (j+1 - k)):=by
 have h2:=R.two
 unfold vA
 by_cases h1:j+1=2*k
 ·rw[if_pos h1,if_pos (by omega),if_neg (by omega),show j+1 - k=k by omega,R.rk,aP]
 ·rw[if_neg h1]
  by_cases h3:j+1<k
  ·rw[if_pos h3,if_pos (by omega)]
  ·rw[if_neg h3]
   by_cases h4:j<k
   ·rw[if_pos h4,show j+1=k by omega,R.rk,Nat.sub_self]
   ·rw[if_neg h4]
theorem jA{i n:Nat}(hn:0<n):(i+1) % n=if i % n+1=n then 0 else i % n+1:=by
 have h:=Iw i hn
 rw[← LG]
 split
 ·rename_i e;rw[e,Nat.mod_self]
 ·exact Ib (by omega)
theorem mV(R:E9 ss A k){x:Zr}(h:x∈B9 A k):Cn2 ss x:=by
 unfold B9 at h
 rcases HH.mp h with h|h
 ·obtain⟨i,hi,rfl⟩:=Hm.mp h
  exact R.cn (by have:=Jl.mp hi;omega)
 ·obtain⟨i,hi,rfl⟩:=Hm.mp h
  exact(R.cn (by have:=Jl.mp hi;omega)).ng R.sy
theorem E9.chn(R:E9 ss A k):Chn (B9 A k):=by
 have h2:=R.two
 have st:∀ i,nth (B9 A k) (i+1)=if i % (2*k)<k then rA A (i % (2*k)+1)else ngZ (rA A (i % (2*k)+1 - k)):=fun i=>by
  rw[A9 (by omega),jA (by omega),R.v1 (Iw _ (by omega))]
 refine⟨fun i=>?_,fun i x hx h1=>?_,fun i j hij hj=>?_⟩
 ·rw[A9 (by omega),st]
  have hi:i % (2*k)<2*k:=Iw _ (by omega)
  generalize i % (2*k)=j at *
  unfold vA
  by_cases h:j<k
  ·rw[if_pos h,if_pos h];exact R.cr h
  ·rw[if_neg h,if_neg h,yM,show j+1 - k=j - k+1 by omega];exact R.cr (by omega)
 ·have cx:=mV R hx
  rw[A9 (by omega)]at h1
  rw[st]
  have hi:i % (2*k)<2*k:=Iw _ (by omega)
  generalize i % (2*k)=j at *
  unfold vA at h1
  by_cases h:j<k
  ·rw[if_pos h]at h1
   rw[if_pos h]
   exact R.nxt h cx h1
  ·rw[if_neg h]at h1
   rw[if_neg h,show j+1 - k=j - k+1 by omega]
   have e1:GM.cr (rA A (j - k)) (ngZ x)=GM.cr (ngZ (rA A (j - k))) x:=by rw[eF,yL]
   have e2:GM.cr (rA A (j - k+1)) (ngZ x)=GM.cr (ngZ (rA A (j - k+1))) x:=by rw[eF,yL]
   rcases R.nxt (i:=j - k) (by omega) (cx.ng R.sy) (by rw[e1];exact h1)with z|z
   ·left;rw[← z,aP]
   ·right;rw[← e2];exact z
 ·rw[W6]at hj
  rw[A9 (by omega),A9 (by omega),Ib (by omega),Ib hj]
  have inj:∀{a b:Nat},a<b→b<k→rA A a≠rA A b:=fun{a b} h1 h2 e=>by
   have:=R.down2 h1 h2
   rw[e]at this;grind
  have nz:∀{a b:Nat},a<k→b<k→rA A a≠ngZ (rA A b):=fun{a b} h1 h2 e=>by
   have ca:GM.cr (rA A 0) (rA A a)=GM.cr (rA A 0) (ngZ (rA A b)):=by rw[← e]
   rw[eF]at ca
   by_cases a0:a=0
   ·by_cases b0:b=0
    ·have c1:=R.cr (i:=0) (by omega)
     have e':rA A 0=ngZ (rA A 0):=by rw[a0,b0]at e;exact e
     have z1:(rA A 0).1 = -(rA A 0).1:=congrArg Prod.fst e'
     have z2:(rA A 0).2 = -(rA A 0).2:=congrArg Prod.snd e'
     unfold GM.cr at c1
     have y1:(rA A 0).1=0:=by grind
     have y2:(rA A 0).2=0:=by grind
     rw[y1,y2]at c1;grind
    ·have:=R.up0 (i:=b) (by omega) h2
     rw[a0,gA]at ca;grind
   ·have p:=R.up0 (i:=a) (by omega) h1
    by_cases b0:b=0
    ·rw[b0,gA]at ca;grind
    ·have:=R.up0 (i:=b) (by omega) h2
     grind
  unfold vA
  by_cases c1:i<k
  ·rw[if_pos c1]
   by_cases c2:j<k
   ·rw[if_pos c2];exact inj hij c2
   ·rw[if_neg c2];exact nz c1 (by omega)
  ·rw[if_neg c1,if_neg (by omega)]
   intro e
   exact inj (a:=i - k) (b:=j - k) (by omega) (by omega) (by rw[← aP (rA A (i - k)),e,aP])
end
theorem mW{h0:Sd}{ss:List Sd}:∀(k:Nat) (a:Sd),∀ ab∈(a :: C1 h0 ss k (A1 a ss)).zip (C1 h0 ss k (A1 a ss)),A1 ab.1 ss=some ab.2
 | 0,a,ab,h=>by
  have:C1 h0 ss 0 (A1 a ss)=[]:=by cases A1 a ss<;>rfl
  rw[this]at h;cases h
 | k+1,a,ab,h=>by
  cases e:A1 a ss with
  | none=>rw[e]at h;cases h
  | some f =>
   rw[e]at h
   have e2:C1 h0 ss (k+1) (some f)=if 0<veZ h0 f then f :: C1 h0 ss k (A1 f ss)else[]:=rfl
   rw[e2]at h
   split at h
   ·rw[Lc]at h
    rcases Hr.mp h with rfl|h
    ·exact e
    ·exact mW k f ab h
   ·cases h
theorem rq{h0:Sd}{ss:List Sd}:∀(k:Nat) (o:Option Sd),∀ s∈C1 h0 ss k o,0<veZ h0 s
 | 0,o,s,h=>by cases h
 | k+1,none,s,h=>by cases h
 | k+1,some f,s,h=>by
  have e2:C1 h0 ss (k+1) (some f)=if 0<veZ h0 f then f :: C1 h0 ss k (A1 f ss)else[]:=rfl
  rw[e2]at h
  split at h
  ·rename_i hv
   rcases Hr.mp h with rfl|h
   ·exact hv
   ·exact rq k _ s h
  ·cases h
noncomputable def kp(s:Sd):Rat:=(s.1:Rat) / (s.2.2.1:Rat)
noncomputable def kq(s:Sd):Rat:=(s.2.1:Rat) / (s.2.2.1:Rat)
def Lx(t f:Sd):Prop:=kp t<kp f∨(kp t=kp f∧kq t≤kq f)
theorem Lx.trans{a b c:Sd}(h:Lx a b)(g:Lx b c):Lx a c:=by unfold Lx at *;grind
theorem qS{a b x y:Int}(hx:0<x)(hy:0<y):((a*y - b*x:Int):Rat)=((a:Rat) / (x:Rat) - (b:Rat) / (y:Rat))*((x:Rat)*(y:Rat)):=by
 have h1:(0:Rat)<(x:Rat):=t4.mpr hx
 have h2:(0:Rat)<(y:Rat):=t4.mpr hy
 rw[Jg,HU,HU]
 grind
theorem sgn{a b x y:Int}(hx:0<x)(hy:0<y):(0<a*y - b*x↔(b:Rat) / (y:Rat)<(a:Rat) / (x:Rat))∧(a*y - b*x=0↔(b:Rat) / (y:Rat)=(a:Rat) / (x:Rat)):=by
 have e:=qS (a:=a) (b:=b) hx hy
 have p:(0:Rat)<(x:Rat)*(y:Rat):=Ij (t4.mpr hx) (t4.mpr hy)
 generalize a*y - b*x=n at *
 generalize (a:Rat) / (x:Rat)=u at *
 generalize (b:Rat) / (y:Rat)=v at *
 generalize (x:Rat)*(y:Rat)=c at *
 constructor
 ·rw[← t4,e]
  constructor
  ·intro h
   have:=K8 p (x:=u - v) (by grind)
   grind
  ·intro h
   have:=Ij p (show 0<u - v by grind)
   grind
 ·constructor
  ·intro h
   rw[h]at e
   have e:(0:Rat)=(u - v)*c:=e
   grind
  ·intro h
   rw[h]at e
   have e:(n:Rat)=0:=by rw[e];grind
   exact_mod_cast e
theorem wG{s f:Sd}(hs:0<s.2.2.1)(hf:0<f.2.2.1):(B4 s f=true→Lx f s)∧(¬ B4 s f=true→Lx s f):=by
 obtain⟨a1,a2⟩:=sgn (a:=s.1) (b:=f.1) hs hf
 obtain⟨b1,b2⟩:=sgn (a:=s.2.1) (b:=f.2.1) hs hf
 have k1:kp s=(s.1:Rat) / (s.2.2.1:Rat):=rfl
 have k2:kp f=(f.1:Rat) / (f.2.2.1:Rat):=rfl
 have k3:kq s=(s.2.1:Rat) / (s.2.2.1:Rat):=rfl
 have k4:kq f=(f.2.1:Rat) / (f.2.2.1:Rat):=rfl
 rw[← k1,← k2]at a1 a2
 rw[← k3,← k4]at b1 b2
 unfold B4 Lx
 by_cases c:s.1*f.2.2.1 - f.1*s.2.2.1=0
 ·rw[if_pos c,decide_eq_true_eq]
  have:=a2.mp c
  constructor
  ·intro h;have:=b1.mp h;grind
  ·intro h;rw[b1]at h;grind
 ·rw[if_neg c,decide_eq_true_eq]
  rw[a2]at c
  constructor
  ·intro h;have:=a1.mp h;grind
  ·intro h;rw[a1]at h;grind
theorem fO:∀(ss:List Sd) (f t:Sd),(∀ s∈ss,0<s.2.2.1)→0<f.2.2.1→(t∈ss∨Lx t f)→Lx t (v6 ss f)
 | [],f,t,_,_,h=>by
  rcases h with h|h
  ·cases h
  ·exact h
 | s :: r,f,t,hp,hf,h=>by
  have hs:=hp s Hq
  obtain⟨j1,j2⟩:=wG hs hf
  have e:v6 (s :: r) f=v6 r (if B4 s f=true then s else f):=rfl
  rw[e]
  by_cases c:B4 s f=true
  ·rw[if_pos c]
   refine fO r s t (fun x hx=>hp x (Hl _ hx)) hs ?_
   rcases h with h|h
   ·rcases Hr.mp h with rfl|h
    ·exact .inr (.inr ⟨rfl,JM⟩)
    ·exact .inl h
   ·exact .inr (h.trans (j1 c))
  ·rw[if_neg c]
   refine fO r f t (fun x hx=>hp x (Hl _ hx)) hf ?_
   rcases h with h|h
   ·rcases Hr.mp h with rfl|h
    ·exact .inr (j2 c)
    ·exact .inl h
   ·exact .inr h
theorem Dq{a h l:Sd}(pa:0<a.2.2.1)(ph:0<h.2.2.1)(pl:0<l.2.2.1)(la:Lx a h)(ll:Lx l h)(v1:0<veZ a h)(v2:0<veZ h l):tnZ a h l≠0:=fun z=>by
 have ra:(0:Rat)<(a.2.2.1:Rat):=t4.mpr pa
 have rh:(0:Rat)<(h.2.2.1:Rat):=t4.mpr ph
 have rl:(0:Rat)<(l.2.2.1:Rat):=t4.mpr pl
 have V1:(0:Rat)<ve (tri a) (tri h):=by rw[t7];exact t4.mpr v1
 have V2:(0:Rat)<ve (tri h) (tri l):=by rw[t7];exact t4.mpr v2
 have Z:tn (tri a) (tri h) (tri l)=0:=by rw[eT,z];rfl
 have ea:(a.1:Rat)=kp a*(a.2.2.1:Rat):=by unfold kp;grind
 have ea2:(a.2.1:Rat)=kq a*(a.2.2.1:Rat):=by unfold kq;grind
 have eh:(h.1:Rat)=kp h*(h.2.2.1:Rat):=by unfold kp;grind
 have eh2:(h.2.1:Rat)=kq h*(h.2.2.1:Rat):=by unfold kq;grind
 have el:(l.1:Rat)=kp l*(l.2.2.1:Rat):=by unfold kp;grind
 have el2:(l.2.1:Rat)=kq l*(l.2.2.1:Rat):=by unfold kq;grind
 unfold Lx at la ll
 have ve1:ve (tri a) (tri h)=(kp a*kq h - kq a*kp h)*((a.2.2.1:Rat)*(h.2.2.1:Rat)):=by
  unfold ve tri
  show(a.1:Rat)*(h.2.1:Rat) - (a.2.1:Rat)*(h.1:Rat)=_
  rw[ea,ea2,eh,eh2];grind
 have ve2:ve (tri h) (tri l)=(kp h*kq l - kq h*kp l)*((h.2.2.1:Rat)*(l.2.2.1:Rat)):=by
  unfold ve tri
  show(h.1:Rat)*(l.2.1:Rat) - (h.2.1:Rat)*(l.1:Rat)=_
  rw[el,el2,eh,eh2];grind
 have te:tn (tri a) (tri h) (tri l)=((kp h*kq l - kq h*kp l) - (kp a*kq l - kq a*kp l)+(kp a*kq h - kq a*kp h))*((a.2.2.1:Rat)*(h.2.2.1:Rat)*(l.2.2.1:Rat)):=by
  unfold tn ve tri
  show(a.2.2.1:Rat)*((h.1:Rat)*(l.2.1:Rat) - (h.2.1:Rat)*(l.1:Rat)) - (h.2.2.1:Rat)*((a.1:Rat)*(l.2.1:Rat) - (a.2.1:Rat)*(l.1:Rat))+(l.2.2.1:Rat)*((a.1:Rat)*(h.2.1:Rat) - (a.2.1:Rat)*(h.1:Rat))=_
  rw[ea,ea2,eh,eh2,el,el2];grind
 have P3:(0:Rat)<(a.2.2.1:Rat)*(h.2.2.1:Rat)*(l.2.2.1:Rat):=Ij (Ij ra rh) rl
 have U1:0<kp a*kq h - kq a*kp h:=K8 (Ij ra rh) (by rw[ve1]at V1;grind)
 have U2:0<kp h*kq l - kq h*kp l:=K8 (Ij rh rl) (by rw[ve2]at V2;grind)
 have U3:(kp h*kq l - kq h*kp l) - (kp a*kq l - kq a*kp l)+(kp a*kq h - kq a*kp h)=0:=by
  rw[Z]at te
  have hz:∀ x c:Rat,0<c→0=x*c→x=0:=fun x c h e=>by grind
  exact hz _ _ P3 te
 clear te ve1 ve2 ea ea2 eh eh2 el el2 Z V1 V2 z v1 v2 pa ph pl P3 ra rh rl
 generalize kp a=ap at *
 generalize kq a=aq at *
 generalize kp h=hp at *
 generalize kq h=hq at *
 generalize kp l=lp at *
 generalize kq l=lq at *
 generalize hU:hp*lq - hq*lp=u2 at *
 generalize hV:ap*hq - aq*hp=u1 at *
 have i1:u2*(hp - ap)+u1*(hp - lp)=0:=by grind
 have i2:u2*(hq - aq)+u1*(hq - lq)=0:=by grind
 have g1:ap≤hp:=by grind
 have g2:lp≤hp:=by grind
 have n1:0≤u2*(hp - ap):=Ht (D6 U2) (by grind)
 have n2:0≤u1*(hp - lp):=Ht (D6 U1) (by grind)
 have y1:u2*(hp - ap)=0:=by grind
 have y2:u1*(hp - lp)=0:=by grind
 have e1:hp=ap:=by grind
 have e2:hp=lp:=by grind
 have g3:aq≤hq:=by grind
 have g4:lq≤hq:=by grind
 have n3:0≤u2*(hq - aq):=Ht (D6 U2) (by grind)
 have n4:0≤u1*(hq - lq):=Ht (D6 U1) (by grind)
 have y3:u2*(hq - aq)=0:=by grind
 have e3:hq=aq:=by grind
 rw[e1,e3]at hV
 grind
noncomputable def i8(h0:Sd)(l:List Sd):List Sd:=h0 :: l++[j0 h0,j0 (l.headD h0)]
noncomputable def fA(h0:Sd)(l:List Sd)(i:Nat):T3:=tri ((i8 h0 l).getD i h0)
theorem D9{h0:Sd}{l:List Sd}{i:Nat}(h:i<l.length+1):(i8 h0 l).getD i h0=(h0 :: l)[i]'(by rw[Hs];exact h):=by
 unfold i8
 rw[HB,IB (by rw[Hs];exact h),Hu];rfl
theorem U7{h0:Sd}{l:List Sd}:(i8 h0 l).getD (l.length+1) h0=j0 h0:=by
 unfold i8
 rw[HB,Ig (by rw[Hs];exact Hy _),Hs,Nat.sub_self];rfl
theorem aS{h0:Sd}{l:List Sd}:(i8 h0 l).getD (l.length+2) h0=j0 (l.headD h0):=by
 unfold i8
 rw[HB,Ig (by rw[Hs];omega),Hs,show l.length+2 - (l.length+1)=1 by omega];rfl
theorem nI{h0:Sd}{l:List Sd}{i:Nat}(h:i<l.length+1):((i8 h0 l).getD i h0,(i8 h0 l).getD (i+1) h0)∈(h0 :: l).zip (l++[j0 h0]):=by
 have hz:i<((h0 :: l).zip (l++[j0 h0])).length:=by rw[IS,Hs,HE];show i<min _ (l.length+1);omega
 have e:((h0 :: l).zip (l++[j0 h0]))[i]=((i8 h0 l).getD i h0,(i8 h0 l).getD (i+1) h0):=by
  rw[Jv,D9 h]
  congr 1
  by_cases c:i<l.length
  ·rw[D9 (show i+1<l.length+1 by omega),Iy,Jc c]
  ·obtain rfl:i=l.length:=by omega
   rw[U7,IV (Hy _)]
   simp
 rw[← e]
 exact Ja _
theorem yV{h0:Sd}{l:List Sd}{i:Nat}(h:i<l.length):((i8 h0 l).getD i h0,(i8 h0 l).getD (i+1) h0)∈(h0 :: l).zip l:=by
 have hz:i<((h0 :: l).zip l).length:=by rw[IS,Hs];omega
 have e:((h0 :: l).zip l)[i]=((i8 h0 l).getD i h0,(i8 h0 l).getD (i+1) h0):=by
  rw[Jv,D9 (show i<l.length+1 by omega),D9 (show i+1<l.length+1 by omega),Iy]
 rw[← e]
 exact Ja _
theorem mK{a b c:Sd}(pa:0<a.2.2.1)(pb:0<b.2.2.1)(pc:0<c.2.2.1)(v1:0<veZ a b)(v2:0<veZ b c)(h:veZ a c≤0):0<tnZ a b c:=by
 unfold tnZ
 have h1:=KR pa v2
 have h2:=KR pc v1
 have h3:0≤b.2.2.1 * -veZ a c:=IU (by omega) (by omega)
 rw[KQ]at h3
 omega
theorem zt{ss:List Sd}(hp:∀ s∈ss,0<s.2.2.1){a b c:Sd}(ha:a∈ss)(hc:c∈ss)(e:A1 a ss=some b)(v2:0<veZ b c):0<tnZ a b c:=by
 obtain⟨mb,v1,h3⟩:=(W9 (h:=a) hp).yes b e
 by_cases h:0<veZ a c
 ·obtain⟨q1,q2⟩:=h3 c hc h
  rcases Ku 0 (tnZ a b c)with z|z
  ·exact z
  ·have:=q2 (by omega);omega
 ·exact mK (hp a ha) (hp b mb) (hp c hc) v1 v2 (by omega)
theorem yo{ls:List T3}(hok:∀ l∈ls,LineOk l){h0 x:Sd}{l:List Sd}(e:N2 (f7 ls)=h0 :: x :: l) :
  E9 ((f7 ls).map tri) (fA h0 (x :: l)) ((x :: l).length+1)∧v9 h0 (x :: l)++(v9 h0 (x :: l)).map ngZ=B9 (fA h0 (x :: l)) ((x :: l).length+1):=by
 have hp:∀ s∈f7 ls,0<s.2.2.1:=eX hok (i:=0)
 have sy:∀ s∈f7 ls,j0 s∈f7 ls:=kr (ls:=ls) (i:=0)
 have hne:ls≠[]:=fun z=>by rw[z]at e;cases e
 obtain⟨g0,m,e',m0,h⟩:=J7 hok hne
 rw[e]at e'
 cases e'
 rcases h with⟨z,_⟩|⟨_,R,hE⟩
 ·cases z
 have nx:(∀ ab∈(h0 :: x :: l).zip (x :: l),A1 ab.1 (f7 ls)=some ab.2)∧(∀ s∈x :: l,0<veZ h0 s)∧∀ t∈f7 ls,Lx t h0:=by
  cases es:f7 ls with
  | nil=>rw[es]at e;cases e
  | cons s r =>
   rw[es]at e hp
   have e2:N2 (s :: r)=v6 (s :: r) s :: C1 (v6 (s :: r) s) (s :: r) (s :: r).length (A1 (v6 (s :: r) s) (s :: r)):=rfl
   rw[e2]at e
   injection e with e3 e4
   have n1:=mW (h0:=v6 (s :: r) s) (ss:=s :: r) (s :: r).length (v6 (s :: r) s)
   have n2:=rq (h0:=v6 (s :: r) s) (ss:=s :: r) (s :: r).length (A1 (v6 (s :: r) s) (s :: r))
   have n3:=fun t ht=>fO (s :: r) s t hp (hp s Hq) (.inl ht)
   rw[e4,e3]at n1
   rw[e4,e3]at n2
   rw[e3]at n3
   exact⟨n1,n2,n3⟩
 obtain⟨nx1,nx2,nx3⟩:=nx
 generalize hL:x :: l=L at *
 have hL1:1≤L.length:=by rw[← hL];exact Nat.succ_le_succ (Ic _)
 have ed:∀ i,i<L.length+1→(i8 h0 L).getD i h0∈f7 ls∧(i8 h0 L).getD (i+1) h0∈f7 ls∧0<veZ ((i8 h0 L).getD i h0) ((i8 h0 L).getD (i+1) h0):=fun i hi=>hE _ (nI hi)
 have f0:(i8 h0 L).getD 0 h0=h0:=rfl
 have f1:(i8 h0 L).getD 1 h0=L.headD h0:=by rw[← hL];rfl
 have edk:veZ ((i8 h0 L).getD (L.length+1) h0) ((i8 h0 L).getD (L.length+2) h0)=veZ ((i8 h0 L).getD 0 h0) ((i8 h0 L).getD 1 h0):=by
  rw[U7,aS,f0,f1];unfold veZ j0;grind
 have mk1:(i8 h0 L).getD (L.length+2) h0∈f7 ls:=by
  rw[aS,← f1];exact sy _ (ed 0 (by omega)).2.1
 have mem:∀ i,i≤L.length+2→(i8 h0 L).getD i h0∈f7 ls:=fun i hi=>by
  by_cases c:i<L.length+1
  ·exact(ed i c).1
  ·by_cases c2:i=L.length+1
   ·rw[c2];exact(ed L.length (by omega)).2.1
   ·rw[show i=L.length+2 by omega];exact mk1
 have vei:∀ i,i≤L.length+1→0<veZ ((i8 h0 L).getD i h0) ((i8 h0 L).getD (i+1) h0):=fun i hi=>by
  by_cases c:i<L.length+1
  ·exact(ed i c).2.2
  ·rw[show i=L.length+1 by omega,edk];exact(ed 0 (by omega)).2.2
 have sup0:∀ i,i<L.length+1→Sup ((f7 ls).map tri) (ry (fA h0 L i) (fA h0 L (i+1))):=fun i hi=>by
  have hm:=nI (h0:=h0) (l:=L) hi
  have em:(fA h0 L i,fA h0 L (i+1))∈(tri h0 :: L.map tri).zip (L.map tri++[ng (tri h0)]):=by
   have:(tri h0 :: L.map tri).zip (L.map tri++[ng (tri h0)])=((h0 :: L).zip (L++[j0 h0])).map fun ab=>(tri ab.1,tri ab.2):=by
    rw[← E5,HL,Hw,HL,IA,u5]
   rw[this]
   exact Hm.mpr ⟨_,hm,rfl⟩
  exact(R.all _ em).2.2.2
 have lk:fA h0 L (L.length+1)=ng (fA h0 L 0):=by unfold fA;rw[U7,f0,u5]
 have lk1:fA h0 L (L.length+2)=ng (fA h0 L 1):=by unfold fA;rw[aS,f1,u5]
 refine⟨⟨by omega,R.sy,R.pos,fun i hi=>Hm.mpr ⟨_,mem i hi,rfl⟩,fun i hi=>?_,fun i hi=>?_,fun i hi=>?_,fun i h1 h2=>?_,lk,lk1⟩,?_⟩
 ·show 0<ve (tri _) (tri _);rw[t7];exact t4.mpr (vei i hi)
 ·by_cases c:i<L.length+1
  ·exact sup0 i c
  ·rw[show i=L.length+1 by omega,lk,lk1,iV]
   exact bD R.sy (sup0 0 (by omega))
 ·show 0<tn (tri _) (tri _) (tri _)
  rw[eT]
  refine t4.mpr ?_
  by_cases c:i<L.length
  ·exact zt hp (mem i (by omega)) (mem (i+2) (by omega)) (nx1 _ (yV c)) (vei (i+1) (by omega))
  ·obtain rfl:i=L.length:=by omega
   have q1:=vei L.length (by omega)
   have q2:=vei (L.length+1) (by omega)
   have p1:=hp _ (mem L.length (by omega))
   have p2:=hp _ (mem (L.length+1) (by omega))
   have p3:=hp _ (mem (L.length+2) (by omega))
   by_cases h:veZ ((i8 h0 L).getD L.length h0) ((i8 h0 L).getD (L.length+2) h0)≤0
   ·exact mK p1 p2 p3 q1 q2 h
   ·have ge:0≤tnZ ((i8 h0 L).getD L.length h0) ((i8 h0 L).getD (L.length+1) h0) ((i8 h0 L).getD (L.length+2) h0):=by
     have s:=sup0 L.length (by omega) (fA h0 L (L.length+2)) (Hm.mpr ⟨_,mk1,rfl⟩)
     have V:(0:Rat)<ve (fA h0 L L.length) (fA h0 L (L.length+1)):=by show 0<ve (tri _) (tri _);rw[t7];exact t4.mpr q1
     have t:=iU (A2 V) (fA h0 L (L.length+2))
     have:0≤tn (fA h0 L L.length) (fA h0 L (L.length+1)) (fA h0 L (L.length+2)):=by
      rw[← t];exact Ht (D6 V) (by grind)
     have:0≤tn (tri ((i8 h0 L).getD L.length h0)) (tri ((i8 h0 L).getD (L.length+1) h0)) (tri ((i8 h0 L).getD (L.length+2) h0)):=this
     rw[eT]at this
     exact yP.mp this
    have ne:=Dq (a:=j0 ((i8 h0 L).getD L.length h0)) (h:=h0) (l:=L.headD h0) p1 (hp h0 m0) (hp _ (by rw[← f1];exact(ed 0 (by omega)).2.1)) (nx3 _ (sy _ (mem L.length (by omega)))) (nx3 _ (by rw[← f1];exact(ed 0 (by omega)).2.1)) (by
     rw[U7]at q1
     have:veZ (j0 ((i8 h0 L).getD L.length h0)) h0=veZ ((i8 h0 L).getD L.length h0) (j0 h0):=by unfold veZ j0;grind
     rw[this];exact q1) (by have:=(ed 0 (by omega)).2.2;rw[f0,f1]at this;exact this)
    have eq:tnZ (j0 ((i8 h0 L).getD L.length h0)) h0 (L.headD h0)=tnZ ((i8 h0 L).getD L.length h0) ((i8 h0 L).getD (L.length+1) h0) ((i8 h0 L).getD (L.length+2) h0):=by
     rw[U7,aS];unfold tnZ veZ j0;grind
    rw[eq]at ne
    omega
 ·show 0<ve (tri ((i8 h0 L).getD 0 h0)) (tri _)
  rw[t7,f0,D9 (show i<L.length+1 by omega)]
  obtain⟨j,rfl⟩:∃ j,i=j+1:=⟨i - 1,by omega⟩
  rw[Iy]
  exact t4.mpr (nx2 _ (Ja _))
 ·have er:v9 h0 L=(Ih (L.length+1)).map (rA (fA h0 L)):=by
   unfold v9
   refine Jt (by rw[Hk,Hk,Ik,IS,Hs,HE];show min _ (L.length+1)=_;omega) fun i h1 h2=>?_
   rw[Hk,Ik]at h2
   rw[Ls,Ls,List.getElem_range,Jv]
   have g1:=D9 (h0:=h0) (l:=L) h2
   have hB:i<(h0 :: L).length:=by rw[Hs];exact h2
   have hA:i<(L++[j0 h0]).length:=by rw[HE];exact h2
   show ry (tri ((h0 :: L)[i]'hB)) (tri ((L++[j0 h0])[i]'hA))=ry (tri _) (tri _)
   rw[g1]
   congr 2
   by_cases c:i<L.length
   ·rw[D9 (show i+1<L.length+1 by omega),Iy,Jc c]
   ·obtain rfl:i=L.length:=by omega
    rw[U7,IV (Hy _)]
    simp
  unfold B9
  rw[er,IF]
  rfl
theorem AD{a b c:Zr}(h:¬ B3 a b=true)(g:¬ B3 b c=true):¬ B3 a c=true:=by
 unfold B3 at *
 split at h<;>split at g<;>split<;>simp only[decide_eq_true_eq]at *<;>grind
theorem AH{a b:Zr}(h:¬ B3 a b=true)(g:¬ B3 b a=true):a=b:=by
 unfold B3 at *
 by_cases e:a.1=b.1
 ·rw[if_pos e,decide_eq_true_eq]at h
  rw[if_pos e.symm,decide_eq_true_eq]at g
  exact Prod.ext e (by grind)
 ·rw[if_neg e,decide_eq_true_eq]at h
  rw[if_neg (fun z=>e z.symm),decide_eq_true_eq]at g
  exact absurd (by grind) e
theorem AF(a:Zr):¬ B3 a a=true:=by
 unfold B3
 rw[if_pos rfl,decide_eq_true_eq];grind
theorem AE{a b:Zr}(h:B3 a b=true):¬ B3 b a=true:=by
 unfold B3 at *
 split at h<;>split<;>simp only[decide_eq_true_eq]at *<;>grind
theorem mZ{rs:List Zr}:∀(i:Nat),∀ j,j<i→¬ B3 (rs.getD j (0,0)) (rs.getD (C9 rs i) (0,0))=true
 | 0,j,h=>absurd h (IQ j)
 | i+1,j,h=>by
  have ih:=mZ (rs:=rs) i
  show ¬ B3 _ (rs.getD (if B3 (rs.getD i (0,0)) (rs.getD (C9 rs i) (0,0))=true then i else C9 rs i) (0,0))=true
  split
  ·rename_i c
   by_cases e:j=i
   ·rw[e];exact AF _
   ·exact AD (ih j (by omega)) (AE c)
  ·rename_i c
   by_cases e:j=i
   ·rw[e];exact c
   ·exact ih j (by omega)
theorem vK{rs:List Zr}(h:rs≠[]):∀ x∈Y6 rs,¬ B3 x (nth (Y6 rs) 0)=true:=fun x hx=>by
 have hx:=W5.mp hx
 have hp:=bP h rs.length (Hy _)
 unfold Y6
 rw[B2 rs hp,JU,gh hp]
 obtain⟨j,hj,rfl⟩:=Jz.mp hx
 have:=mZ (rs:=rs) rs.length j hj
 rw[HB,HB,Hu hj,Hu hp]at this
 exact this
structure av(ls:List T3)(cs:List Zr):Prop where
 ne:cs≠[]
 chn:Chn cs
 low:∀ x∈cs,¬ B3 x (nth cs 0)=true
 mem:∀ z,z∈cs↔Cn2 ((f7 ls).map tri) z
theorem tP{ls:List T3}(hok:∀ l∈ls,LineOk l):(F0 ls=none∧Q7 ls) ∨ ∃ cs,F0 ls=some cs∧¬ Q7 ls∧av ls cs:=by
 rcases tQ hok with h|⟨cs,e,na,g0,m,R,hm⟩
 ·exact .inl h
 right
 refine⟨cs,e,na,?_⟩
 unfold F0 at e
 cases eh:N2 (f7 ls)with
 | nil=>rw[eh]at e;cases e
 | cons h0 t =>
  cases t with
  | nil=>rw[eh]at e;cases e
  | cons x l =>
   rw[eh]at e
   obtain⟨RC,er⟩:=yo hok eh
   have e:some (Y6 (v9 h0 (x :: l)++(v9 h0 (x :: l)).map ngZ))=some cs:=e
   rw[er]at e
   cases e
   have hl:(B9 (fA h0 (x :: l)) ((x :: l).length+1)).length=2*((x :: l).length+1):=W6
   have nn:B9 (fA h0 (x :: l)) ((x :: l).length+1)≠[]:=fun z=>by rw[z]at hl;simp at hl
   have hp:=bP nn _ (Hy _)
   refine⟨fun z=>?_,RC.chn.rot hp,vK nn,fun z=>?_⟩
   ·have:nth (B9 (fA h0 (x :: l)) ((x :: l).length+1)) 0∈Y6 (B9 (fA h0 (x :: l)) ((x :: l).length+1)):=W5.mpr (A4 nn 0)
    rw[z]at this;cases this
   ·constructor
    ·intro hz;exact mV RC (W5.mp hz)
    ·intro⟨sz,s,t,ms,mt,hv,es,et⟩
     rw[hm]
     rcases tot 0 (ve s t)with q|q
     ·exact R.corner sz ms mt (by grind) es et
     ·exact R.corner sz mt ms (by rw[show ve t s = -ve s t by unfold ve;grind];grind) et es
theorem av.one{ls ms:List T3}{cs ds:List Zr}(h:av ls cs)(g:av ms ds)(e:∀ z,z∈cs↔z∈ds):cs=ds :=
 Ei h.chn g.chn h.ne g.ne e (AH (g.low _ ((e _).mp (A4 h.ne 0))) (h.low _ ((e _).mpr (A4 g.ne 0))))
theorem eps:∀(xs:List (Rat × Rat)),(∀ x∈xs,0≤x.1∧(x.1=0→x.2=0))→∃ e:Rat,0<e∧∀ x∈xs,e*x.2≤x.1∧-(e*x.2)≤x.1
 | [],_=>⟨1,by decide,fun _ h=>nomatch h⟩
 | x :: xs,h=>by
  obtain⟨e,he,hx⟩:=eps xs fun y hy=>h y (Hl _ hy)
  obtain⟨h1,h2⟩:=h x Hq
  by_cases c:x.2=0
  ·refine⟨e,he,fun y hy=>?_⟩
   rcases Hr.mp hy with rfl|hy
   ·rw[c];grind
   ·exact hx y hy
  ·have hp:0<x.1:=by
    by_cases z:x.1=0
    ·exact absurd (h2 z) c
    ·grind
   let m:Rat:=if 0<x.2 then x.2 else -x.2
   have hm:0<m:=by show 0<(if 0<x.2 then x.2 else -x.2);split<;>grind
   have hd:0<x.1 / m:=by
    have e1:x.1 / m*m=x.1:=HZ (A2 hm)
    exact K8 hm (by rw[IP,e1];exact hp)
   have e1:x.1 / m*m=x.1:=HZ (A2 hm)
   have mle:x.2≤m∧-x.2≤m:=by
    show x.2≤(if 0<x.2 then x.2 else -x.2)∧-x.2≤(if 0<x.2 then x.2 else -x.2)
    split<;>constructor<;>grind
   generalize m=w at *
   have small:∀ f:Rat,0<f→f≤x.1 / w→f*x.2≤x.1∧-(f*x.2)≤x.1:=fun f f0 f1=>by
    have a1:0≤f*(w - x.2):=Ht (D6 f0) (by grind)
    have a2:0≤f*(w+x.2):=Ht (D6 f0) (by grind)
    have a3:0≤(x.1 / w - f)*w:=Ht (by grind) (D6 hm)
    constructor<;>grind
   have scale:∀ f:Rat,0<f→f≤e→∀ y∈xs,f*y.2≤y.1∧-(f*y.2)≤y.1:=fun f f0 f1 y hy=>by
    obtain⟨b1,b2⟩:=hx y hy
    have y0:=(h y (Hl _ hy)).1
    rcases tot 0 y.2 with c|c
    ·have a1:0≤(e - f)*y.2:=Ht (by grind) c
     have a2:0≤f*y.2:=Ht (D6 f0) c
     constructor<;>grind
    ·have a1:0≤(e - f) * -y.2:=Ht (by grind) (by grind)
     have a2:0≤f * -y.2:=Ht (D6 f0) (by grind)
     constructor<;>grind
   rcases tot e (x.1 / w)with c2|c2
   ·refine⟨e,he,fun y hy=>?_⟩
    rcases Hr.mp hy with rfl|hy
    ·exact small e he c2
    ·exact hx y hy
   ·refine⟨x.1 / w,hd,fun y hy=>?_⟩
    rcases Hr.mp hy with rfl|hy
    ·exact small _ hd JM
    ·exact scale _ hd c2 y hy
noncomputable def gL(z d:Zr)(e:Rat):Zr:=(z.1+e*d.1,z.2+e*d.2)
theorem kX(s:T3)(z d:Zr)(e:Rat):dt s (gL z d e)=dt s z+e*dt s d:=by unfold dt gL;grind
theorem Dn{ss:List T3}(nz:∀ s∈ss,¬ (s.1=0∧s.2.1=0)){z:Zr}(hz:Sup ss z)(hn:¬ ∃ s t,s∈ss∧t∈ss∧ve s t≠0∧dt s z=s.2.2∧dt t z=t.2.2) :
  ∃ d:Zr,¬ (d.1=0∧d.2=0)∧Sup ss (gL z d 1)∧Sup ss (gL z d (-1)):=by
 obtain⟨d,hd,ht⟩:∃ d:Zr,¬ (d.1=0∧d.2=0)∧∀ s∈ss,dt s z=s.2.2→dt s d=0:=by
  by_cases c:∃ s∈ss,dt s z=s.2.2
  ·obtain⟨s,hs,es⟩:=c
   refine⟨(-s.2.1,s.1),fun⟨h1,h2⟩=>nz s hs ⟨h2,by have h1:-s.2.1=0:=h1;grind⟩,fun t ht et=>?_⟩
   by_cases v:ve s t=0
   ·have:dt t (-s.2.1,s.1)=ve s t:=by unfold dt ve;grind
    rw[this,v]
   ·exact absurd ⟨s,t,hs,ht,v,es,et⟩ hn
  ·exact⟨(1,0),fun⟨h,_⟩=>absurd h (by decide),fun s hs es=>absurd ⟨s,hs,es⟩ c⟩
 obtain⟨e,he,hx⟩:=eps (ss.map fun s=>(s.2.2 - dt s z,dt s d)) fun x hx=>by
  obtain⟨s,hs,rfl⟩:=Hm.mp hx
  have:=hz s hs
  exact⟨by show 0≤s.2.2 - dt s z;grind,fun h0=>ht s hs (by have h0:s.2.2 - dt s z=0:=h0;grind)⟩
 have cmul:∀ s:T3,dt s (e*d.1,e*d.2)=e*dt s d:=fun s=>by unfold dt;grind
 refine⟨(e*d.1,e*d.2),fun⟨h1,h2⟩=>hd ⟨?_,?_⟩,fun s hs=>?_,fun s hs=>?_⟩
 ·have h1:e*d.1=0:=h1;grind
 ·have h2:e*d.2=0:=h2;grind
 ·obtain⟨b1,b2⟩:=hx _ (Hm.mpr ⟨s,hs,rfl⟩)
  rw[kX,cmul]
  have b1:e*dt s d≤s.2.2 - dt s z:=b1
  grind
 ·obtain⟨b1,b2⟩:=hx _ (Hm.mpr ⟨s,hs,rfl⟩)
  rw[kX,cmul]
  have b2:-(e*dt s d)≤s.2.2 - dt s z:=b2
  grind
theorem N8{ls:List T3}(hok:∀ l∈ls,LineOk l):∀ s∈(f7 ls).map tri,¬ (s.1=0∧s.2.1=0):=fun s hs ⟨z1,z2⟩=>by
 obtain⟨t,ht,rfl⟩:=Hm.mp hs
 obtain⟨c,hc,k,ec⟩:=C5 ht
 have cp:=B6 c
 have:(tri (h7 c k)).1=0∧(tri (h7 c k)).2.1=0:=by
  rcases ec with rfl|rfl
  ·exact⟨z1,z2⟩
  ·rw[u5]at z1 z2
   unfold ng at z1 z2
   exact⟨by grind,by grind⟩
 rw[w6]at this
 have t1:c.1*(cbL c:Rat)=0:=this.1
 have t2:c.2.1*(cbL c:Rat)=0:=this.2
 exact(hok c hc).ne ⟨by grind,by grind⟩
noncomputable def veW(a:Sd)(w:Int × Int):Int:=a.1*w.2 - a.2.1*w.1
noncomputable def wVe(w:Int × Int)(b:Sd):Int:=w.1*b.2.1 - w.2*b.1
theorem Rim.arnd{ss:List T3}{h0:T3}{l:List T3}(R:Rim ss h0 l)(w:T3)(hw:¬ (w.1=0∧w.2.1=0)) :
  ∃ ab∈gx h0 l,(0≤ve ab.1 w∧0<ve w ab.2)∨(0≤ve (ng ab.1) w∧0<ve w (ng ab.2)):=by
 have e0:ve w (ng h0)=ve h0 w:=by unfold ve ng;grind
 have e1:ve (ng h0) w = -ve h0 w:=by unfold ve ng;grind
 by_cases c1:0<ve h0 w
 ·obtain⟨ab,hm,k1,k2⟩:=ke h0 l (ng h0) (D6 c1) (by rw[e0];exact c1)
  exact⟨ab,hm,.inl ⟨k1,k2⟩⟩
 by_cases c2:ve h0 w<0
 ·have e2:ve w h0 = -ve h0 w:=by unfold ve;grind
  obtain⟨ab,hm,k1,k2⟩:=ke (w:=w) (ng h0) (l.map ng) h0 (by rw[e1];grind) (by rw[e2];grind)
  have em:ab∈((h0 :: l).map ng).zip ((l++[ng h0]).map ng):=by
   rw[Hw,HL,HL,IA,sm];exact hm
  rw[E5]at em
  obtain⟨cd,hcd,rfl⟩:=Hm.mp em
  exact⟨cd,hcd,.inr ⟨k1,k2⟩⟩
 ·have c0:ve h0 w=0:=by grind
  cases l with
  | nil=>exact absurd rfl R.ne
  | cons x l =>
   have hm:(h0,x)∈gx h0 (x :: l):=Hq
   obtain⟨q1,q2,q3,q4⟩:=R.all _ hm
   have q3:0<ve h0 x:=q3
   by_cases k:0<ve w x
   ·exact⟨_,hm,.inl ⟨by show 0≤ve h0 w;rw[c0];exact JM,k⟩⟩
   ·refine⟨_,hm,.inr ⟨by show 0≤ve (ng h0) w;rw[e1,c0];exact JM,?_⟩⟩
    show 0<ve w (ng x)
    have ex:ve w (ng x) = -ve w x:=by unfold ve ng;grind
    rw[ex]
    have hne:ve w x≠0:=fun z=>hw (by
     unfold ve at c0 z q3
     have i1:w.1*(h0.1*x.2.1 - h0.2.1*x.1)=0:=by
      have:w.1*(h0.1*x.2.1 - h0.2.1*x.1)=h0.1*(w.1*x.2.1 - w.2.1*x.1)+x.1*(h0.1*w.2.1 - h0.2.1*w.1):=by grind
      rw[this,z,c0];grind
     have i2:w.2.1*(h0.1*x.2.1 - h0.2.1*x.1)=0:=by
      have:w.2.1*(h0.1*x.2.1 - h0.2.1*x.1)=h0.2.1*(w.1*x.2.1 - w.2.1*x.1)+x.2.1*(h0.1*w.2.1 - h0.2.1*w.1):=by grind
      rw[this,z,c0];grind
     have hv:h0.1*x.2.1 - h0.2.1*x.1≠0:=by grind
     exact⟨by grind,by grind⟩)
    grind
inductive jZ
 | free (z:Zr)
 | most (v:Rat) (z:Zr) (sh:List (Int × Rat))
noncomputable def shD(s:Int × Rat):D:=.tup [.int s.1,e9 s.2]
noncomputable def jZ.toD:jZ→D
 | .free z=>.tup [.str "free",rD z]
 | .most v z sh=>.tup [.str "most",e9 v,rD z,.vl (sh.map shD)]
theorem mQ{s:Sd}:∀{ls:List T3} {i:Nat},s∈E6 i ls→∃ j l,ls[j]? = some l∧(s=h7 l (i+j)∨s=j0 (h7 l (i+j)))
 | [],_,h=>by cases h
 | a :: r,i,h=>by
  have h:s∈h7 a i :: j0 (h7 a i) :: E6 (i+1) r:=h
  rcases Hr.mp h with rfl|h
  ·exact⟨0,a,rfl,.inl rfl⟩
  ·rcases Hr.mp h with rfl|h
   ·exact⟨0,a,rfl,.inr rfl⟩
   ·obtain⟨j,l,e,q⟩:=mQ h
    exact⟨j+1,l,e,by rw[show i+(j+1)=i+1+j by omega];exact q⟩
theorem Z5(s:Rat):(0≤s∧C3 s=s)∨(s<0∧C3 s = -s):=by
 unfold C3
 split
 ·exact .inl ⟨by assumption,rfl⟩
 ·exact .inr ⟨by grind,rfl⟩
theorem qU{ls:List T3}{h:Sd}(hm:h∈f7 ls):∃(l:T3) (j:Nat),ls[j]? = some l∧h.2.2.2.1=(j:Int)∧(h=h7 l j∨h=j0 (h7 l j)):=by
 obtain⟨j,l,e,q⟩:=mQ (i:=0) hm
 rw[JU]at q
 exact⟨l,j,e,by rcases q with q|q<;>rw[q]<;>rfl,q⟩
structure L28(l:T3):Prop extends LnOk l where
 p6:sz l.1≤548
 q6:sz l.2.1≤548
 r6:sz l.2.2≤262
 b6:oY 800 (h7 l 0)
theorem xj{l:T3}{m:Nat}(h1:sz l.1≤m)(h2:sz l.2.1≤m)(h3:sz l.2.2≤m):oY (3*m) (h7 l 0):=by
 have e:cbL l≤l.1.den*l.2.1.den*l.2.2.den:=by
  have a:=L1 (D7 (D7 1 l.1.den) l.2.1.den) l.2.2.den
  have b:=L1 (D7 1 l.1.den) l.2.1.den
  have c:=L1 1 l.1.den
  rw[Nat.one_mul]at c
  exact Hx a (Ie _ (Hx b (Ie _ c)))
 have d1:=C8 _ h1
 have d2:=C8 _ h2
 have d3:=C8 _ h3
 have key:∀{q:Rat} {u v:Nat},sz q≤m→l.1.den*l.2.1.den*l.2.2.den=q.den*(u*v)→u<2 ^ m→v<2 ^ m→(iE q (cbL l)).natAbs<2 ^ (3*m):=fun{q u v} hq eq hu hv=>by
  unfold iE
  have hd:cbL l / q.den≤u*v:=by
   rw[eq]at e
   exact Nat.div_le_of_le_mul e
  rw[HX,HF,show 3*m=m+(m+m)by omega,IH,IH]
  refine Nat.mul_lt_mul_of_lt_of_le (gg q hq) (Hx hd (Jn (IX hu hv))) (LB (Nat.pow_pos (by decide)) (Nat.pow_pos (by decide)))
 exact⟨key h1 (Lb _ _ _) d2 d3,key h2 (by rw[Jr l.1.den,Lb]) d1 d3,key h3 (Jr _ _) d1 d2⟩
theorem tZ{n:Nat}{l:T3}(h:oY n (h7 l 0))(hn:n≤1200):SzS (h7 l 0):=⟨ez h.1 hn,ez h.2.1 hn,ez h.2.2 hn⟩
theorem L28.mk3{l:T3}(ok:LineOk l)(h1:sz l.1≤262)(h2:sz l.2.1≤262)(h3:sz l.2.2≤262):L28 l:=by
 have b:=xj h1 h2 h3
 have b6:oY 800 (h7 l 0):=⟨ez b.1 (by decide),ez b.2.1 (by decide),ez b.2.2 (by decide)⟩
 exact{ ne:=ok.ne,pos:=ok.pos,p:=by omega,q:=by omega,r:=by omega,s:=tZ b6 (by decide),p6:=by omega,q6:=by omega,r6:=by omega,b6:=b6 }
def lG(ls:List T3):Prop:=ls.length≤12∧∀ l∈ls,L28 l
theorem lG.ok{ls:List T3}(h:lG ls):ue ls:=⟨h.1,fun l hl=>(h.2 l hl).toLnOk⟩
theorem lG.lo{ls:List T3}(h:lG ls):∀ l∈ls,LineOk l:=fun l hl=>(h.2 l hl).toLnOk.toLineOk
theorem Ff{l:T3}(h:L28 l):cbL l<2 ^ 1400:=by
 have e:cbL l≤l.1.den*l.2.1.den*l.2.2.den:=by
  have a:=L1 (D7 (D7 1 l.1.den) l.2.1.den) l.2.2.den
  have b:=L1 (D7 1 l.1.den) l.2.1.den
  have c:=L1 1 l.1.den
  rw[Nat.one_mul]at c
  exact Hx a (Ie _ (Hx b (Ie _ c)))
 have d1:=C8 _ h.p6
 have d2:=C8 _ h.q6
 have d3:=C8 _ h.r6
 refine HV e ?_
 refine Ho (IX (IX d1 d2) d3) ?_
 rw[← IH,← IH]
 exact HD (by decide) (by decide)
theorem lG.scale{ls:List T3}(h:lG ls):∀ s∈f7 ls,s.2.2.2.2.natAbs<2 ^ 1400:=fun s hs=>by
 obtain⟨l,hl,j,e⟩:=C5 hs
 have:=Ff (h.2 l hl)
 rcases e with rfl|rfl
 ·show((cbL l:Nat):Int).natAbs<_;rw[HF];exact this
 ·show(-((cbL l:Nat):Int)).natAbs<_;rw[IC,HF];exact this
def Wz(x y:Int):Prop:=x.natAbs<2 ^ 2200∧y.natAbs<2 ^ 2200
local macro_rules|`(tactic| walk_at "inj")=>`(tactic| (rename_i e h;simp only[List.cons.injEq,GM.A0,GM.u9,GM.t9,GM.p5,and_true,true_and,GM.g6,GM.g7,GM.f8,GM.g8,GM.f9,D.tup.injEq,D.ref.injEq,D.int.injEq,D.str.injEq,D.bl.injEq,D.vl.injEq,Hz,and_assoc]at e;(repeat(obtain⟨e1,e⟩:=e;subst e1));subst e;exact h))
local macro_rules|`(tactic| walk_at "injs")=>`(tactic| (rename_i e o h;rcases o with o|o<;>(subst o;first|(exfalso;simp only[D.tup.injEq,List.cons.injEq,reduceCtorEq,false_and,and_false]at e;done)|(simp only[List.cons.injEq,GM.A0,GM.u9,GM.t9,GM.p5,and_true,true_and,GM.g6,GM.g7,GM.f8,GM.g8,GM.f9,D.tup.injEq,D.ref.injEq,D.int.injEq,D.str.injEq,D.bl.injEq,D.vl.injEq,Hz,and_assoc]at e;(repeat(obtain⟨e1,e⟩:=e;subst e1));subst e;exact h))))
abbrev iT(a:Sd)(x y:Int)(M:Mem)(R:DK)(Y:DXK):Prop:=(SzS a∧Wz x y)∧R (.int (veW a (x,y))) M
abbrev iS(x y:Int)(b:Sd)(M:Mem)(R:DK)(Y:DXK):Prop:=(SzS b∧Wz x y)∧R (.int (wVe (x,y) b)) M
theorem ju{q:Rat}:0<q.num↔0<q:=by
 have h1:=jv (-q)
 rw[Kg]at h1
 constructor
 ·intro h;have:=h1.mp (by omega);grind
 ·intro h;have:=h1.mpr (by grind);omega
end GM
namespace GM
open PySem PySem.Spec L2 DL
open RM (sz)
noncomputable def J6(v w z:Zr):Rat:=(w.1 - v.1)*(z.2 - v.2) - (w.2 - v.2)*(z.1 - v.1)
theorem AS{b:T3}{v w z:Zr}(h1:dt b v=b.2.2)(h2:dt b w=b.2.2):b.2.2*J6 v w z=cr v w*(b.2.2 - dt b z):=by
 unfold J6 cr
 unfold dt at *
 have e:b.1*(w.1 - v.1)+b.2.1*(w.2 - v.2)=0:=by grind
 rw[← h1]
 grind
theorem nE{b:T3}(rb:0<b.2.2){v w z:Zr}(h1:dt b v=b.2.2)(h2:dt b w=b.2.2)(hc:0<cr v w):0≤J6 v w z↔dt b z≤b.2.2:=by
 have e:=AS (z:=z) h1 h2
 constructor
 ·intro h
  have:0≤cr v w*(b.2.2 - dt b z):=by rw[← e];exact Ht (D6 rb) h
  have:=B1 hc this
  grind
 ·intro h
  have:0≤b.2.2*J6 v w z:=by rw[e];exact Ht (D6 hc) (by grind)
  exact B1 rb this
theorem E9.all{ss:List T3}{A:Nat→T3}{k:Nat}(R:E9 ss A k)(around:∀ w:T3,¬ (w.1=0∧w.2.1=0)→∃ i,i<k∧((0≤GM.ve (A i) w∧0<GM.ve w (A (i+1)))∨(0≤GM.ve (ng (A i)) w∧0<GM.ve w (ng (A (i+1))))))(nz:∀ s∈ss,¬ (s.1=0∧s.2.1=0)){z:Zr}(h:∀ i,1≤i→i≤k→dt (A i) z≤(A i).2.2∧dt (ng (A i)) z≤(A i).2.2):Sup ss z:=fun s hs=>by
 have h':∀ i,i≤k→dt (A i) z≤(A i).2.2∧dt (ng (A i)) z≤(A i).2.2:=fun i hi=>by
  by_cases c:i=0
  ·have:=h k (by have:=R.two;omega) (Hy _)
   rw[R.lst,sm]at this
   have e:(ng (A 0)).2.2=(A 0).2.2:=rfl
   rw[e]at this
   rw[c];exact⟨this.2,this.1⟩
  ·exact h i (by omega) hi
 obtain⟨i,hi,c⟩:=around s (nz s hs)
 have key:∀{a b:T3},0<GM.ve a b→Sup ss (ry a b)→0≤GM.ve a s→0<GM.ve s b→dt a z≤a.2.2→dt b z≤b.2.2→dt s z≤s.2.2:=fun{a b} hv su k1 k2 d1 d2=>by
  have e1:=F7 (w:=s) hv z
  have e2:=F7 (w:=s) hv (ry a b)
  rw[iW (A2 hv),fM (A2 hv)]at e2
  have q1:0≤GM.ve s b*(a.2.2 - dt a z):=Ht (D6 k2) (by grind)
  have q2:0≤GM.ve a s*(b.2.2 - dt b z):=Ht k1 (by grind)
  have q3:0≤GM.ve a b*(dt s (ry a b) - dt s z):=by grind
  have:=B1 hv q3
  have:=su s hs
  grind
 have v:=R.ve i (by omega)
 have su:=R.sup i (by omega)
 obtain⟨a1,a2⟩:=h' i (by omega)
 obtain⟨b1,b2⟩:=h' (i+1) (by omega)
 rcases c with⟨k1,k2⟩|⟨k1,k2⟩
 ·exact key v su k1 k2 a1 b1
 ·refine key (a:=ng (A i)) (b:=ng (A (i+1))) ?_ ?_ k1 k2 a2 b2
  ·have:GM.ve (ng (A i)) (ng (A (i+1)))=GM.ve (A i) (A (i+1)):=by unfold GM.ve ng;grind
   rw[this];exact v
  ·rw[iV];exact bD R.sy su
theorem vM{ss:List T3}{A:Nat→T3}{k:Nat}(R:E9 ss A k)(around:∀ w:T3,¬ (w.1=0∧w.2.1=0)→∃ i,i<k∧((0≤GM.ve (A i) w∧0<GM.ve w (A (i+1)))∨(0≤GM.ve (ng (A i)) w∧0<GM.ve w (ng (A (i+1))))))(nz:∀ s∈ss,¬ (s.1=0∧s.2.1=0))(z:Zr):(∀ i,0≤J6 (nth (B9 A k) i) (nth (B9 A k) (i+1)) z)↔Sup ss z:=by
 have h2:=R.two
 have st:∀ i,nth (B9 A k) (i+1)=if i % (2*k)<k then rA A (i % (2*k)+1)else ngZ (rA A (i % (2*k)+1 - k)):=fun i=>by
  rw[A9 (by omega),jA (by omega),R.v1 (Iw _ (by omega))]
 have on1:∀ j,j<k→dt (A (j+1)) (rA A j)=(A (j+1)).2.2∧dt (A (j+1)) (rA A (j+1))=(A (j+1)).2.2:=fun j hj=>⟨fM (A2 (R.ve j (by omega))),iW (A2 (R.ve (j+1) (by omega)))⟩
 have rp:∀ j,j≤k→0<(A j).2.2:=fun j hj=>R.pos _ (R.mem j (by omega))
 have dn:∀(b:T3) (y:Zr),dt (ng b) (ngZ y)=dt b y:=fun b y=>by unfold dt ng ngZ;grind
 have eq1:∀ j,j<k→(0≤J6 (rA A j) (rA A (j+1)) z↔dt (A (j+1)) z≤(A (j+1)).2.2):=fun j hj=>nE (rp (j+1) (by omega)) (on1 j hj).1 (on1 j hj).2 (R.cr hj)
 have eq2:∀ j,j<k→(0≤J6 (ngZ (rA A j)) (ngZ (rA A (j+1))) z↔dt (ng (A (j+1))) z≤(A (j+1)).2.2):=fun j hj=>by
  have:=nE (b:=ng (A (j+1))) (z:=z) (rp (j+1) (by omega)) (v:=ngZ (rA A j)) (w:=ngZ (rA A (j+1))) (by rw[dn];exact(on1 j hj).1) (by rw[dn];exact(on1 j hj).2) (by rw[yM];exact R.cr hj)
  exact this
 constructor
 ·intro h
  refine R.all around nz fun i h1 hi=>?_
  obtain⟨j,rfl⟩:∃ j,i=j+1:=⟨i - 1,by omega⟩
  have a:=h j
  have b:=h (j+k)
  rw[A9 (by omega),st,Ib (show j<2*k by omega),if_pos (show j<k by omega)]at a
  rw[A9 (by omega),st,Ib (show j+k<2*k by omega),if_neg (show ¬ j+k<k by omega),show j+k+1 - k=j+1 by omega]at b
  unfold vA at a b
  rw[if_pos (show j<k by omega)]at a
  rw[if_neg (show ¬ j+k<k by omega),show j+k - k=j by omega]at b
  exact⟨(eq1 j (by omega)).mp a,(eq2 j (by omega)).mp b⟩
 ·intro h i
  rw[A9 (by omega),st]
  have hi:i % (2*k)<2*k:=Iw _ (by omega)
  generalize i % (2*k)=j at *
  unfold vA
  by_cases c:j<k
  ·rw[if_pos c,if_pos c]
   exact(eq1 j c).mpr (h _ (R.mem _ (by omega)))
  ·rw[if_neg c,if_neg c,show j+1 - k=j - k+1 by omega]
   exact(eq2 (j - k) (by omega)).mpr (h _ (R.sy _ (R.mem _ (by omega))))
theorem Bl{ls:List T3}(hok:∀ l∈ls,LineOk l){cs:List Zr}(e:F0 ls=some cs)(y u:Rat):(∀ i,0≤J6 (nth cs i) (nth cs (i+1)) (y,u))↔m9 ls y u=true:=by
 rw[← C4 ls (y,u)]
 unfold F0 at e
 cases eh:N2 (f7 ls)with
 | nil=>rw[eh]at e;cases e
 | cons h0 t =>
  cases t with
  | nil=>rw[eh]at e;cases e
  | cons x l =>
   rw[eh]at e
   obtain⟨RC,er⟩:=yo hok eh
   have e:some (Y6 (v9 h0 (x :: l)++(v9 h0 (x :: l)).map ngZ))=some cs:=e
   rw[er]at e
   cases e
   have hl:(B9 (fA h0 (x :: l)) ((x :: l).length+1)).length=2*((x :: l).length+1):=W6
   have nn:B9 (fA h0 (x :: l)) ((x :: l).length+1)≠[]:=fun z=>by rw[z]at hl;simp at hl
   have hp:=bP nn _ (Hy _)
   have hne:ls≠[]:=fun z=>by rw[z]at eh;cases eh
   have R:Rim ((f7 ls).map tri) (tri h0) ((x :: l).map tri):=by
    obtain⟨g0,m,e',m0,h⟩:=J7 hok hne
    rw[eh]at e'
    cases e'
    rcases h with⟨z,_⟩|⟨_,R,_⟩
    ·cases z
    ·exact R
   have around:∀ w:T3,¬ (w.1=0∧w.2.1=0)→∃ i,i<(x :: l).length+1∧((0≤ve (fA h0 (x :: l) i) w∧0<ve w (fA h0 (x :: l) (i+1)))∨(0≤ve (ng (fA h0 (x :: l) i)) w∧0<ve w (ng (fA h0 (x :: l) (i+1))))):=fun w hw=>by
    obtain⟨ab,hm,hc⟩:=R.arnd w hw
    unfold gx at hm
    have e2:∀ L:List Sd,(tri h0 :: L.map tri).zip (L.map tri++[ng (tri h0)])=((h0 :: L).zip (L++[j0 h0])).map fun ab=>(tri ab.1,tri ab.2):=fun L=>by
     rw[← E5,HL,Hw,HL,IA,u5]
    rw[e2 (x :: l)]at hm
    obtain⟨cd,hcd,rfl⟩:=Hm.mp hm
    obtain⟨i,hi,ei⟩:=Jz.mp hcd
    have hi2:i<(x :: l).length+1:=by
     rw[IS,Hs,HE]at hi
     exact Ho hi (Ly _ _)
    refine⟨i,hi2,?_⟩
    have g1:=D9 (h0:=h0) (l:=x :: l) hi2
    rw[Jv]at ei
    have f1:fA h0 (x :: l) i=tri cd.1:=by unfold fA;rw[g1,← ei]
    have f2:fA h0 (x :: l) (i+1)=tri cd.2:=by
     unfold fA
     rw[← ei]
     congr 1
     by_cases c:i<(x :: l).length
     ·rw[D9 (show i+1<(x :: l).length+1 by omega),Iy,Jc c]
     ·obtain rfl:i=(x :: l).length:=by omega
      rw[U7,IV (Hy _)]
      simp
    rw[f1,f2];exact hc
   rw[← vM RC around (N8 hok)]
   unfold Y6
   constructor
   ·intro h i
    have:=h (i+(B9 (fA h0 (x :: l)) ((x :: l).length+1)).length - C9 (B9 (fA h0 (x :: l)) ((x :: l).length+1)) (B9 (fA h0 (x :: l)) ((x :: l).length+1)).length)
    rw[B2 _ hp,B2 _ hp]at this
    generalize B9 (fA h0 (x :: l)) ((x :: l).length+1)=L at *
    have per:∀ j,nth L (j+L.length)=nth L j:=fun j=>by unfold nth;rw[Nat.add_mod_right]
    rw[show i+L.length - C9 L L.length+C9 L L.length=i+L.length by omega,show i+L.length - C9 L L.length+1+C9 L L.length=i+1+L.length by omega,per,per]at this
    exact this
   ·intro h i
    rw[B2 _ hp,B2 _ hp,show i+1+C9 (B9 (fA h0 (x :: l)) ((x :: l).length+1)) (B9 (fA h0 (x :: l)) ((x :: l).length+1)).length=i+C9 (B9 (fA h0 (x :: l)) ((x :: l).length+1)) (B9 (fA h0 (x :: l)) ((x :: l).length+1)).length+1 by omega]
    exact h _
structure CP(k:Nat)(ls:List T3):Prop where
 cols:N0 k ls
 pos:∀ l∈ls,0<l.2.2
theorem CP.nil:CP 0 []:=⟨N0.nil,fun _ h=>nomatch h⟩
theorem CP.app{k:Nat}{ls:List T3}{l:T3}(h:CP k ls)(c:N0 (k+1) (ls++[l]))(hp:0<l.2.2):CP (k+1) (ls++[l]):=⟨c,fun m hm=>by
 rcases HH.mp hm with hm|hm
 ·exact h.pos m hm
 ·rw[HP.mp hm];exact hp⟩
theorem S4{k:Nat}{xs:List Rat}(h:Col k xs)(hk:k≤5){x:Rat}(hx:x∈xs):sz x≤262:=by
 obtain⟨B,b0,b1,h⟩:=h
 have:=(h x hx).sz b0 b1
 omega
theorem CP.l28{k:Nat}{ls:List T3}(h:CP k ls)(hk:k≤5):∀ l∈ls,L28 l:=fun l hl =>
 L28.mk3 ⟨(h.cols.ok (by omega) l hl).ne,h.pos l hl⟩ (S4 h.cols.p hk (Hm.mpr ⟨l,hl,rfl⟩)) (S4 h.cols.q hk (Hm.mpr ⟨l,hl,rfl⟩)) (S4 h.cols.r hk (Hm.mpr ⟨l,hl,rfl⟩))
theorem tw{a b:Int}(ha:0<a)(hb:0<b):0<Iv a b:=by
 rw[Q1]
 have h1:(0:Rat)<(a:Rat):=t4.mpr ha
 have h2:(0:Rat)<(b:Rat):=t4.mpr hb
 exact K8 h2 (by rw[IP,HZ (A2 h2)];exact h1)
local macro_rules|`(tactic| walk_at "inj")=>`(tactic| (rename_i e h;simp only[List.cons.injEq,GM.A0,GM.u9,GM.t9,GM.p5,and_true,true_and,GM.g6,GM.g7,GM.f8,GM.g8,GM.f9,D.tup.injEq,D.ref.injEq,D.int.injEq,D.str.injEq,D.bl.injEq,D.vl.injEq,Hz,and_assoc]at e;(repeat(obtain⟨e1,e⟩:=e;subst e1));subst e;exact h))
local macro_rules|`(tactic| walk_at "injs")=>`(tactic| (rename_i e o h;rcases o with o|o<;>(subst o;first|(exfalso;simp only[D.tup.injEq,List.cons.injEq,reduceCtorEq,false_and,and_false]at e;done)|(simp only[List.cons.injEq,GM.A0,GM.u9,GM.t9,GM.p5,and_true,true_and,GM.g6,GM.g7,GM.f8,GM.g8,GM.f9,D.tup.injEq,D.ref.injEq,D.int.injEq,D.str.injEq,D.bl.injEq,D.vl.injEq,Hz,and_assoc]at e;(repeat(obtain⟨e1,e⟩:=e;subst e1));subst e;exact h))))
abbrev W0(p:Addr)(M:Mem)(R:DK)(Y:DXK):Prop:=v8 M p∧∀(l:T3) M',LOk 41 l→0<l.2.2→m6 p M M'→R (h8 l) M'
def kH:DSp:=fun ds M R Y=>∃(p:Addr),ds=[.ref p]∧W0 p M R Y
theorem hJ{p:Addr}{M:Mem}{R:DK}{Y:DXK}:kH [.ref p] M R Y=(W0 p M R Y):=propext ⟨fun z=>by obtain⟨_,_,_⟩:=z;walk_at "inj",fun h=>⟨p,rfl,h⟩⟩
abbrev fD(y u z w:Rat)(M:Mem)(R:DK)(Y:DXK):Prop:=(sz y+sz w+sz u+sz z≤8000)∧R (e9 (y*w - u*z)) M
def zN:DSp:=fun ds M R Y=>∃(y u z w:Rat),ds=[T8 y u,T8 z w]∧fD y u z w M R Y
theorem pE{y u z w:Rat}{M:Mem}{R:DK}{Y:DXK}:zN [T8 y u,T8 z w] M R Y=(fD y u z w M R Y):=propext ⟨fun z=>by obtain⟨_,_,_,_,_,_⟩:=z;walk_at "inj",fun h=>⟨y,u,z,w,rfl,h⟩⟩
abbrev mR(l:T3)(p q:Rat)(M:Mem)(R:DK)(Y:DXK):Prop:=(sz l.1+sz q+sz l.2.1+sz p≤8000)∧R (e9 (l.1*q - l.2.1*p)) M
abbrev R7(q r:Rat)(M:Mem)(R:DK)(Y:DXK):Prop:=sz q+sz r≤20000∧R (.bl (decide (q<r))) M
def aN:DSp:=fun ds M R Y=>∃(q r:Rat),ds=[e9 q,e9 r]∧R7 q r M R Y
theorem dw{q r:Rat}{M:Mem}{R:DK}{Y:DXK}:aN [e9 q,e9 r] M R Y=(R7 q r M R Y):=propext ⟨fun z=>by obtain⟨_,_,_,_⟩:=z;walk_at "inj",fun h=>⟨q,r,rfl,h⟩⟩
end GM
namespace DL
open PySem PySem.Spec L2
section
variable {X:Cx} {st:Stmt} {B0:List Stmt} {t u:DTS} {F:S7} {e:Ev} {M:Mem}
end
end DL
namespace L2
open PySem PySem.Spec PyProof.Rows
section
variable {prog:Program} {w:World} {A:Around} {E:Value→Shared→Prop} {s:Shared}
end
section
variable {X:Cx}
end
end L2
namespace DL
open PySem PySem.Spec L2
section
variable {X:Cx} {pos:Pos}
end
end DL
namespace GM
open PySem PySem.Spec L2 DL
open RM (sz)
structure L24(l:T3):Prop where
 ok:L28 l
 z:LSz 262 l
def lH(ls:List T3):Prop:=ls.length≤12∧∀ l∈ls,L24 l
theorem lH.a{ls:List T3}(h:lH ls):lG ls:=⟨h.1,fun l hl=>(h.2 l hl).ok⟩
theorem CP.l24{k:Nat}{ls:List T3}(h:CP k ls)(hk:k≤5):∀ l∈ls,L24 l:=fun l hl=>⟨h.l28 hk l hl,S4 h.cols.p hk (Hm.mpr ⟨l,hl,rfl⟩),S4 h.cols.q hk (Hm.mpr ⟨l,hl,rfl⟩),S4 h.cols.r hk (Hm.mpr ⟨l,hl,rfl⟩)⟩
noncomputable def t0(w:Rat)(l:T3):Rat:=w*l.1
noncomputable def t1(w:Rat)(l:T3):Rat:=w*l.2.1
noncomputable def t2(w:Rat)(l:T3):Rat:=C3 w*l.2.2
structure MSz(m:jZ):Prop where
 free:∀ z,m = .free z→sz z.1≤3800∧sz z.2≤3800
 most:∀ v z sh,m = .most v z sh→sz v≤8000∧(sz z.1≤3800∧sz z.2≤3800)∧sh.length≤20∧∀ s∈sh,sz s.2≤3000
local macro_rules|`(tactic| walk_at "inj")=>`(tactic| (rename_i e h;simp only[List.cons.injEq,GM.A0,GM.u9,GM.t9,GM.p5,and_true,true_and,GM.g6,GM.g7,GM.f8,GM.g8,GM.f9,D.tup.injEq,D.ref.injEq,D.int.injEq,D.str.injEq,D.bl.injEq,D.vl.injEq,Hz,and_assoc]at e;(repeat(obtain⟨e1,e⟩:=e;subst e1));subst e;exact h))
local macro_rules|`(tactic| walk_at "injs")=>`(tactic| (rename_i e o h;rcases o with o|o<;>(subst o;first|(exfalso;simp only[D.tup.injEq,List.cons.injEq,reduceCtorEq,false_and,and_false]at e;done)|(simp only[List.cons.injEq,GM.A0,GM.u9,GM.t9,GM.p5,and_true,true_and,GM.g6,GM.g7,GM.f8,GM.g8,GM.f9,D.tup.injEq,D.ref.injEq,D.int.injEq,D.str.injEq,D.bl.injEq,D.vl.injEq,Hz,and_assoc]at e;(repeat(obtain⟨e1,e⟩:=e;subst e1));subst e;exact h))))
abbrev R3(p q y u:Rat)(M:Mem)(R:DK)(Y:DXK):Prop:=(sz p+sz q+sz y+sz u≤8900)∧R (e9 (p*y+q*u)) M
def fo:DSp:=fun ds M R Y=>∃(p q y u:Rat),ds=[e9 p,e9 q,T8 y u]∧R3 p q y u M R Y
theorem dj{p q y u:Rat}{M:Mem}{R:DK}{Y:DXK}:fo [e9 p,e9 q,T8 y u] M R Y=(R3 p q y u M R Y):=propext ⟨fun z=>by obtain⟨_,_,_,_,_,_⟩:=z;walk_at "inj",fun h=>⟨p,q,y,u,rfl,h⟩⟩
abbrev W1(ls:List T3)(y u:Rat)(M:Mem)(R:DK)(Y:DXK):Prop:=(lH ls∧sz y≤3800∧sz u≤3800)∧R (.bl (m9 ls y u)) M
def kI:DSp:=fun ds M R Y=>∃(ls:List T3) (y u:Rat),ds=[.vl (ls.map h8),T8 y u]∧W1 ls y u M R Y
theorem hZ{ls:List T3}{y u:Rat}{M:Mem}{R:DK}{Y:DXK}:kI [.vl (ls.map h8),T8 y u] M R Y=(W1 ls y u M R Y):=propext ⟨fun z=>by obtain⟨_,_,_,_,_⟩:=z;walk_at "inj",fun h=>⟨ls,y,u,rfl,h⟩⟩
abbrev R5(p:Addr)(n:Int)(M:Mem)(R:DK)(Y:DXK):Prop:=v8 M p∧(0≤n∧n≤5)∧∀(ls:List T3) M',(ls.length:Int)≤n→(∀ l∈ls,L24 l)→m6 p M M'→R (.vl (ls.map h8)) M'
def fy:DSp:=fun ds M R Y=>∃(p:Addr) (n:Int),ds=[.ref p,.int n]∧R5 p n M R Y
theorem dm{p:Addr}{n:Int}{M:Mem}{R:DK}{Y:DXK}:fy [.ref p,.int n] M R Y=(R5 p n M R Y):=propext ⟨fun z=>by obtain⟨_,_,_,_⟩:=z;walk_at "inj",fun h=>⟨p,n,rfl,h⟩⟩
abbrev R6(xs:List D)(n:Int)(M:Mem)(R:DK)(Y:DXK):Prop:=∃(ns:List Int) (k:Nat),n=(k:Int)∧(1≤k∧k≤5)∧xs=ns.map D.int∧ns.length≤63∧∀ ms:List Int,ms.length≤k→R (.vl (ms.map D.int)) M
def fH:DSp:=fun ds M R Y=>∃(xs:List D) (n:Int),ds=[.vl xs,.int n]∧R6 xs n M R Y
theorem du{xs:List D}{n:Int}{M:Mem}{R:DK}{Y:DXK}:fH [.vl xs,.int n] M R Y=(R6 xs n M R Y):=propext ⟨fun z=>by obtain⟨_,_,_,_⟩:=z;walk_at "inj",fun h=>⟨xs,n,rfl,h⟩⟩
end GM
namespace GM
open PySem PySem.Spec L2 DL
open RM (sz)
local macro_rules|`(tactic| walk_at "inj")=>`(tactic| (rename_i e h;simp only[List.cons.injEq,GM.A0,GM.u9,GM.t9,GM.p5,and_true,true_and,GM.g6,GM.g7,GM.f8,GM.g8,GM.f9,D.tup.injEq,D.ref.injEq,D.int.injEq,D.str.injEq,D.bl.injEq,D.vl.injEq,Hz,and_assoc]at e;(repeat(obtain⟨e1,e⟩:=e;subst e1));subst e;exact h))
local macro_rules|`(tactic| walk_at "injs")=>`(tactic| (rename_i e o h;rcases o with o|o<;>(subst o;first|(exfalso;simp only[D.tup.injEq,List.cons.injEq,reduceCtorEq,false_and,and_false]at e;done)|(simp only[List.cons.injEq,GM.A0,GM.u9,GM.t9,GM.p5,and_true,true_and,GM.g6,GM.g7,GM.f8,GM.g8,GM.f9,D.tup.injEq,D.ref.injEq,D.int.injEq,D.str.injEq,D.bl.injEq,D.vl.injEq,Hz,and_assoc]at e;(repeat(obtain⟨e1,e⟩:=e;subst e1));subst e;exact h))))
structure MSk(k:Nat)(m:jZ):Prop where
 free:∀ z,m = .free z→sz z.1≤3710+42*k∧sz z.2≤3710+42*k
 most:∀ v z sh,m = .most v z sh→sz v≤4400+42*k∧(sz z.1≤3710+42*k∧sz z.2≤3710+42*k)∧sh.length≤2+k∧∀ s∈sh,sz s.2≤2700+42*k
theorem MSk.sz{k:Nat}{m:jZ}(h:MSk k m)(hk:k≤2):MSz m:=⟨fun z e=>by have:=h.free z e;omega,fun v z sh e=>by obtain⟨a,b,c,d⟩:=h.most v z sh e;exact⟨by omega,by omega,by omega,fun s hs=>by have:=d s hs;omega⟩⟩
abbrev dY(p:Addr)(t:D)(ls:List T3)(M:Mem)(R:DK)(Y:DXK):Prop:=∃(m:jZ) (k:Nat),t=m.toD∧v8 M p∧ls.length≤12∧k≤1∧MSk k m∧∀(m':jZ) M',MSk (k+1) m'→m6 p M M'→R m'.toD M'
theorem MSk.up{k:Nat}{m:jZ}(h:MSk k m):MSk (k+1) m:=⟨fun z e=>by have:=h.free z e;omega,fun v z sh e=>by obtain⟨a,b,c,d⟩:=h.most v z sh e;exact⟨by omega,by omega,by omega,fun s hs=>by have:=d s hs;omega⟩⟩
end GM
namespace GM
open PySem PySem.Spec L2 DL
open RM (sz)
theorem oh{ls:List T3}{s:Sd}(hok:∀ l∈ls,LineOk l)(hs:s∈f7 ls):∃(l:T3) (j:Nat),ls[j]? = some l∧s.2.2.2.1=(j:Int)∧(tri s).1=l.1*(s.2.2.2.2:Rat)∧(tri s).2.1=l.2.1*(s.2.2.2.2:Rat)∧(tri s).2.2=l.2.2*C3 (s.2.2.2.2:Rat):=by
 obtain⟨l,j,e,en,q⟩:=qU hs
 have ts:=w6 l j
 have cp:(0:Rat)<(cbL l:Rat):=B6 l
 refine⟨l,j,e,en,?_⟩
 rcases q with rfl|rfl
 ·have sc:(((h7 l j).2.2.2.2:Int):Rat)=(cbL l:Rat):=by show(((cbL l:Nat):Int):Rat)=_;rw[Jb]
  rw[sc,ts]
  refine⟨rfl,rfl,?_⟩
  rcases Z5 (cbL l:Rat)with⟨_,w⟩|⟨h,_⟩
  ·rw[w]
  ·grind
 ·have sc:(((j0 (h7 l j)).2.2.2.2:Int):Rat) = -(cbL l:Rat):=by show((-((cbL l:Nat):Int):Int):Rat)=_;rw[Kt,Jb]
  rw[sc,u5,ts]
  refine⟨?_,?_,?_⟩
  ·show -(l.1*(cbL l:Rat))=_;grind
  ·show -(l.2.1*(cbL l:Rat))=_;grind
  ·show l.2.2*(cbL l:Rat)=_
   rcases Z5 (-(cbL l:Rat))with⟨h,_⟩|⟨_,w⟩
   ·grind
   ·rw[w];grind
local macro_rules|`(tactic| walk_at "inj")=>`(tactic| (rename_i e h;simp only[List.cons.injEq,GM.A0,GM.u9,GM.t9,GM.p5,and_true,true_and,GM.g6,GM.g7,GM.f8,GM.g8,GM.f9,D.tup.injEq,D.ref.injEq,D.int.injEq,D.str.injEq,D.bl.injEq,D.vl.injEq,Hz,and_assoc]at e;(repeat(obtain⟨e1,e⟩:=e;subst e1));subst e;exact h))
local macro_rules|`(tactic| walk_at "injs")=>`(tactic| (rename_i e o h;rcases o with o|o<;>(subst o;first|(exfalso;simp only[D.tup.injEq,List.cons.injEq,reduceCtorEq,false_and,and_false]at e;done)|(simp only[List.cons.injEq,GM.A0,GM.u9,GM.t9,GM.p5,and_true,true_and,GM.g6,GM.g7,GM.f8,GM.g8,GM.f9,D.tup.injEq,D.ref.injEq,D.int.injEq,D.str.injEq,D.bl.injEq,D.vl.injEq,Hz,and_assoc]at e;(repeat(obtain⟨e1,e⟩:=e;subst e1));subst e;exact h))))
noncomputable def vL(n k:Nat):T3:=(((k:Int):Rat),(((n:Int) - (k:Int):Int):Rat),((1+(k:Int) % 2:Int):Rat))
theorem zU{n:Nat}(h6:6≤n)(h12:n≤12):lH ((Ih n).map (vL n)):=by
 refine⟨by rw[Hk,Ik];exact h12,fun l hl=>?_⟩
 obtain⟨k,hk,rfl⟩:=Hm.mp hl
 have hk:=Jl.mp hk
 have z1:sz (((k:Int):Rat))≤10:=eU (by decide) (by show(k:Int).natAbs<2 ^ 10;omega)
 have z2:sz ((((n:Int) - (k:Int):Int):Rat))≤10:=eU (by decide) (by show((n:Int) - (k:Int)).natAbs<2 ^ 10;omega)
 have z3:sz (((1+(k:Int) % 2:Int):Rat))≤10:=eU (by decide) (by show(1+(k:Int) % 2).natAbs<2 ^ 10;omega)
 refine⟨L28.mk3 ⟨fun z=>?_,?_⟩ (by show sz (((k:Int):Rat))≤_;omega) (by show sz ((((n:Int) - (k:Int):Int):Rat))≤_;omega) (by show sz (((1+(k:Int) % 2:Int):Rat))≤_;omega),⟨by show sz (((k:Int):Rat))≤_;omega,by show sz ((((n:Int) - (k:Int):Int):Rat))≤_;omega,by show sz (((1+(k:Int) % 2:Int):Rat))≤_;omega⟩⟩
 ·have e1:((k:Int):Rat)=0:=z.1
  have e2:(((n:Int) - (k:Int):Int):Rat)=0:=z.2
  rw[Kh]at e1 e2
  omega
 ·show(0:Rat)<((1+(k:Int) % 2:Int):Rat)
  exact t4.mpr (by omega)
end GM
namespace GM
open PySem PySem.Spec L2 DL
open RM (sz)
structure Ext(P:Zr→Prop)(z:Zr):Prop where
 on:P z
 no:∀ d:Zr,P (gL z d 1)→P (gL z d (-1))→d.1=0∧d.2=0
theorem lr{ss:List T3}(nz:∀ s∈ss,¬ (s.1=0∧s.2.1=0)){z:Zr}:Cn2 ss z↔Ext (Sup ss) z:=by
 constructor
 ·intro hz
  refine⟨hz.sup,fun d s1 s2=>?_⟩
  obtain⟨s,t,ms,mt,hv,es,et⟩:=hz.two
  have key:∀ s∈ss,dt s z=s.2.2→dt s d=0:=fun s ms es=>by
   have a1:=s1 s ms
   have a2:=s2 s ms
   rw[kX]at a1 a2
   grind
  have k1:=key s ms es
  have k2:=key t mt et
  unfold dt at k1 k2
  unfold ve at hv
  refine⟨?_,?_⟩
  ·have:(s.1*t.2.1 - s.2.1*t.1)*d.1=0:=by
    have:(s.1*t.2.1 - s.2.1*t.1)*d.1=t.2.1*(s.1*d.1+s.2.1*d.2) - s.2.1*(t.1*d.1+t.2.1*d.2):=by grind
    rw[this,k1,k2];grind
   generalize s.1*t.2.1 - s.2.1*t.1=u at *
   grind
  ·have:(s.1*t.2.1 - s.2.1*t.1)*d.2=0:=by
    have:(s.1*t.2.1 - s.2.1*t.1)*d.2=s.1*(t.1*d.1+t.2.1*d.2) - t.1*(s.1*d.1+s.2.1*d.2):=by grind
    rw[this,k1,k2];grind
   generalize s.1*t.2.1 - s.2.1*t.1=u at *
   grind
 ·intro⟨on,no⟩
  refine⟨on,?_⟩
  by_cases c:∃ s t,s∈ss∧t∈ss∧ve s t≠0∧dt s z=s.2.2∧dt t z=t.2.2
  ·exact c
  obtain⟨d,hd,s1,s2⟩:=Dn nz on c
  exact absurd (no d s1 s2) hd
noncomputable def lmZ(a b c d:Rat)(z:Zr):Zr:=(a*z.1+b*z.2,c*z.1+d*z.2)
theorem sC(a b c d:Rat)(z x:Zr)(e:Rat):lmZ a b c d (gL z x e)=gL (lmZ a b c d z) (lmZ a b c d x) e:=by
 unfold lmZ gL
 refine Prod.ext ?_ ?_
 ·show a*(z.1+e*x.1)+b*(z.2+e*x.2)=a*z.1+b*z.2+e*(a*x.1+b*x.2);grind
 ·show c*(z.1+e*x.1)+d*(z.2+e*x.2)=c*z.1+d*z.2+e*(c*x.1+d*x.2);grind
theorem wA{a b c d:Rat}(h:a*d - b*c≠0){x:Zr}(h1:(lmZ a b c d x).1=0)(h2:(lmZ a b c d x).2=0):x.1=0∧x.2=0:=by
 have h1:a*x.1+b*x.2=0:=h1
 have h2:c*x.1+d*x.2=0:=h2
 have e1:(a*d - b*c)*x.1=d*(a*x.1+b*x.2) - b*(c*x.1+d*x.2):=by grind
 have e2:(a*d - b*c)*x.2=a*(c*x.1+d*x.2) - c*(a*x.1+b*x.2):=by grind
 rw[h1,h2]at e1 e2
 generalize a*d - b*c=D at *
 exact⟨by grind,by grind⟩
noncomputable def lmB(a b c d:Rat)(z:Zr):Zr:=lmZ (d / (a*d - b*c)) (-b / (a*d - b*c)) (-c / (a*d - b*c)) (a / (a*d - b*c)) z
theorem wB{a b c d:Rat}(h:a*d - b*c≠0)(z:Zr):lmZ a b c d (lmB a b c d z)=z:=by
 have e:∀ x:Rat,x / (a*d - b*c)*(a*d - b*c)=x:=fun x=>HZ h
 have e1:=e d
 have e2:=e (-b)
 have e3:=e (-c)
 have e4:=e a
 unfold lmB lmZ
 generalize hD:a*d - b*c=D at *
 refine Prod.ext ?_ ?_
 ·show a*(d / D*z.1 + -b / D*z.2)+b*(-c / D*z.1+a / D*z.2)=z.1
  have:D*(a*(d / D*z.1 + -b / D*z.2)+b*(-c / D*z.1+a / D*z.2))=D*z.1:=by
   generalize d / D=x1 at *;generalize -b / D=x2 at *;generalize -c / D=x3 at *;generalize a / D=x4 at *
   grind
  exact F4 h this
 ·show c*(d / D*z.1 + -b / D*z.2)+d*(-c / D*z.1+a / D*z.2)=z.2
  have:D*(c*(d / D*z.1 + -b / D*z.2)+d*(-c / D*z.1+a / D*z.2))=D*z.2:=by
   generalize d / D=x1 at *;generalize -b / D=x2 at *;generalize -c / D=x3 at *;generalize a / D=x4 at *
   grind
  exact F4 h this
theorem AX{P Q:Zr→Prop}{a b c d:Rat}(h:a*d - b*c≠0)(pq:∀ z,Q z↔P (lmZ a b c d z)){z:Zr}:Ext Q z↔Ext P (lmZ a b c d z):=by
 constructor
 ·intro⟨on,no⟩
  refine⟨(pq z).mp on,fun e e1 e2=>?_⟩
  have b0:=wB h e
  rw[← b0,← sC,← pq]at e1 e2
  obtain⟨h1,h2⟩:=no _ e1 e2
  rw[← b0]
  unfold lmZ
  rw[h1,h2]
  exact⟨by show a*0+b*0=0;grind,by show c*0+d*0=0;grind⟩
 ·intro⟨on,no⟩
  refine⟨(pq z).mpr on,fun e e1 e2=>?_⟩
  rw[pq,sC]at e1 e2
  obtain⟨h1,h2⟩:=no _ e1 e2
  exact wA h h1 h2
noncomputable def CA(f:Nat→Rat):Nat→Rat
 | 0=>0
 | n+1=>CA f n+f n
noncomputable def a2(L:List Zr):Rat:=CA (fun i=>cr (nth L i) (nth L (i+1))) L.length
theorem Bk{ls ms:List T3}(hl:∀ l∈ls,LineOk l)(hm:∀ l∈ms,LineOk l){a b c d:Rat}(h:a*d - b*c≠0)(pq:∀ z:Zr,m9 ms z.1 z.2=m9 ls (lmZ a b c d z).1 (lmZ a b c d z).2)
  {cs ds:List Zr} (C:av ls cs) (D:av ms ds) (z:Zr):z∈ds↔lmZ a b c d z∈cs:=by
 rw[C.mem,D.mem,lr (N8 hl),lr (N8 hm)]
 exact AX h fun z=>by rw[C4,C4,pq]
structure lF(cs:List Zr)(P:Zr→Prop):Prop where
 ne:cs≠[]
 chn:Chn cs
 low:∀ x∈cs,¬ B3 x (nth cs 0)=true
 on:∀ x∈cs,P x
 ins:∀ z,P z ↔ ∀ i,0≤J6 (nth cs i) (nth cs (i+1)) z
 zero:P (0,0)
 sym:∀ x∈cs,ngZ x∈cs
theorem sA{x c:Zr}(h:¬ B3 x c=true):c.1<x.1∨(c.1=x.1∧c.2≤x.2):=by
 unfold B3 at h
 by_cases e:x.1=c.1
 ·simp[e]at h;right;exact⟨e.symm,by grind⟩
 ·simp[e]at h;left;grind
section
variable {cs:List Zr} {P:Zr→Prop}
theorem lF.turn(Q:lF cs P){i:Nat}(h1:(nth cs (i+1)).1≤(nth cs i).1)(h2:(nth cs (i+1)).1<(nth cs (i+2)).1):nth cs (i+1)=nth cs 0:=by
 have c:=Q.chn.cr i
 have k:∀ z,P z→0≤J6 (nth cs i) (nth cs (i+1)) z∧0≤J6 (nth cs (i+1)) (nth cs (i+2)) z:=fun z hz=>⟨(Q.ins z).mp hz i,(Q.ins z).mp hz (i+1)⟩
 have k0:=k _ Q.zero
 have k2:=(k _ (Q.on _ (A4 Q.ne (i+2)))).1
 obtain⟨k3,k4⟩:=k _ (Q.on _ (A4 Q.ne 0))
 have lw:=sA (Q.low _ (A4 Q.ne (i+1)))
 generalize nth cs i=v at *
 generalize nth cs (i+1)=w at *
 generalize nth cs (i+2)=x at *
 generalize nth cs 0=o at *
 obtain⟨v1,v2⟩:=v
 obtain⟨w1,w2⟩:=w
 obtain⟨x1,x2⟩:=x
 obtain⟨o1,o2⟩:=o
 unfold J6 at *
 unfold cr at c
 simp only at *
 have idn:∀ z1 z2:Rat,((w1 - v1)*(x2 - v2) - (w2 - v2)*(x1 - v1))*(z1 - w1)=((w1 - v1)*(z2 - v2) - (w2 - v2)*(z1 - v1))*(x1 - w1) - ((x1 - w1)*(z2 - w2) - (x2 - w2)*(z1 - w1))*(w1 - v1):=fun z1 z2=>by grind
 have i0:=idn 0 0
 have io:=idn o1 o2
 have e0:(w1 - v1)*(0 - v2) - (w2 - v2)*(0 - v1)=v1*w2 - v2*w1:=by grind
 have p0:0<((w1 - v1)*(0 - v2) - (w2 - v2)*(0 - v1))*(x1 - w1):=by rw[e0];exact Ij c (by grind)
 have p1:0 ≤ -(((x1 - w1)*(0 - w2) - (x2 - w2)*(0 - w1))*(w1 - v1)):=by
  have:=Ht k0.2 (show 0≤v1 - w1 by grind);grind
 have D0:(w1 - v1)*(x2 - v2) - (w2 - v2)*(x1 - v1)≠0:=fun z=>by rw[z]at i0;grind
 have q0:0≤((w1 - v1)*(o2 - v2) - (w2 - v2)*(o1 - v1))*(x1 - w1):=Ht k3 (by grind)
 have q1:0 ≤ -(((x1 - w1)*(o2 - w2) - (x2 - w2)*(o1 - w1))*(w1 - v1)):=by
  have:=Ht k4 (show 0≤v1 - w1 by grind);grind
 have D1:0<(w1 - v1)*(x2 - v2) - (w2 - v2)*(x1 - v1):=by grind
 have ow:0≤o1 - w1:=by
  refine B1 D1 ?_
  rw[io]
  generalize ((w1 - v1)*(o2 - v2) - (w2 - v2)*(o1 - v1))*(x1 - w1)=A at *
  generalize ((x1 - w1)*(o2 - w2) - (x2 - w2)*(o1 - w1))*(w1 - v1)=B at *
  grind
 have e1:o1=w1:=by grind
 subst e1
 have e2:0≤(x1 - o1)*(o2 - w2):=by grind
 have e3:=B1 (show 0<x1 - o1 by grind) e2
 have:w2=o2:=by grind
 rw[this]
theorem lF.conv(Q:lF cs P){x y:Zr}(hx:P x)(hy:P y){t:Rat}(t0:0≤t)(t1:t≤1):P (x.1+(y.1 - x.1)*t,x.2+(y.2 - x.2)*t):=by
 rw[Q.ins]
 intro i
 have a:=(Q.ins x).mp hx i
 have b:=(Q.ins y).mp hy i
 have:J6 (nth cs i) (nth cs (i+1)) (x.1+(y.1 - x.1)*t,x.2+(y.2 - x.2)*t)=(1 - t)*J6 (nth cs i) (nth cs (i+1)) x+t*J6 (nth cs i) (nth cs (i+1)) y:=by unfold J6;grind
 rw[this]
 have h1:=Ht (show 0≤1 - t by grind) a
 have h2:=Ht t0 b
 grind
variable {lo hi:Rat→Rat}
end
section
variable {cs:List Zr} {P:Zr→Prop} {lo hi:Rat→Rat}
theorem lF.len(Q:lF cs P):0<cs.length:=II.mpr Q.ne
end
theorem oI{ls:List T3}(hok:∀ l∈ls,LineOk l):m9 ls 0 0=true:=by
 unfold m9
 rw[Iz]
 intro l hl
 have:=(hok l hl).pos
 rw[D2]
 exact⟨by grind,by grind⟩
theorem tX{a b:Bool}(h:a=true↔b=true):a=b:=by cases a<;>cases b<;>simp_all
theorem cc(ls:List T3)(y u:Rat):m9 ls y u=true ↔ ∀ l∈ls,l.1*y+l.2.1*u≤l.2.2∧-(l.1*y+l.2.1*u)≤l.2.2:=by
 unfold m9
 rw[Iz]
 exact⟨fun h l hl=>(D2 l y u).mp (h l hl),fun h l hl=>(D2 l y u).mpr (h l hl)⟩
theorem nv(ls:List T3)(z:Zr):m9 ls z.1 z.2=m9 ls (lmZ (-1) 0 0 (-1) z).1 (lmZ (-1) 0 0 (-1) z).2:=by
 refine tX ?_
 rw[cc,cc]
 unfold lmZ
 constructor
 ·intro h l hl;have:=h l hl;exact⟨by show l.1*(-1*z.1+0*z.2)+l.2.1*(0*z.1 + -1*z.2)≤_;grind,by show -(l.1*(-1*z.1+0*z.2)+l.2.1*(0*z.1 + -1*z.2))≤_;grind⟩
 ·intro h l hl
  obtain⟨h1,h2⟩:=h l hl
  have h1:l.1*(-1*z.1+0*z.2)+l.2.1*(0*z.1 + -1*z.2)≤l.2.2:=h1
  have h2:-(l.1*(-1*z.1+0*z.2)+l.2.1*(0*z.1 + -1*z.2))≤l.2.2:=h2
  exact⟨by grind,by grind⟩
theorem cE{ls:List T3}(hok:∀ l∈ls,LineOk l){cs:List Zr}(e:F0 ls=some cs):av ls cs∧¬ Q7 ls:=by
 rcases tP hok with⟨e',_⟩|⟨ds,e',na,C⟩
 ·rw[e]at e';cases e'
 ·rw[e]at e';cases e';exact⟨C,na⟩
theorem Bj{ls:List T3}(hok:∀ l∈ls,LineOk l){cs:List Zr}(C:av ls cs){z:Zr}(h:z∈cs):ngZ z∈cs:=by
 have:=(Bk hok hok (a:=-1) (b:=0) (c:=0) (d:=-1) (by grind) (nv ls) C C z).mp h
 have e:lmZ (-1) 0 0 (-1) z=ngZ z:=by unfold lmZ ngZ;exact Prod.ext (by show -1*z.1+0*z.2 = -z.1;grind) (by show 0*z.1 + -1*z.2 = -z.2;grind)
 rwa [e]at this
theorem vU{ls:List T3}(hok:∀ l∈ls,LineOk l){cs:List Zr}(e:F0 ls=some cs):lF cs (fun z=>m9 ls z.1 z.2=true):=by
 obtain⟨C,_⟩:=cE hok e
 exact⟨C.ne,C.chn,C.low,fun x hx=>(C4 ls x).mp ((C.mem x).mp hx).sup,fun z=>(Bl hok e z.1 z.2).symm,oI hok,fun x hx=>Bj hok C hx⟩
end GM
namespace DL
open PySem PySem.Spec L2 PyProof.Rows
structure xq(P:Program)(base:Heap):Prop where
 n:base.NoSeer
 t:P.given.tree=none
structure LDv(X:Cx):Prop where
 see:xq X.prog X.base
 rm:X.A.depth+Builtin.pylongFrames<recursionLimit
 st:X.stack=X.env :: X.outer
 g:X.env.scope.isGenerator=false
 c:X.env.scope.isCoroutine=false
def CNz(_ j:Int):Prop:=j≠0
theorem rV{X:Cx}(hp:LDv X):OpR X (binaryOp .FloorDiv) (rI CNz fun i j=>.int (i.fdiv j)):=by
 intro pins s σ H x y v u Q I rx ry h
 obtain⟨i,j,rfl,rfl,hc,q⟩:=h
 obtain⟨t,rfl⟩:=rx
 obtain⟨t',rfl⟩:=ry
 exact floordiv_int hc ⟨.int _,H,I.tok _,⟨_,rfl⟩,q⟩ (.inr (PylongRoom.of I.nolimit hp.rm (SeerAt.of (hp.see.n.keeps I.bk) hp.see.t (I.ok.frames.trans (congrArg some hp.st)) hp.g hp.c I.ok.blt I.ok.glob)))
theorem nr{X:Cx}(hp:LDv X):DOp X (binaryOp .FloorDiv) (gI CNz fun i j=>.int (i.fdiv j)):=jL (rV hp) fun _ _ _=>.int _
theorem ldv{P:Program}{w:World}{K:Hi}{mg:Str→Option Value}{base:Heap}{N ps:List Str}{x:Str}{sc:Scope}{f:Addr}{cdv:Value}{A:Around}{outer:List Env}{s:Shared}{H:Hp}{E:XK}{k:Nat}
  (S:xq P base) (hr:D3 k (A.deeper (envOfC x sc s.heap.objs.size f cdv))) (F:g5 N ps sc) (hk:32≤k:=by decide):LDv (jO CX0 P w K mg base N x sc f cdv A outer s H E).nox :=
 ⟨S,by
  have:=hr.dp
  show(A.deeper (envOfC x sc s.heap.objs.size f cdv)).depth+100<_
  omega,rfl,F.gen,F.co⟩
end DL
namespace GM
open PySem PySem.Spec L2 DL
open RM (sz)
local macro_rules|`(tactic| walk_at "inj")=>`(tactic| (rename_i e h;simp only[List.cons.injEq,GM.E3,GM.t9,GM.p5,and_true,true_and,GM.g6,GM.g7,GM.f8,GM.g8,GM.f9,D.tup.injEq,D.ref.injEq,D.int.injEq,D.str.injEq,D.bl.injEq,D.vl.injEq,Hz,and_assoc]at e;(repeat(obtain⟨e1,e⟩:=e;subst e1));subst e;exact h))
local macro_rules|`(tactic| walk_at "injs")=>`(tactic| (rename_i e o h;rcases o with o|o<;>(subst o;first|(exfalso;simp only[D.tup.injEq,List.cons.injEq,reduceCtorEq,false_and,and_false]at e;done)|(simp only[List.cons.injEq,GM.E3,GM.t9,GM.p5,and_true,true_and,GM.g6,GM.g7,GM.f8,GM.g8,GM.f9,D.tup.injEq,D.ref.injEq,D.int.injEq,D.str.injEq,D.bl.injEq,D.vl.injEq,Hz,and_assoc]at e;(repeat(obtain⟨e1,e⟩:=e;subst e1));subst e;exact h))))
abbrev V7(q r:Rat)(M:Mem)(R:DK)(Y:DXK):Prop:=sz q+sz r≤9000000∧R (e9 (q+r)) M
def kD:DSp:=fun ds M R Y=>∃(q r:Rat),ds=[e9 q,e9 r]∧V7 q r M R Y
theorem gY{q r:Rat}{M:Mem}{R:DK}{Y:DXK}:kD [e9 q,e9 r] M R Y=(V7 q r M R Y):=propext ⟨fun z=>by obtain⟨_,_,_,_⟩:=z;walk_at "inj",fun h=>⟨q,r,rfl,h⟩⟩
abbrev R4(q r:Rat)(M:Mem)(R:DK)(Y:DXK):Prop:=sz q+sz r≤9000000∧R (e9 (q - r)) M
def fu:DSp:=fun ds M R Y=>∃(q r:Rat),ds=[e9 q,e9 r]∧R4 q r M R Y
theorem dk{q r:Rat}{M:Mem}{R:DK}{Y:DXK}:fu [e9 q,e9 r] M R Y=(R4 q r M R Y):=propext ⟨fun z=>by obtain⟨_,_,_,_⟩:=z;walk_at "inj",fun h=>⟨q,r,rfl,h⟩⟩
theorem Dm{a b:Int}(m n:Nat)(ha:a.natAbs<2 ^ m)(hb:b.natAbs<2 ^ n)(h:m+n≤100000000):IntMulOk a b:=by
 have hx:∀(x:Int) (k:Nat),x.natAbs<2 ^ k→Builtin.Int.intBits x≤k:=fun x k hx=>by
  unfold Builtin.Int.intBits
  split
  ·exact Ic _
  ·rename_i h0
   have:x.natAbs≠0:=by
    intro z;apply h0
    first|exact(by simpa using KZ.mp z)|(simp;omega)
   have:=(Kf this).mpr hx
   omega
 exact PySem.IntMulOk.of_le (hx a m ha) (hx b n hb) (by omega)
theorem bND{q r:Rat}(h:sz q+sz r≤9000000):IntMulOk q.num (r.den:Int):=Dm _ _ (Z0 q) (Q2 r) (by omega)
theorem bDD{q r:Rat}(h:sz q+sz r≤9000000):IntMulOk (q.den:Int) (r.den:Int):=Dm _ _ (Q2 q) (Q2 r) (by omega)
end GM
namespace GM
open PySem PySem.Spec L2 DL
open RM (sz)
local macro_rules|`(tactic| walk_at "inj")=>`(tactic| (rename_i e h;simp only[List.cons.injEq,GM.E3,GM.t9,GM.p5,and_true,true_and,GM.g6,GM.g7,GM.f8,GM.g8,GM.f9,D.tup.injEq,D.ref.injEq,D.int.injEq,D.str.injEq,D.bl.injEq,D.vl.injEq,Hz,and_assoc]at e;(repeat(obtain⟨e1,e⟩:=e;subst e1));subst e;exact h))
local macro_rules|`(tactic| walk_at "injs")=>`(tactic| (rename_i e o h;rcases o with o|o<;>(subst o;first|(exfalso;simp only[D.tup.injEq,List.cons.injEq,reduceCtorEq,false_and,and_false]at e;done)|(simp only[List.cons.injEq,GM.E3,GM.t9,GM.p5,and_true,true_and,GM.g6,GM.g7,GM.f8,GM.g8,GM.f9,D.tup.injEq,D.ref.injEq,D.int.injEq,D.str.injEq,D.bl.injEq,D.vl.injEq,Hz,and_assoc]at e;(repeat(obtain⟨e1,e⟩:=e;subst e1));subst e;exact h))))
end GM
namespace GM
open PySem PySem.Spec L2 DL
open RM (sz)
noncomputable def zk(z:Rat × Rat):j7:=([z.1.num,(z.1.den:Int)],[z.2.num,(z.2.den:Int)])
theorem rB{q r:Rat}(h1:q.num=r.num)(h2:(q.den:Int)=(r.den:Int)):q=r:=Rat.ext h1 (by omega)
theorem oZ{z w:Rat × Rat}(h:zk z=zk w):z=w:=by
 unfold zk at h
 injection h with h1 h2
 injection h1 with a h1
 injection h1 with b _
 injection h2 with c h2
 injection h2 with d _
 exact Prod.ext (rB a b) (rB c d)
theorem xI{z:Rat × Rat}{M:Mem}{R:DK}:gIx (rD z) (.int 0) M R=R (e9 z.1) M:=N5
theorem xH{z:Rat × Rat}{M:Mem}{R:DK}:gIx (rD z) (.int 1) M R=R (e9 z.2) M:=N4
noncomputable def wl(l:T3)(z:Zr):Rat:=l.1*z.1+l.2.1*z.2
noncomputable def crL(l m:T3):Rat:=l.1*m.2.1 - l.2.1*m.1
structure dg(ls:List T3)(l m:T3)(z:Zr):Prop where
 cr:crL l m≠0
 one:wl l z=l.2.2∨wl l z = -l.2.2
 two:wl m z=m.2.2∨wl m z = -m.2.2
 lets:m9 ls z.1 z.2=true
noncomputable def mtZ(l m:T3)(a b:Rat):Zr:=(1 / crL l m*(a*m.2.1 - l.2.1*b),1 / crL l m*(l.1*b - a*m.1))
theorem jz{l m:T3}(h:crL l m≠0)(a b:Rat):wl l (mtZ l m a b)=a∧wl m (mtZ l m a b)=b:=by
 have i:1 / crL l m*crL l m=1:=by rw[Rat.div_def,Rat.one_mul,Rat.inv_mul_cancel _ h]
 unfold wl mtZ
 generalize 1 / crL l m=k at *
 unfold crL at i
 constructor
 ·have e:l.1*(k*(a*m.2.1 - l.2.1*b))+l.2.1*(k*(l.1*b - a*m.1))=a*(k*(l.1*m.2.1 - l.2.1*m.1)):=by grind
  dsimp only
  rw[e,i,KU]
 ·have e:m.1*(k*(a*m.2.1 - l.2.1*b))+m.2.1*(k*(l.1*b - a*m.1))=b*(k*(l.1*m.2.1 - l.2.1*m.1)):=by grind
  dsimp only
  rw[e,i,KU]
theorem nt{l m:T3}(h:crL l m≠0){z w:Zr}(h1:wl l z=wl l w)(h2:wl m z=wl m w):z=w:=by
 unfold wl at h1 h2
 unfold crL at h
 have e1:(l.1*m.2.1 - l.2.1*m.1)*(z.1 - w.1)=0:=by
  have:(l.1*m.2.1 - l.2.1*m.1)*(z.1 - w.1)=m.2.1*((l.1*z.1+l.2.1*z.2) - (l.1*w.1+l.2.1*w.2)) - l.2.1*((m.1*z.1+m.2.1*z.2) - (m.1*w.1+m.2.1*w.2)):=by grind
  rw[this,h1,h2];grind
 have e2:(l.1*m.2.1 - l.2.1*m.1)*(z.2 - w.2)=0:=by
  have:(l.1*m.2.1 - l.2.1*m.1)*(z.2 - w.2)=l.1*((m.1*z.1+m.2.1*z.2) - (m.1*w.1+m.2.1*w.2)) - m.1*((l.1*z.1+l.2.1*z.2) - (l.1*w.1+l.2.1*w.2)):=by grind
  rw[this,h1,h2];grind
 have f1:=(Im.mp e1).resolve_left h
 have f2:=(Im.mp e2).resolve_left h
 exact Prod.ext (by grind) (by grind)
theorem mJ(l:T3)(z:Zr):wl l (ngZ z) = -wl l z:=by unfold wl ngZ;grind
theorem AZ{ls:List T3}{l m:T3}{z:Zr}(h:crL l m≠0):dg ls l m z ↔ ∃ s:Rat,(s=1∨s = -1)∧m9 ls (mtZ l m l.2.2 (m.2.2*s)).1 (mtZ l m l.2.2 (m.2.2*s)).2=true∧(z=mtZ l m l.2.2 (m.2.2*s)∨z=ngZ (mtZ l m l.2.2 (m.2.2*s))):=by
 have ngng:∀ z:Zr,ngZ (ngZ z)=z:=fun z=>Prod.ext (by show - -z.1=z.1;grind) (by show - -z.2=z.2;grind)
 have lng:∀{z:Zr},m9 ls z.1 z.2=true→m9 ls (ngZ z).1 (ngZ z).2=true:=fun{z} h=>by
  rw[nv]at h
  have e:lmZ (-1) 0 0 (-1) z=ngZ z:=by unfold lmZ ngZ;exact Prod.ext (by show -1*z.1+0*z.2 = -z.1;grind) (by show 0*z.1 + -1*z.2 = -z.2;grind)
  rwa [e]at h
 constructor
 ·rintro⟨_,h1,h2,h3⟩
  have key:∀ z:Zr,wl l z=l.2.2→(wl m z=m.2.2∨wl m z = -m.2.2)→∃ s:Rat,(s=1∨s = -1)∧z=mtZ l m l.2.2 (m.2.2*s):=fun z e1 e2=>by
   rcases e2 with e2|e2
   ·refine⟨1,.inl rfl,nt h ?_ ?_⟩
    ·rw[(jz h _ _).1,e1]
    ·rw[(jz h _ _).2,e2];grind
   ·refine⟨-1,.inr rfl,nt h ?_ ?_⟩
    ·rw[(jz h _ _).1,e1]
    ·rw[(jz h _ _).2,e2];grind
  rcases h1 with h1|h1
  ·obtain⟨s,hs,e⟩:=key z h1 h2
   exact⟨s,hs,by rw[← e];exact h3,.inl e⟩
  ·obtain⟨s,hs,e⟩:=key (ngZ z) (by rw[mJ,h1];grind) (by rw[mJ];rcases h2 with h2|h2;exact .inr (by rw[h2]);exact .inl (by rw[h2];grind))
   refine⟨s,hs,by rw[← e];exact lng h3,.inr ?_⟩
   rw[← e,ngng]
 ·rintro⟨s,hs,hl,hz⟩
  obtain⟨m1,m2⟩:=jz h l.2.2 (m.2.2*s)
  have m2':wl m (mtZ l m l.2.2 (m.2.2*s))=m.2.2∨wl m (mtZ l m l.2.2 (m.2.2*s)) = -m.2.2:=by
   rcases hs with rfl|rfl
   ·left;rw[m2];grind
   ·right;rw[m2];grind
  rcases hz with rfl|rfl
  ·exact⟨h,.inl m1,m2',hl⟩
  ·refine⟨h,.inr (by rw[mJ,m1]),?_,lng hl⟩
   rw[mJ]
   rcases m2' with e|e
   ·exact .inr (by rw[e])
   ·exact .inl (by rw[e];grind)
def nV(ls:List T3)(z:Zr):Prop:=∃(i j:Nat) (l m:T3),j<i∧ls[i]? = some l∧ls[j]? = some m∧dg ls l m z
theorem dg.sym{ls:List T3}{l m:T3}{z:Zr}(h:dg ls l m z):dg ls m l z:=by
 refine⟨fun e=>h.cr ?_,h.two,h.one,h.lets⟩
 have:crL l m = -crL m l:=by unfold crL;grind
 rw[this,e];grind
theorem iF{ls:List T3}(hok:∀ l∈ls,LineOk l){s:Sd}(hs:s∈f7 ls){z:Zr}(e:dt (tri s) z=(tri s).2.2):∃(l:T3) (j:Nat) (c:Rat),ls[j]? = some l∧c≠0∧(tri s).1=l.1*c∧(tri s).2.1=l.2.1*c∧(wl l z=l.2.2∨wl l z = -l.2.2):=by
 obtain⟨l,j,e1,_,t1,t2,t3⟩:=oh hok hs
 have nz:=N8 hok (tri s) (Hm.mpr ⟨s,hs,rfl⟩)
 have c0:(s.2.2.2.2:Rat)≠0:=fun z=>nz ⟨by rw[t1,z];grind,by rw[t2,z];grind⟩
 refine⟨l,j,(s.2.2.2.2:Rat),e1,c0,t1,t2,?_⟩
 unfold dt at e
 rw[t1,t2,t3]at e
 unfold wl
 generalize (s.2.2.2.2:Rat)=c at *
 rcases Z5 c with⟨_,w⟩|⟨_,w⟩
 ·rw[w]at e
  left
  have:c*((l.1*z.1+l.2.1*z.2) - l.2.2)=0:=by grind
  have:=(Im.mp this).resolve_left c0
  grind
 ·rw[w]at e
  right
  have:c*((l.1*z.1+l.2.1*z.2)+l.2.2)=0:=by grind
  have:=(Im.mp this).resolve_left c0
  grind
theorem dW:∀{ls:List T3} {i j:Nat} {l:T3},ls[j]? = some l→h7 l (i+j)∈E6 i ls∧j0 (h7 l (i+j))∈E6 i ls
 | [],_,_,_,h=>by cases h
 | a :: r,i,0,l,h=>by
  cases h
  exact⟨.head _,.tail _ (.head _)⟩
 | a :: r,i,j+1,l,h=>by
  have:=dW (ls:=r) (i:=i+1) (j:=j) (l:=l) h
  rw[show i+1+j=i+(j+1)by omega]at this
  exact⟨.tail _ (.tail _ this.1),.tail _ (.tail _ this.2)⟩
theorem ix{ls:List T3}{j:Nat}{l:T3}(h:ls[j]? = some l){z:Zr}(e:wl l z=l.2.2∨wl l z = -l.2.2):∃(s:Sd) (c:Rat),s∈f7 ls∧c≠0∧(tri s).1=l.1*c∧(tri s).2.1=l.2.1*c∧dt (tri s) z=(tri s).2.2:=by
 have bb:=dW (i:=0) h
 rw[JU]at bb
 have ts:=w6 l j
 have cp:(0:Rat)<(cbL l:Rat):=B6 l
 unfold wl at e
 rcases e with e|e
 ·refine⟨_,(cbL l:Rat),bb.1,by grind,by rw[ts],by rw[ts],?_⟩
  rw[ts]
  show l.1*(cbL l:Rat)*z.1+l.2.1*(cbL l:Rat)*z.2=l.2.2*(cbL l:Rat)
  rw[← e];grind
 ·refine⟨_,-(cbL l:Rat),bb.2,by grind,?_,?_,?_⟩
  ·rw[u5,ts];show -(l.1*(cbL l:Rat))=_;grind
  ·rw[u5,ts];show -(l.2.1*(cbL l:Rat))=_;grind
  ·rw[u5,ts]
   show -(l.1*(cbL l:Rat))*z.1 + -(l.2.1*(cbL l:Rat))*z.2=l.2.2*(cbL l:Rat)
   have:l.2.2 = -(l.1*z.1+l.2.1*z.2):=by grind
   rw[this];grind
theorem Bm{ls:List T3}(hok:∀ l∈ls,LineOk l)(z:Zr):Cn2 ((f7 ls).map tri) z↔nV ls z:=by
 constructor
 ·rintro⟨hs,s,t,ms,mt,hv,es,et⟩
  have hl:=(C4 ls z).mp hs
  obtain⟨s',m1,rfl⟩:=Hm.mp ms
  obtain⟨t',m2,rfl⟩:=Hm.mp mt
  obtain⟨l,i,c,e1,c0,a1,a2,a3⟩:=iF hok m1 es
  obtain⟨m,j,d,e2,d0,b1,b2,b3⟩:=iF hok m2 et
  have cr0:crL l m≠0:=fun e=>hv (by
   unfold ve
   rw[a1,a2,b1,b2]
   unfold crL at e
   have:l.1*c*(m.2.1*d) - l.2.1*c*(m.1*d)=c*d*(l.1*m.2.1 - l.2.1*m.1):=by grind
   rw[this,e];grind)
  have D:dg ls l m z:=⟨cr0,a3,b3,hl⟩
  rcases Ll i j with h|h|h
  ·exact⟨j,i,m,l,h,e2,e1,D.sym⟩
  ·subst h
   rw[e1]at e2
   cases e2
   exact absurd (by unfold crL;grind) cr0
  ·exact⟨i,j,l,m,h,e1,e2,D⟩
 ·rintro⟨i,j,l,m,_,e1,e2,D⟩
  obtain⟨s,c,ms,c0,a1,a2,a3⟩:=ix e1 D.one
  obtain⟨t,d,mt,d0,b1,b2,b3⟩:=ix e2 D.two
  refine⟨(C4 ls z).mpr D.lets,tri s,tri t,Hm.mpr ⟨s,ms,rfl⟩,Hm.mpr ⟨t,mt,rfl⟩,?_,a3,b3⟩
  unfold ve
  rw[a1,a2,b1,b2]
  intro e
  have:c*(d*crL l m)=0:=by unfold crL;grind
  rcases Im.mp this with h|h
  ·exact c0 h
  ·rcases Im.mp h with h|h
   ·exact d0 h
   ·exact D.cr h
theorem gw{ls:List T3}{v w x:Zr}(hv:m9 ls v.1 v.2=true)(hw:m9 ls w.1 w.2=true)(hx:Ext (fun z=>m9 ls z.1 z.2=true) x){t:Rat}(t0:0<t)(t1:t<1)(e1:x.1=v.1+t*(w.1 - v.1))(e2:x.2=v.2+t*(w.2 - v.2)):v=w:=by
 have seg:∀ r:Rat,0≤r→r≤1→m9 ls (v.1+r*(w.1 - v.1)) (v.2+r*(w.2 - v.2))=true:=fun r r0 r1=>by
  rw[cc]at hv hw ⊢
  intro l hl
  obtain⟨a1,a2⟩:=hv l hl
  obtain⟨b1,b2⟩:=hw l hl
  have e:l.1*(v.1+r*(w.1 - v.1))+l.2.1*(v.2+r*(w.2 - v.2))=(1 - r)*(l.1*v.1+l.2.1*v.2)+r*(l.1*w.1+l.2.1*w.2):=by grind
  have p1:(1 - r)*(l.1*v.1+l.2.1*v.2)≤(1 - r)*l.2.2:=Ip a1 (by grind)
  have p2:r*(l.1*w.1+l.2.1*w.2)≤r*l.2.2:=Ip b1 r0
  have p3:(1 - r) * -(l.1*v.1+l.2.1*v.2)≤(1 - r)*l.2.2:=Ip a2 (by grind)
  have p4:r * -(l.1*w.1+l.2.1*w.2)≤r*l.2.2:=Ip b2 r0
  rw[e]
  exact⟨by grind,by grind⟩
 obtain⟨ep,ep0,h1,h2⟩:∃ ep:Rat,0<ep∧t+ep≤1∧0≤t - ep:=by
  by_cases c:t≤1 - t
  ·exact⟨t,t0,by grind,by grind⟩
  ·exact⟨1 - t,by grind,by grind,by grind⟩
 have q1:=seg (t+ep) (by grind) h1
 have q2:=seg (t - ep) h2 (by grind)
 have:=hx.no (ep*(w.1 - v.1),ep*(w.2 - v.2)) (by
  show m9 ls (x.1+1*(ep*(w.1 - v.1))) (x.2+1*(ep*(w.2 - v.2)))=true
  rw[e1,e2]
  have a:v.1+t*(w.1 - v.1)+1*(ep*(w.1 - v.1))=v.1+(t+ep)*(w.1 - v.1):=by grind
  have b:v.2+t*(w.2 - v.2)+1*(ep*(w.2 - v.2))=v.2+(t+ep)*(w.2 - v.2):=by grind
  rw[a,b];exact q1) (by
  show m9 ls (x.1 + -1*(ep*(w.1 - v.1))) (x.2 + -1*(ep*(w.2 - v.2)))=true
  rw[e1,e2]
  have a:v.1+t*(w.1 - v.1) + -1*(ep*(w.1 - v.1))=v.1+(t - ep)*(w.1 - v.1):=by grind
  have b:v.2+t*(w.2 - v.2) + -1*(ep*(w.2 - v.2))=v.2+(t - ep)*(w.2 - v.2):=by grind
  rw[a,b];exact q2)
 have z1:ep*(w.1 - v.1)=0:=this.1
 have z2:ep*(w.2 - v.2)=0:=this.2
 have y1:=(Im.mp z1).resolve_left (by grind)
 have y2:=(Im.mp z2).resolve_left (by grind)
 exact Prod.ext (by grind) (by grind)
theorem lj{ls:List T3}(hok:∀ l∈ls,LineOk l){cs:List Zr}(e:F0 ls=some cs){i:Nat}{x:Zr}(hx:x∈cs)(n1:x≠nth cs i)(n2:x≠nth cs (i+1)):0<J6 (nth cs i) (nth cs (i+1)) x:=by
 obtain⟨C,_⟩:=cE hok e
 have P:=vU hok e
 have mv:=A4 C.ne i
 have mw:=A4 C.ne (i+1)
 have nn:nth cs i≠nth cs (i+1):=fun z=>by
  have:=C.chn.cr i
  rw[← z]at this
  unfold cr at this
  grind
 have ex:∀ z∈cs,Ext (fun z=>m9 ls z.1 z.2=true) z:=fun z hz=>by
  have:=(lr (N8 hok)).mp ((C.mem z).mp hz)
  exact⟨(C4 ls z).mp this.on,fun d a b=>this.no d ((C4 ls _).mpr a) ((C4 ls _).mpr b)⟩
 have ge:=(P.ins x).mp (P.on x hx) i
 refine Classical.byContradiction fun hc=>?_
 have z0:J6 (nth cs i) (nth cs (i+1)) x=0:=by grind
 have lv:=P.on _ mv
 have lw:=P.on _ mw
 have lx:=P.on _ hx
 have exv:=ex _ mv
 have exw:=ex _ mw
 have exx:=ex _ hx
 generalize nth cs i=v at *
 generalize nth cs (i+1)=w at *
 unfold J6 at z0
 obtain⟨t,t1,t2⟩:∃ t:Rat,x.1=v.1+t*(w.1 - v.1)∧x.2=v.2+t*(w.2 - v.2):=by
  by_cases c:w.1 - v.1=0
  ·have d:w.2 - v.2≠0:=fun z=>nn (Prod.ext (by grind) (by grind))
   have i1:(w.2 - v.2)*(w.2 - v.2)⁻¹=1:=Jh _ d
   refine⟨(x.2 - v.2)*(w.2 - v.2)⁻¹,?_,?_⟩
   ·have:(w.2 - v.2)*(x.1 - v.1)=0:=by rw[c]at z0;grind
    have:=(Im.mp this).resolve_left d
    rw[c];grind
   ·have:(x.2 - v.2)*(w.2 - v.2)⁻¹*(w.2 - v.2)=(x.2 - v.2)*((w.2 - v.2)*(w.2 - v.2)⁻¹):=by grind
    rw[this,i1];grind
  ·have i1:(w.1 - v.1)*(w.1 - v.1)⁻¹=1:=Jh _ c
   refine⟨(x.1 - v.1)*(w.1 - v.1)⁻¹,?_,?_⟩
   ·have:(x.1 - v.1)*(w.1 - v.1)⁻¹*(w.1 - v.1)=(x.1 - v.1)*((w.1 - v.1)*(w.1 - v.1)⁻¹):=by grind
    rw[this,i1];grind
   ·have e1:(w.2 - v.2)*(x.1 - v.1)=(w.1 - v.1)*(x.2 - v.2):=by grind
    have:(x.1 - v.1)*(w.1 - v.1)⁻¹*(w.2 - v.2)=((w.2 - v.2)*(x.1 - v.1))*(w.1 - v.1)⁻¹:=by grind
    rw[this,e1]
    have:(w.1 - v.1)*(x.2 - v.2)*(w.1 - v.1)⁻¹=(x.2 - v.2)*((w.1 - v.1)*(w.1 - v.1)⁻¹):=by grind
    rw[this,i1];grind
 have tne0:t≠0:=fun z=>n1 (Prod.ext (by rw[t1,z];grind) (by rw[t2,z];grind))
 have tne1:t≠1:=fun z=>n2 (Prod.ext (by rw[t1,z];grind) (by rw[t2,z];grind))
 by_cases c0:t<0
 ·
  have k0:1 - t≠0:=by grind
  have i1:(1 - t)*(1 - t)⁻¹=1:=Jh _ k0
  have kp:0<(1 - t)⁻¹:=Rat.inv_pos.mpr (by grind)
  refine n2 (gw (v:=x) (w:=w) lx lw exv (t:=1 - (1 - t)⁻¹) ?_ (by grind) ?_ ?_)
  ·have h1:(1 - t)⁻¹*(1 - t)=1:=by rw[IP];exact i1
   have h2:0<(1 - t)⁻¹*(-t):=Ij kp (by grind)
   grind
  ·rw[t1]
   generalize (1 - t)⁻¹=k at *
   have:v.1+t*(w.1 - v.1)+(1 - k)*(w.1 - (v.1+t*(w.1 - v.1)))=w.1+((1 - t)*k)*(v.1 - w.1):=by grind
   rw[this,i1];grind
  ·rw[t2]
   generalize (1 - t)⁻¹=k at *
   have:v.2+t*(w.2 - v.2)+(1 - k)*(w.2 - (v.2+t*(w.2 - v.2)))=w.2+((1 - t)*k)*(v.2 - w.2):=by grind
   rw[this,i1];grind
 ·by_cases c1:t<1
  ·exact nn (gw lv lw exx (t:=t) (by grind) c1 t1 t2)
  ·
   have k0:t≠0:=by grind
   have i1:t*t⁻¹=1:=Jh _ k0
   have kp:0<t⁻¹:=Rat.inv_pos.mpr (by grind)
   have kl:t⁻¹<1:=by
    have h2:0<t⁻¹*(t - 1):=Ij kp (by grind)
    have h1:t⁻¹*t=1:=by rw[IP];exact i1
    grind
   refine n1 (gw (v:=v) (w:=x) lv lx exw (t:=t⁻¹) kp kl ?_ ?_).symm
   ·rw[t1]
    have:v.1+t⁻¹*(v.1+t*(w.1 - v.1) - v.1)=v.1+(t*t⁻¹)*(w.1 - v.1):=by grind
    rw[this,i1];grind
   ·rw[t2]
    have:v.2+t⁻¹*(v.2+t*(w.2 - v.2) - v.2)=v.2+(t*t⁻¹)*(w.2 - v.2):=by grind
    rw[this,i1];grind
structure D8(kvs:DPs)(S:Zr→Prop):Prop where
 ok:Z6 kvs
 nd:(kvs.map (·.1)).Nodup
 all:∀ k∈kvs.map (·.1),∃ z,k=zk z
 mem:∀ z,zk z∈kvs.map (·.1)↔S z
theorem D8.nil:D8 [] fun _=>False:=⟨(fun _ h=>nomatch h),LK,(fun _ h=>nomatch h),fun z=>⟨(fun h=>nomatch h),fun h=>h.elim⟩⟩
theorem D8.congr{kvs:DPs}{S T:Zr→Prop}(h:D8 kvs S)(e:∀ z,S z↔T z):D8 kvs T:=⟨h.ok,h.nd,h.all,fun z=>(h.mem z).trans (e z)⟩
theorem gK{kvs:DPs}{k:j7}:(kvs.any fun x=>decide (x.1=k))=true↔k∈kvs.map (·.1):=by
 rw[List.any_eq_true,Hm]
 constructor
 ·rintro⟨x,hx,e⟩;exact⟨x,hx,of_decide_eq_true e⟩
 ·rintro⟨x,hx,e⟩;exact⟨x,hx,decide_eq_true e⟩
theorem rE(kvs:DPs)(k:j7)(v:D):(aw kvs k v).map (·.1)=if k∈kvs.map (·.1)then kvs.map (·.1)else kvs.map (·.1)++[k]:=by
 unfold aw
 by_cases c:(kvs.any fun x=>decide (x.1=k))=true
 ·rw[if_pos c,if_pos (gK.mp c),IF]
  refine List.map_congr_left fun x _=>?_
  show(if x.1=k then(x.1,x.2.1,v)else x).1=x.1
  by_cases e:x.1=k
  ·rw[if_pos e]
  ·rw[if_neg e]
 ·rw[if_neg c,if_neg (fun z=>c (gK.mpr z)),Hw];rfl
theorem mY(kvs:DPs)(k:j7)(v:D):(aw kvs k v).length≤kvs.length+1:=by
 unfold aw
 split
 ·rw[Hk];omega
 ·rw[HE,Jq];exact Hy _
theorem D8.put{kvs:DPs}{S:Zr→Prop}(h:D8 kvs S)(z:Zr)(v:D):D8 (aw kvs (zk z) v) (fun w=>S w∨w=z):=by
 have pk:=rE kvs (zk z) v
 refine⟨kT h.ok _ _,?_,?_,fun w=>?_⟩
 ·rw[pk]
  split
  ·exact h.nd
  ·rename_i c
   rw[List.nodup_append]
   refine⟨h.nd,by simp,fun x hx y hy e=>?_⟩
   rw[HP.mp hy]at e
   exact c (e▸hx)
 ·rw[pk]
  split
  ·exact h.all
  ·intro k hk
   rcases HH.mp hk with hk|hk
   ·exact h.all k hk
   ·exact⟨z,HP.mp hk⟩
 ·rw[pk]
  split
  ·rename_i c
   rw[h.mem]
   constructor
   ·exact .inl
   ·rintro(q|rfl)
    ·exact q
    ·exact(h.mem _).mp c
  ·rw[HH,h.mem,HP]
   constructor
   ·rintro(q|q)
    ·exact .inl q
    ·exact .inr (oZ q)
   ·rintro(q|rfl)
    ·exact .inl q
    ·exact .inr rfl
theorem D8.len{kvs:DPs}{cs:List Zr}(h:D8 kvs fun z=>z∈cs)(nd:cs.Nodup):cs.length=kvs.length:=by
 have p:(cs.map zk).Perm (kvs.map (·.1)):=(List.perm_ext_iff_of_nodup (List.pairwise_map.mpr (nd.imp fun h e=>h (oZ e))) h.nd).mpr fun k=>by
  constructor
  ·intro hk
   obtain⟨z,hz,rfl⟩:=Hm.mp hk
   exact(h.mem z).mpr hz
  ·intro hk
   obtain⟨z,rfl⟩:=h.all k hk
   exact Hm.mpr ⟨z,(h.mem z).mp hk,rfl⟩
 have:=p.length_eq
 rwa [Hk,Hk]at this
def SK(ls:List T3)(k:Nat)(z:Zr):Prop:=∃(i j:Nat) (l m:T3),i<k∧j<i∧ls[i]? = some l∧ls[j]? = some m∧dg ls l m z
def SJ(ls:List T3)(k:Nat)(l:T3)(j:Nat)(z:Zr):Prop:=SK ls k z ∨ ∃(i:Nat) (m:T3),i<j∧ls[i]? = some m∧dg ls l m z
noncomputable def sgQ:Nat→Rat
 | 0=>1
 | _=>-1
def SS(ls:List T3)(k:Nat)(l m:T3)(j t:Nat)(z:Zr):Prop:=SJ ls k l j z ∨ ∃ i,i<t∧m9 ls (mtZ l m l.2.2 (m.2.2*sgQ i)).1 (mtZ l m l.2.2 (m.2.2*sgQ i)).2=true∧(z=mtZ l m l.2.2 (m.2.2*sgQ i)∨z=ngZ (mtZ l m l.2.2 (m.2.2*sgQ i)))
theorem vz(ls:List T3)(z:Zr):False↔SK ls 0 z:=⟨fun h=>h.elim,fun⟨_,_,_,_,h,_⟩=>absurd h (IQ _)⟩
theorem vC(ls:List T3)(k:Nat)(l:T3)(z:Zr):SK ls k z↔SJ ls k l 0 z:=⟨.inl,fun h=>h.elim id fun⟨_,_,h,_⟩=>absurd h (IQ _)⟩
theorem mP{ls:List T3}{k j:Nat}{l m:T3}(hm:ls[j]? = some m)(z:Zr):(SJ ls k l j z∨dg ls l m z)↔SJ ls k l (j+1) z:=by
 constructor
 ·rintro((h|⟨i,m',h1,h2,h3⟩)|h)
  ·exact .inl h
  ·exact .inr ⟨i,m',by omega,h2,h3⟩
  ·exact .inr ⟨j,m,by omega,hm,h⟩
 ·rintro(h|⟨i,m',h1,h2,h3⟩)
  ·exact .inl (.inl h)
  ·rcases Ji (JP.mp h1)with c|rfl
   ·exact .inl (.inr ⟨i,m',c,h2,h3⟩)
   ·rw[hm]at h2;cases h2
    exact .inr h3
theorem vB{ls:List T3}{k:Nat}{l:T3}(hl:ls[k]? = some l)(z:Zr):SJ ls k l k z↔SK ls (k+1) z:=by
 constructor
 ·rintro(⟨i,j,a,b,h1,h2⟩|⟨i,m,h1,h2,h3⟩)
  ·exact⟨i,j,a,b,by omega,h2⟩
  ·exact⟨k,i,l,m,by omega,h1,hl,h2,h3⟩
 ·rintro⟨i,j,a,b,h1,h2,h3,h4,h5⟩
  rcases Ji (JP.mp h1)with c|rfl
  ·exact .inl ⟨i,j,a,b,c,h2,h3,h4,h5⟩
  ·rw[hl]at h3;cases h3
   exact .inr ⟨j,b,h2,h4,h5⟩
theorem zJ(ls:List T3)(z:Zr):SK ls ls.length z↔nV ls z:=by
 constructor
 ·rintro⟨i,j,l,m,_,h2,h3,h4,h5⟩;exact⟨i,j,l,m,h2,h3,h4,h5⟩
 ·rintro⟨i,j,l,m,h2,h3,h4,h5⟩;exact⟨i,j,l,m,(HN.mp h3).1,h2,h3,h4,h5⟩
theorem vy(ls:List T3)(k:Nat)(l m:T3)(j:Nat)(z:Zr):SJ ls k l j z↔SS ls k l m j 0 z:=⟨.inl,fun h=>h.elim id fun⟨_,h,_⟩=>absurd h (IQ _)⟩
theorem CD{ls:List T3}{k j t:Nat}{l m:T3}(h:¬ m9 ls (mtZ l m l.2.2 (m.2.2*sgQ t)).1 (mtZ l m l.2.2 (m.2.2*sgQ t)).2=true)(z:Zr):SS ls k l m j t z↔SS ls k l m j (t+1) z:=by
 constructor
 ·rintro(q|⟨i,h1,h2⟩)
  ·exact .inl q
  ·exact .inr ⟨i,by omega,h2⟩
 ·rintro(q|⟨i,h1,h2⟩)
  ·exact .inl q
  ·rcases Ji (JP.mp h1)with c|rfl
   ·exact .inr ⟨i,c,h2⟩
   ·exact absurd h2.1 h
theorem zG{ls:List T3}{k j t:Nat}{l m:T3}(h:m9 ls (mtZ l m l.2.2 (m.2.2*sgQ t)).1 (mtZ l m l.2.2 (m.2.2*sgQ t)).2=true)(z:Zr):((SS ls k l m j t z∨z=mtZ l m l.2.2 (m.2.2*sgQ t))∨z=ngZ (mtZ l m l.2.2 (m.2.2*sgQ t)))↔SS ls k l m j (t+1) z:=by
 constructor
 ·rintro((((q|⟨i,h1,h2⟩))|q)|q)
  ·exact .inl q
  ·exact .inr ⟨i,by omega,h2⟩
  ·exact .inr ⟨t,by omega,h,.inl q⟩
  ·exact .inr ⟨t,by omega,h,.inr q⟩
 ·rintro(q|⟨i,h1,h2,h3⟩)
  ·exact .inl (.inl (.inl q))
  ·rcases Ji (JP.mp h1)with c|rfl
   ·exact .inl (.inl (.inr ⟨i,c,h2,h3⟩))
   ·rcases h3 with h3|h3
    ·exact .inl (.inr h3)
    ·exact .inr h3
theorem zH{ls:List T3}{k j:Nat}{l m:T3}(h:crL l m≠0)(z:Zr):SS ls k l m j 2 z↔(SJ ls k l j z∨dg ls l m z):=by
 rw[AZ h]
 constructor
 ·rintro(q|⟨i,h1,h2⟩)
  ·exact .inl q
  ·right
   rcases(show i=0∨i=1 by omega)with rfl|rfl
   ·exact⟨1,.inl rfl,h2⟩
   ·exact⟨-1,.inr rfl,h2⟩
 ·rintro(q|⟨s,hs,h2⟩)
  ·exact .inl q
  ·right
   rcases hs with rfl|rfl
   ·exact⟨0,by decide,h2⟩
   ·exact⟨1,by decide,h2⟩
theorem vD{ls:List T3}{k j:Nat}{l m:T3}(hm:ls[j]? = some m)(h:¬ crL l m≠0)(z:Zr):SJ ls k l j z↔SJ ls k l (j+1) z:=by
 rw[← mP hm]
 exact⟨.inl,fun q=>q.elim id fun D=>absurd D.cr h⟩
def xf(ls:List T3)(M:Mem)(R:DK):Prop:=match F0 ls with
 | none=>R .non M
 | some cs=>∀ p,M p=none→R (.ref p) (j9 M p (.lst (cs.map rD)))
structure Z23(a b:Rat)(l m:T3):Prop where
 l:LSz 262 l
 m:LSz 262 m
 a:sz a≤262
 b:sz b≤262
theorem yq{l m:T3}{a b:Rat}(h:Z23 a b l m)(hc:crL l m≠0):sz (crL l m)≤1049∧sz (1 / crL l m)≤1050∧sz (a*m.2.1)≤524∧sz (l.2.1*b)≤524∧sz (l.1*b)≤524∧sz (a*m.1)≤524∧sz (a*m.2.1 - l.2.1*b)≤1049∧sz (l.1*b - a*m.1)≤1049∧sz (mtZ l m a b).1≤2100∧sz (mtZ l m a b).2≤2100:=by
 obtain⟨⟨l1,l2,l3⟩,⟨m1,m2,m3⟩,ha,hb⟩:=h
 have a1:=RM.t8 l.1 m.2.1
 have a2:=RM.t8 l.2.1 m.1
 have a3:=RM.N6 (l.1*m.2.1) (l.2.1*m.1)
 have a4:=RM.zy 1 (crL l m) hc
 have a5:=RM.t8 a m.2.1
 have a6:=RM.t8 l.2.1 b
 have a7:=RM.t8 l.1 b
 have a8:=RM.t8 a m.1
 have a9:=RM.N6 (a*m.2.1) (l.2.1*b)
 have b1:=RM.N6 (l.1*b) (a*m.1)
 have b2:=RM.t8 (1 / crL l m) (a*m.2.1 - l.2.1*b)
 have b3:=RM.t8 (1 / crL l m) (l.1*b - a*m.1)
 have e1:=RM.qQ
 have c:sz (crL l m)≤1049:=by unfold crL;omega
 exact⟨c,by omega,by omega,by omega,by omega,by omega,by omega,by omega,by show sz (1 / crL l m*(a*m.2.1 - l.2.1*b))≤_;omega,by show sz (1 / crL l m*(l.1*b - a*m.1))≤_;omega⟩
theorem AR(q:Rat):Iv (q.den:Int) q.num=1 / q:=by
 rw[Rat.div_def,Rat.one_mul,Rat.inv_def]
theorem CF(q:Rat)(i:Nat):D.tup [.int (q.num*(if i=0 then 1 else -1)),.int (q.den:Int)]=e9 (q*sgQ i):=by
 cases i with
 | zero =>
  rw[if_pos rfl,Int.mul_one]
  show e9 q=e9 (q*1)
  rw[KU]
 | succ i =>
  rw[if_neg (by omega)]
  have:q.num * -1 = -q.num:=by omega
  rw[this,rC]
  show e9 (-q)=e9 (q * -1)
  congr 1;grind
theorem lA{cs:List Zr}(h:Chn cs):cs.Nodup:=by
 refine List.pairwise_iff_getElem.mpr fun i j hi hj hij=>?_
 have:=h.nd i j hij hj
 rwa [gh hi,gh hj]at this
theorem CG(q:Rat)(i:Nat):sz (q*sgQ i)=sz q:=by
 cases i with
 | zero=>show sz (q*1)=_;rw[KU]
 | succ i=>show sz (q * -1)=_;rw[show q * -1 = -q by grind,RM.F8]
theorem CH(x:Int)(i:Nat):IntMulOk x (if i=0 then 1 else -1):=by
 split
 ·exact IntMulOk.of_right (by decide)
 ·exact IntMulOk.of_right (by decide)
theorem vE{i:Nat}{d:D}(h:[D.int 1,D.int (-1)][i]? = some d):i<2∧d = .int (if i=0 then 1 else -1):=by
 match i,h with
 | 0,h=>cases h;exact⟨by decide,rfl⟩
 | 1,h=>cases h;exact⟨by decide,rfl⟩
 | i+2,h=>cases h
theorem L5{M:Mem}{ls:List T3}{i:Nat}{l:T3}(h:ls[i]? = some l):ixD M (D.vl (ls.map h8)) (.int (i:Int))=some (h8 l):=j6 (n:=i) (by rw[HK,h];rfl)
theorem lh{l m:T3}:(crL l m).num=0↔crL l m=0:=JJ
local macro_rules|`(tactic| walk_at "inj")=>`(tactic| (rename_i e h;simp only[List.cons.injEq,GM.t9,GM.p5,and_true,true_and,GM.g6,GM.g7,GM.f8,GM.g8,GM.f9,D.tup.injEq,D.ref.injEq,D.int.injEq,D.str.injEq,D.bl.injEq,D.vl.injEq,Hz,and_assoc]at e;(repeat(obtain⟨e1,e⟩:=e;subst e1));subst e;exact h))
local macro_rules|`(tactic| walk_at "injs")=>`(tactic| (rename_i e o h;rcases o with o|o<;>(subst o;first|(exfalso;simp only[D.tup.injEq,List.cons.injEq,reduceCtorEq,false_and,and_false]at e;done)|(simp only[List.cons.injEq,GM.t9,GM.p5,and_true,true_and,GM.g6,GM.g7,GM.f8,GM.g8,GM.f9,D.tup.injEq,D.ref.injEq,D.int.injEq,D.str.injEq,D.bl.injEq,D.vl.injEq,Hz,and_assoc]at e;(repeat(obtain⟨e1,e⟩:=e;subst e1));subst e;exact h))))
abbrev W3(rs:List (Rat × Rat))(M:Mem)(R:DK)(Y:DXK):Prop:=(rs≠[]∧rs.length≤100∧∀ z∈rs,xr z)∧∀ p,M p=none→R (.ref p) (j9 M p (.lst ((Y6 rs).map rD)))
def kJ:DSp:=fun ds M R Y=>∃(rs:List (Rat × Rat)),ds=[.vl (rs.map rD)]∧W3 rs M R Y
theorem ia{rs:List (Rat × Rat)}{M:Mem}{R:DK}{Y:DXK}:kJ [.vl (rs.map rD)] M R Y=(W3 rs M R Y):=propext ⟨fun z=>by obtain⟨_,_,_⟩:=z;walk_at "inj",fun h=>⟨rs,rfl,h⟩⟩
abbrev P2(ls:List T3)(M:Mem)(R:DK)(Y:DXK):Prop:=ue ls∧xf ls M R
def fG:DSp:=fun ds M R Y=>∃(x0:D) (ls:List T3),ds=[x0]∧(x0 = .vl (ls.map h8)∨x0 = .tup (ls.map h8))∧P2 ls M R Y
theorem ic{ls:List T3}{M:Mem}{R:DK}{Y:DXK}:fG [.vl (ls.map h8)] M R Y=(P2 ls M R Y):=propext ⟨fun z=>by obtain⟨_,_,_,_,_⟩:=z;walk_at "injs",fun h=>⟨_,ls,rfl,.inl rfl,h⟩⟩
theorem aZ{ls:List T3}{M:Mem}{R:DK}{Y:DXK}:fG [.tup (ls.map h8)] M R Y=(P2 ls M R Y):=propext ⟨fun z=>by obtain⟨_,_,_,_,_⟩:=z;walk_at "injs",fun h=>⟨_,ls,rfl,.inr rfl,h⟩⟩
abbrev aL(l m:T3)(M:Mem)(R:DK)(Y:DXK):Prop:=(LSz 262 l∧LSz 262 m)∧R (e9 (crL l m)) M
def mS:DSp:=fun ds M R Y=>∃(l m:T3),ds=[h8 l,h8 m]∧aL l m M R Y
theorem lR{l m:T3}{M:Mem}{R:DK}{Y:DXK}:mS [h8 l,h8 m] M R Y=(aL l m M R Y):=propext ⟨fun z=>by obtain⟨_,_,_,_⟩:=z;walk_at "inj",fun h=>⟨l,m,rfl,h⟩⟩
abbrev V8(l m:T3)(a b:Rat)(M:Mem)(R:DK)(Y:DXK):Prop:=(Z23 a b l m∧crL l m≠0)∧R (rD (mtZ l m a b)) M
def kF:DSp:=fun ds M R Y=>∃(l m:T3) (a b:Rat),ds=[h8 l,h8 m,e9 a,e9 b]∧V8 l m a b M R Y
theorem gZ{l m:T3}{a b:Rat}{M:Mem}{R:DK}{Y:DXK}:kF [h8 l,h8 m,e9 a,e9 b] M R Y=(V8 l m a b M R Y):=propext ⟨fun z=>by obtain⟨_,_,_,_,_,_⟩:=z;walk_at "inj",fun h=>⟨l,m,a,b,rfl,h⟩⟩
abbrev W4(ls:List T3)(M:Mem)(R:DK)(Y:DXK):Prop:=lH ls∧∀(p:Addr) (kvs:DPs),M p=none→D8 kvs (nV ls)→R (.ref p) (j9 M p (.dic thP kvs))
def kK:DSp:=fun ds M R Y=>∃(ls:List T3),ds=[.vl (ls.map h8)]∧W4 ls M R Y
theorem ib{ls:List T3}{M:Mem}{R:DK}{Y:DXK}:kK [.vl (ls.map h8)] M R Y=(W4 ls M R Y):=propext ⟨fun z=>by obtain⟨_,_,_⟩:=z;walk_at "inj",fun h=>⟨ls,rfl,h⟩⟩
abbrev fL(z w:Rat × Rat)(M:Mem)(R:DK)(Y:DXK):Prop:=(sz z.1≤1700∧sz z.2≤1700∧sz w.1≤1700∧sz w.2≤1700)∧R (.bl (B3 z w)) M
def zS:DSp:=fun ds M R Y=>∃(z w:Rat × Rat),ds=[rD z,rD w]∧fL z w M R Y
theorem pJ{z w:Rat × Rat}{M:Mem}{R:DK}{Y:DXK}:zS [rD z,rD w] M R Y=(fL z w M R Y):=propext ⟨fun z=>by obtain⟨_,_,_,_⟩:=z;walk_at "inj",fun h=>⟨z,w,rfl,h⟩⟩
abbrev aK(a b:Int)(M:Mem)(R:DK)(Y:DXK):Prop:=b≠0∧R (e9 (Iv a b)) M
def rf:DSp:=fun ds M R Y=>∃(a b:Int),ds=[.int a,.int b]∧aK a b M R Y
theorem lQ{a b:Int}{M:Mem}{R:DK}{Y:DXK}:rf [.int a,.int b] M R Y=(aK a b M R Y):=propext ⟨fun z=>by obtain⟨_,_,_,_⟩:=z;walk_at "inj",fun h=>⟨a,b,rfl,h⟩⟩
abbrev fF(y u z w:Rat)(M:Mem)(R:DK)(Y:DXK):Prop:=(sz y+sz w≤8900∧sz u+sz z≤8900)∧R (e9 (y*w - u*z)) M
def zP:DSp:=fun ds M R Y=>∃(y u z w:Rat),ds=[T8 y u,T8 z w]∧fF y u z w M R Y
theorem pG{y u z w:Rat}{M:Mem}{R:DK}{Y:DXK}:zP [T8 y u,T8 z w] M R Y=(fF y u z w M R Y):=propext ⟨fun z=>by obtain⟨_,_,_,_,_,_⟩:=z;walk_at "inj",fun h=>⟨y,u,z,w,rfl,h⟩⟩
abbrev fK(p:Addr)(M:Mem)(R:DK)(Y:DXK):Prop:=∃(cs:List Zr) (ls:List T3),M p=some (.lst (cs.map rD))∧lH ls∧F0 ls=some cs∧R (.bl true) M
def zR:DSp:=fun ds M R Y=>∃(p:Addr),ds=[.ref p]∧fK p M R Y
theorem pI{p:Addr}{M:Mem}{R:DK}{Y:DXK}:zR [.ref p] M R Y=(fK p M R Y):=propext ⟨fun z=>by obtain⟨_,_,_⟩:=z;walk_at "inj",fun h=>⟨p,rfl,h⟩⟩
end GM
namespace K23
open PySem PySem.Spec L2 DL GM
open RM (sz)
open PyProof.Rows hiding St
local macro_rules|`(tactic| walk_at "sim")=>do
 let f:=fun(b:Bool) (p:String) (s:String)=>((s.splitOn " ").mapM (fun s=>(let i:=Lean.mkIdent (p++s).toName;if b then `(Lean.Parser.Tactic.simpLemma| ↓$i:ident)else `(Lean.Parser.Tactic.simpLemma| $i:ident))):Lean.MacroM _)
 let a := "z_C Ck Ci Cf Cg Ce Cd Cc qg yg yi Cj xS qC qm Cn xZ xT qz xM xW qB Co qp xP qx xQ mE mj qf ml bA ik yh xR ql yj xV xU xY yb ya qr qA xO iw qk mD mF ip dR ij iq mi qw qe mh yc ye mI xK mq qi qh iu mH mG mn mB mx mz my mr qj ir mC yd yf qt qu Cm qD aa bf dE bg dD Z9 ba dB bc dA ag bq dM br dJ af bo dI bp dH ae bh dG bj dF ai bx dQ bz dP ah bt dO bu dN BQ BP BO BN BM BL BK BJ BI BH xv Cb Ca BZ BY BX BW BV BU BS BR xJ N5 N4 eO qd qc qb pZ pY pX pW pV pU pT pS pR pQ xG xF xE xD xC xB xA xy xx xw qy xX"
 let b := "ig dz lU pP pO pN pK lX lW lV lY me ma lZ pJ pI dw pH du ic aZ pG ib pF ia lT dq lS pE lR hZ hJ dm lQ hG pD gZ dk pC lP gY pB pA xI xH pz pw pv gX aY gW lO lN dj lM Z8 gT lL di gS aX lK gR gQ dh fL fK R7 fJ R6 P2 fF W4 fE W3 W2 aM aL mR fD W1 W0 R5 aK V9 V8 fw R4 ft aJ V7 P1 V6 aI dY iT iS aH R3"
 let xs:=((← f true "DL." a)++(← f true "GM." b)++(← f false "GM." b)++(← f false "DL." a)++(← f false "" "DL.vg DL.uW DL.uM DL.uG DL.vh DL.uX DL.uN DL.uH DL.vj DL.uY DL.uO DL.uI DL.vk DL.uZ DL.uP DL.uJ DL.vm DL.vb DL.uQ DL.uK DL.vn DL.vc DL.uR DL.uL DL.uu DL.uA DL.uv DL.uB DL.uw DL.uC DL.ux DL.uD DL.uy DL.uE DL.uz DL.uF GM.uS GM.uT GM.uU GM.uV DL.zq DL.zp DL.zo DL.zj DL.zi DL.zh DL.ze DL.yZ DL.yY DL.ur DL.uq DL.uo Nat.reduceAdd Nat.reduceLT Nat.reduceLeDiff JU Int.reduceLT Int.reduceLE Int.reduceEq eq_self decide_true decide_false D.int.injEq D.str.injEq beq_self_eq_true and_self true_and and_true not_true_eq_false not_false_eq_true false_implies true_implies forall_const Q0 HL IA List.cons_append LC Jd Hs List.length_nil IJ jV List.getElem?_cons_zero List.getElem?_cons_succ Option.getD_some decide_eq_true_eq decide_eq_false_iff_not Bool.not_eq_true' Bool.not_eq_false' Bool.and_self JB La Bool.xor_false Bool.false_xor Bool.true_xor IT Bool.not_false HW Bool.true_eq_false reduceIte GM.r0 GM.r1 GM.r2 GM.r4 GM.rm1 GM.rm2 GM.g6 GM.zW GM.CK GM.rC GM.zV")).toArray
 `(tactic| try simp only[$xs,*])
local macro_rules|`(tactic| walk_at "fn")=>do
 let i:=fun(s:String)=>Lean.mkIdent s.toName
 let x:=(("f cdv A outer s H E ds M R Y hr h".splitOn " ").map i).toArray
 `(tactic| (refine $(i "i9") $(i "d") $(i "sc") (by walk_at "len") (fun $x*=>?_);have $(i "hu"):ident:=$(i "hr.units")))
local macro_rules|`(tactic| walk_at "len")=>`(tactic| (intro ds M R Y h;repeat(first|exact congrArg Jj h.1|(obtain⟨_,h⟩:=h))))
local macro_rules|`(tactic| walk_at "size")=>`(tactic| first|omega|grind only[RM.t8,RM.km,RM.N6,RM.F8,RM.qQ,RM.vw,GM.qR])
local macro_rules|`(tactic| walk_at "sc")=>`(tactic| exact⟨rfl,rfl,rfl,by decide +kernel,rfl,by decide +kernel,by decide +kernel⟩)
noncomputable def top(i:Nat):Stmt:=PySem.Challenge.pw_roundglass_k23_corners_told.main.body.getD i (.Pass ⟨0,0,0,0⟩)
noncomputable abbrev K5:Stmt:=top 28
noncomputable abbrev kB:Stmt:=top 10
noncomputable abbrev T4:Stmt:=top 22
noncomputable abbrev G2:Stmt:=top 23
noncomputable abbrev T1:Stmt:=top 7
noncomputable abbrev bM:Stmt:=top 12
noncomputable abbrev Y4:Stmt:=top 5
noncomputable abbrev T2:Stmt:=top 4
noncomputable abbrev fm:Stmt:=top 6
noncomputable abbrev kz:Stmt:=top 14
noncomputable abbrev bL:Stmt:=top 20
noncomputable abbrev kA:Stmt:=top 15
noncomputable abbrev O2:Stmt:=top 18
noncomputable abbrev O3:Stmt:=top 16
noncomputable abbrev O1:Stmt:=top 17
noncomputable abbrev O0:Stmt:=top 9
noncomputable abbrev D4:Stmt:=top 8
noncomputable abbrev T0:Stmt:=top 13
noncomputable abbrev T5:Stmt:=top 19
noncomputable abbrev Y5:Stmt:=top 24
noncomputable abbrev K3:Stmt:=top 30
noncomputable abbrev K2:Stmt:=top 31
noncomputable abbrev P0:Stmt:=top 33
noncomputable abbrev F2:Stmt:=top 41
noncomputable abbrev K1:Stmt:=top 32
noncomputable abbrev A8:Stmt:=top 42
noncomputable abbrev K6:Stmt:=top 34
noncomputable abbrev K7:Stmt:=top 45
noncomputable abbrev G4:Stmt:=top 46
noncomputable abbrev O9:Stmt:=top 39
noncomputable abbrev K0:Stmt:=top 38
noncomputable abbrev O8:Stmt:=top 40
noncomputable abbrev T6:Stmt:=top 43
noncomputable abbrev T7:Stmt:=top 44
noncomputable abbrev O6:Stmt:=top 27
noncomputable abbrev O4:Stmt:=top 29
noncomputable abbrev G3:Stmt:=top 35
noncomputable abbrev O7:Stmt:=top 36
noncomputable abbrev K4:Stmt:=top 37
noncomputable abbrev O5:Stmt:=top 26
noncomputable abbrev qX:Stmt:=top 47
theorem cR:g5 ["script","bound","found","k"] ["script","bound"] (e6 K5):=by walk_at "sc"
theorem vI:g5 ["one","other"] ["one","other"] (e6 kB):=by walk_at "sc"
theorem iN:g5 ["one","other"] ["one","other"] (e6 T4):=by walk_at "sc"
theorem bI:g5 ["rays","place","number","ray"] ["rays"] (e6 G2):=by walk_at "sc"
theorem iL:g5 ["one"] ["one"] (e6 T1):=by walk_at "sc"
theorem om:g5 ["side","p","q","r","number","scale"] ["side"] (e6 bM):=by walk_at "sc"
theorem kv:g5 ["one","other"] ["one","other"] (e6 Y4):=by walk_at "sc"
theorem iM:g5 ["thing"] ["thing"] (e6 T2):=by walk_at "sc"
theorem qW:g5 ["top","bottom","share"] ["top","bottom"] (e6 fm):=by walk_at "sc"
theorem vG:g5 ["one","other"] ["one","other"] (e6 kz):=by walk_at "sc"
theorem oj:g5 ["one","other","bottom","y","u"] ["one","other"] (e6 bL):=by walk_at "sc"
theorem vH:g5 ["one","other","third"] ["one","other","third"] (e6 kA):=by walk_at "sc"
theorem fb:g5 ["sides","here","found","side","bend"] ["sides","here"] (e6 O2):=by walk_at "sc"
theorem fc:g5 ["one","other","more"] ["one","other"] (e6 O3):=by walk_at "sc"
theorem eZ:g5 ["sides","found","side"] ["sides"] (e6 O1):=by walk_at "sc"
theorem eY:g5 ["ratios","bottom"] ["ratios","bottom"] (e6 O0):=by walk_at "sc"
theorem Y3:g5 ["ratios","bottom","one"] ["ratios"] (e6 D4):=by walk_at "sc"
theorem iK:g5 ["lines","sides","number","line","scale","p","q","r","side"] ["lines"] (e6 T0):=by walk_at "sc"
theorem iP:g5 ["lines","sides","half","here"] ["lines"] (e6 T5):=by walk_at "sc"
theorem ky:g5 ["lines","half","rays"] ["lines"] (e6 Y5):=by walk_at "sc"
theorem ak:g5 ["top","bottom","one","other"] ["top","bottom"] (e6 K3):=by walk_at "sc"
theorem aj:g5 ["one","other"] ["one","other"] (e6 K2):=by walk_at "sc"
theorem fk:g5 ["one"] ["one"] (e6 P0):=by walk_at "sc"
theorem V5:g5 ["one","other"] ["one","other"] (e6 F2):=by walk_at "sc"
theorem cP:g5 ["one","other"] ["one","other"] (e6 K1):=by walk_at "sc"
theorem G0:g5 ["one","other"] ["one","other"] (e6 A8):=by walk_at "sc"
theorem cS:g5 ["one","other"] ["one","other"] (e6 K6):=by walk_at "sc"
theorem cT:g5 ["one","other"] ["one","other"] (e6 K7):=by walk_at "sc"
theorem bK:g5 ["found","k","one","other","along","third","to"] ["found"] (e6 G4):=by walk_at "sc"
theorem fj:g5 ["one"] ["one"] (e6 O9):=by walk_at "sc"
theorem cO:g5 ["p","q","ray"] ["p","q","ray"] (e6 K0):=by walk_at "sc"
theorem fi:g5 ["lines","ray","p","q","r"] ["lines","ray"] (e6 O8):=by walk_at "sc"
theorem iQ:g5 ["one","other","worth","more","under","by","y","u"] ["one","other","worth","more"] (e6 T6):=by walk_at "sc"
theorem iR:g5 ["lines","found","k","j","sign","more","ray"] ["lines"] (e6 T7):=by walk_at "sc"
theorem fg:g5 ["pool","base","digit","near","stir"] ["pool","base"] (e6 O6):=by walk_at "sc"
theorem fe:g5 ["pool","base","number","turn_v"] ["pool","base"] (e6 O4):=by walk_at "sc"
theorem bJ:g5 ["pool","pick","far"] ["pool"] (e6 G3):=by walk_at "sc"
theorem fh:g5 ["pool","p","q"] ["pool"] (e6 O7):=by walk_at "sc"
theorem cQ:g5 ["pool","most_lines","found","k","line","pick","ahead","by","one","other"] ["pool","most_lines"] (e6 K4):=by walk_at "sc"
theorem ff:g5 ["cell"] ["cell"] (e6 O5):=by walk_at "sc"
theorem zK:g5 ["script","cell","pool","lines","size_of_web","due","handed","found","kept"] ["script"] (e6 qX):=by walk_at "sc"
structure Txt(K:Hi)(mg:Str→Option Value):Prop where
 b_abs:mg "abs" = none
 b_all:mg "all" = none
 b_bool:mg "bool" = none
 b_enumerate:mg "enumerate" = none
 b_int:mg "int" = none
 b_isinstance:mg "isinstance" = none
 b_len:mg "len" = none
 b_list:mg "list" = none
 b_max:mg "max" = none
 b_min:mg "min" = none
 b_range:mg "range" = none
 b_tuple:mg "tuple" = none
 b_zip:mg "zip" = none
 sub:uc K
section
variable {P:Program} {w:World} {K:Hi} {mg:Str→Option Value} {base:Heap}
theorem cY(T:Txt K mg)(d:Df K mg "_law_cells" K5 ["script","bound"]):Fn P w K mg base "_law_cells" 1 ["script","bound"] fH:=by
 have sc:=cR
 walk_at "fn"
 obtain⟨xs,nn,rfl,ns,c,rfl,⟨c1,c5⟩,rfl,hl,k⟩:=h
 refine⟨_,(d9 (jst 2 sc.nd (sN (gp (cq rfl T.b_list aV (d5 (S2 (d6 0) J1 (I0 (d6 1))) d8)) (F5 (d5 d7 d8))) J1 (I0 (o9 (yQ rfl) rfl T.b_max tW (d5 d7 (d5 (o9 (Ej rfl) rfl T.b_min Bp (d5 (d6 1) (d5 (o9 au rfl T.b_len M0 (d5 (d6 0) d8)) d8))) d8)))))) (d9 (o8 PassesOwn.never rfl (sI rfl T.b_range (d5 (d6 1) (d5 (o9 au rfl T.b_len M0 (d5 (d6 0) d8)) d8))) (jn 3 sc.nd) (e5 (L4 (e8 A6 (e8 m8 (jx (d6 2) (e8 F3 (d6 3) (d6 1))) d7) (jx (d6 0) (d6 3))) (gk (d6 2) (e8 F3 (d6 3) (d6 1)))))) (e5 (e7 (cu (gn (d6 2))))))),?_⟩
 walk_at "sim"
 unfold dSl
 walk_at "sim"
 have l1:(ns.map D.int).length=ns.length:=Hk ..
 have e3:DL.Z4 (ns.map D.int) none (some (c:Int))=(ns.take c).map D.int:=by rw[lb,Le]
 obtain⟨m,hm,hm1,hm2⟩:∃ m:Nat,max 1 (min (c:Int) ((ns.map D.int).length:Int))=(m:Int)∧m≤c∧(c<ns.length→m=c):=⟨max 1 (min c ns.length),by rw[l1];omega,by omega,by omega⟩
 rw[e3,hm,show(ns.take c).map D.int++[D.int 0]=(ns.take c++[0]).map D.int by rw[Hw];rfl]
 refine⟨Hx (show _≤6 by rw[Hk,HS];omega) (by decide),?_⟩
 have hz:((ns.take c++[0]).take m).length≤c∧(c<ns.length→((ns.take c++[0]).take m).length=c):=by
  rw[HS,HE,HS]
  show min m (min c ns.length+1)≤c∧_
  exact⟨by omega,fun h=>by show min m (min c ns.length+1)=c;have:=hm2 h;omega⟩
 refine⟨_,rfl,fun p hp=>?_⟩
 rw[lb,← Le]
 generalize (ns.take c++[0]).take m=ms0 at *
 refine⟨by omega,?_⟩
 refine Q5.by (fun i e M'=>(∃ z3:Option D,e=[some (D.vl (ns.map D.int)),some (D.int (c:Int)),some (D.ref p),z3])∧∃ ms:List Int,ms.length=ms0.length∧M'=j9 M p (.lst (ms.map D.int))) ⟨⟨_,rfl⟩,ms0,rfl,rfl⟩ (fun i e M' _ _=>trivial) ?_ ?_
 ·rintro i dd e M' hd ⟨⟨z3,rfl⟩,ms,hml,rfl⟩
  obtain⟨hi,rfl⟩:=G7 hd
  have h3:ms.length=c:=by rw[hml];exact hz.2 (by omega)
  have hj:∃ j:Nat,((c:Int)+(i:Int)) % (c:Int)=(j:Int)∧j<c:=⟨((c+i) % c),by rw[← Int.natCast_add,Jw],Iw _ (by omega)⟩
  obtain⟨j,ej,hj⟩:=hj
  have hgj:ms[j]? = some (ms[j]'(by omega)):=Hu (by omega)
  generalize ms[j]'(by omega)=v at hgj
  have hgi:ns[c+i]? = some (ns[c+i]'(by omega)):=Hu (by omega)
  generalize ns[c+i]'(by omega)=w at hgi
  walk_at "sim"
  rw[ej]
  refine⟨by omega,_,A5 f6 (j6 (n:=j) (by rw[HK,hgj];rfl)),?_⟩
  walk_at "sim"
  refine⟨IntMulOk.of_right (by decide),?_⟩
  rw[show(c:Int)+(i:Int)=((c+i:Nat):Int)by omega]
  refine⟨_,(show ixD _ (D.vl (ns.map D.int)) _=some (D.int w)from j6 (n:=c+i) (by rw[HK,hgi];rfl)),?_⟩
  walk_at "sim"
  refine⟨by omega,xo (j:=j) f6 (by rw[Hk];omega) ⟨⟨_,rfl⟩,ms.set j (v*31+w),by rw[Lv];exact hml,?_⟩⟩
  rw[G6,List.map_set]
 ·rintro e M' ⟨⟨z3,rfl⟩,ms,hml,rfl⟩
  walk_at "sim"
  rw[eP f6,cD hp]
  exact⟨_,fun _ _ h=>h,k ms (by omega)⟩
theorem wq(T:Txt K mg)(d:Df K mg "less" kB ["one","other"]):Fn P w K mg base "less" 1 ["one","other"] ko:=by
 have sc:=vI
 refine i9 d sc (fun ds M R Y h=>?_) (fun f cdv A outer s H E ds M R Y hr h=>?_)
 ·obtain⟨q,r,rfl,_⟩:=h;rfl
 ·obtain⟨q,r,rfl,hz,k⟩:=h
  refine⟨_,(e5 (e7 (jm de (e8 m8 (jx (d6 0) d7) (jx (d6 1) d7)) (e8 m8 (jx (d6 1) d7) (jx (d6 0) d7))))),?_⟩
  refine⟨_,rfl,_,rfl,_,rfl,_,rfl,_,_,rfl,rfl,mND hz,_,rfl,_,rfl,_,rfl,_,rfl,_,_,rfl,rfl,mND (by omega),_,rfl,?_⟩
  rw[← RM.yr]at k
  exact k
theorem jk(T:Txt K mg)(d:Df K mg "is_lower" T4 ["one","other"])(Gu:Fn P w K mg base "less" 1 ["one","other"] ko):Fn P w K mg base "is_lower" 2 ["one","other"] kG:=by
 have sc:=iN
 walk_at "fn"
 obtain⟨a,b,rfl,⟨ha,hb⟩,k⟩:=h
 refine⟨_,(d9 (i5 (jtm (si hu) (jx (d6 0) d7) (jx (d6 1) d7)) (e5 (e7 (jc Gu hr (d5 (jx (d6 0) d7) (d5 (jx (d6 1) d7) d8))))) h9) (e5 (e7 (jc Gu hr (d5 (jx (d6 0) d7) (d5 (jx (d6 1) d7) d8)))))),?_⟩
 walk_at "sim"
 unfold B3 at k
 obtain⟨a1,a2⟩:=ha
 obtain⟨b1,b2⟩:=hb
 refine⟨fun z=>⟨by omega,?_⟩,fun z=>⟨by omega,?_⟩⟩
 ·rw[if_neg z]at k;exact k
 ·rw[if_pos z]at k;exact k
theorem bR(T:Txt K mg)(d:Df K mg "from_lowest" G2 ["rays"])(Gd:Fn P w K mg base "is_lower" 2 ["one","other"] kG):Fn P w K mg base "from_lowest" 3 ["rays"] kJ:=by
 have sc:=bI
 walk_at "fn"
 obtain⟨rs,rfl,⟨hne,hl,hz⟩,k⟩:=h
 refine⟨_,(d9 (jst 1 sc.nd d7) (d9 (o8 PassesOwn.never rfl (jD rfl T.b_enumerate (d5 (d6 0) d8)) (S1 (n:=2) rfl (i7 (jn 2 sc.nd) (i7 (jn 3 sc.nd) E7))) (e5 (i5 (C7 (jc Gd hr (d5 (d6 3) (d5 (jx (d6 0) (d6 1)) d8)))) (e5 (jst 1 sc.nd (d6 2))) h9))) (e5 (e7 (e8 Dk (S2 (d6 0) (I0 (d6 1)) J1) (S2 (d6 0) J1 (I0 (d6 1)))))))),?_⟩
 walk_at "sim"
 refine Q5.by (fun i e M'=>M'=M∧∃ z2 z3:Option D,e=[some (.vl (rs.map rD)),some (.int ((C9 rs i:Nat):Int)),z2,z3]) ⟨rfl,_,_,rfl⟩ (fun i e M' _ _=>by simp only[p8]) ?_ ?_
 ·rintro i dd e M' hd ⟨rfl,z2,z3,rfl⟩
  obtain⟨d,hd2,rfl⟩:=jJ hd
  rw[HK]at hd2
  cases hq:rs[i]? with
  | none=>rw[hq]at hd2;cases hd2
  | some c =>
   rw[hq]at hd2
   obtain rfl:=Option.some.inj hd2
   have hi:=(HN.mp hq).1
   have hp:=bP hne i (by omega)
   have e1:rs[C9 rs i]? = some (rs.getD (C9 rs i) (0,0)):=by rw[Hu hp];simp[hp]
   have e2:rs.getD i (0,0)=c:=by simp[hq]
   have ex:atI (rs.map rD) ((C9 rs i:Nat):Int)=some (rD (rs.getD (C9 rs i) (0,0))):=j6 (by rw[HK,e1];rfl)
   walk_at "sim"
   refine⟨_,ex,?_⟩
   walk_at "sim"
   have es:C9 rs (i+1)=if B3 c (rs.getD (C9 rs i) (0,0))=true then i else C9 rs i:=by
    show(if B3 (rs.getD i (0,0)) _=true then _ else _)=_
    rw[e2]
   rw[es]
   refine⟨⟨hz c (HG hq),hz _ (HG e1)⟩,fun z=>⟨some (.int (i:Int)),some (rD c),?_⟩,fun z=>⟨some (.int (i:Int)),some (rD c),?_⟩⟩
   ·rw[if_pos z]
   ·rw[if_neg (by rw[z];decide)]
 ·rintro e M' ⟨rfl,z2,z3,rfl⟩
  rw[E1,Hk]
  walk_at "sim"
  rw[nR,lb,← List.map_drop,← Le]
  refine⟨_,_,rfl,rfl,?_,fun p hp=>?_⟩
  ·rw[Hk,Hk]
   have h1:(rs.drop (C9 rs rs.length)).length≤rs.length:=by rw[Ia];omega
   have h2:(rs.take (C9 rs rs.length)).length≤rs.length:=by rw[HS];omega
   exact Hx (Nat.add_le_add h1 h2) (Hx (by omega:rs.length+rs.length≤1000) (by decide))
  ·rw[← Hw]
   exact k p hp
theorem ji(T:Txt K mg)(d:Df K mg "opposite" T1 ["one"]):Fn P w K mg base "opposite" 1 ["one"] bF:=by
 have sc:=iL
 refine i9 d sc (fun ds M R Y h=>?_) (fun f cdv A outer s H E ds M R Y hr h=>?_)
 ·obtain⟨q,rfl,_⟩:=h;rfl
 ·obtain⟨q,rfl,k⟩:=h
  refine⟨_,(e5 (e7 (m5 (d5 (U6 (jx (d6 0) d7)) (d5 (jx (d6 0) d7) d8))))),?_⟩
  refine⟨_,rfl,_,rfl,_,rfl,_,rfl,_,rfl,sl 2,?_⟩
  have e:e9 (-q) = .tup [.int (-q.num),.int (q.den:Int)]:=by unfold e9;rw[Kg,KJ]
  rw[e]at k
  exact k
theorem oA(T:Txt K mg)(d:Df K mg "facing" bM ["side"]):Fn P w K mg base "facing" 1 ["side"] vJ:=by
 have sc:=om
 walk_at "fn"
 obtain⟨a,rfl,k⟩:=h
 unfold sdD
 refine⟨_,(d9 (L4 (d6 0) (S1 (n:=5) rfl (i7 (jn 1 sc.nd) (i7 (jn 2 sc.nd) (i7 (jn 3 sc.nd) (i7 (jn 4 sc.nd) (i7 (jn 5 sc.nd) E7))))))) (e5 (e7 (m5 (d5 (U6 (d6 1)) (d5 (U6 (d6 2)) (d5 (d6 3) (d5 (d6 4) (d5 (U6 (d6 5)) d8))))))))),?_⟩
 walk_at "sim"
 exact k
theorem kO(T:Txt K mg)(d:Df K mg "divisor" Y4 ["one","other"]):Fn P w K mg base "divisor" 1 ["one","other"] R0:=by
 have sc:=kv
 refine i9 d sc (fun ds M R Y h=>?_) (fun f cdv A outer s H E ds M R Y hr h=>?_)
 ·obtain⟨a,b,rfl,_⟩:=h;rfl
 ·obtain⟨a,b,rfl,k⟩:=h
  refine⟨_,(d9 (S0 PassesOwn.never (jtm rZ (d6 1) d7) (e5 (L3 (i:=0) (j:=1) rfl sc.nd rfl rfl (by decide) rfl rfl (d5 (d6 1) (d5 (e8 F3 (d6 0) (d6 1)) d8))))) (e5 (e7 (d6 0)))),?_⟩
  refine⟨fun m e M'=>M'=M∧∃ u:Nat,e=[some (.int (u:Int)),some (.int (m:Int))]∧Ii u m=Ii a b,⟨b,rfl,a,rfl,rfl⟩,?_⟩
  rintro v e M' ⟨rfl,u,rfl,hg⟩
  refine⟨_,rfl,_,rfl,_,rfl,?_⟩
  refine Du (fun h0=>?_) (fun h0=>?_)
  ·have hv:0<v:=by omega
   refine⟨_,rfl,_,rfl,_,rfl,_,_,rfl,rfl,by omega,_,_,rfl,?_⟩
   exact⟨u % v,Iw _ hv,rfl,v,rfl,by rw[← RM.cA u v (by omega)];exact hg⟩
  ·have hv:v=0:=by omega
   subst hv
   rw[JV]at hg
   subst hg
   exact⟨_,rfl,k⟩
theorem jj(T:Txt K mg)(d:Df K mg "is_whole" T2 ["thing"]):Fn P w K mg base "is_whole" 1 ["thing"] mM:=by
 have sc:=iM
 refine i9 d sc (fun ds M R Y h=>?_) (fun f cdv A outer s H E ds M R Y hr h=>?_)
 ·obtain⟨n,rfl,_⟩:=h;rfl
 ·obtain⟨n,rfl,k⟩:=h
  refine⟨_,(e5 (e7 (wN (o9 (tU T.sub) rfl T.b_isinstance G5 (d5 (d6 0) (d5 (sM rfl T.b_int Bq) d8))) (wL (wM (o9 (tU T.sub) rfl T.b_isinstance G5 (d5 (d6 0) (d5 (sM rfl T.b_bool xi) d8)))))))),?_⟩
  refine⟨_,rfl,_,_,_,_,rfl,rfl,rfl,_,rfl,?_⟩
  refine Dt ?_
  exact⟨_,rfl,_,_,_,_,rfl,rfl,rfl,_,rfl,k⟩
theorem rX(T:Txt K mg)(d:Df K mg "ratio" fm ["top","bottom"])(FK:Fn P w K mg base "is_whole" 1 ["thing"] mM)(FA:Fn P w K mg base "divisor" 1 ["one","other"] R0):Fn P w K mg base "ratio" 2 ["top","bottom"] N7:=by
 have sc:=qW
 refine i9 d sc (fun ds M R Y h=>?_) (fun f cdv A outer s H E ds M R Y hr h=>?_)
 ·obtain⟨p,b,rfl,_⟩:=h;rfl
 ·obtain⟨a,b,rfl,hb,hl,k⟩:=h
  refine⟨_,(d9 (i5 (J3 (cj (Z1 (C7 (jc FK hr (d5 (d6 0) d8)))) (cj (Z1 (C7 (jc FK hr (d5 (d6 1) d8)))) (cg (jtm G8 (d6 1) d7))))) (e5 oJ) h9) (d9 (jst 2 sc.nd (jc FA hr (d5 (o9 cF rfl T.b_abs U9 (d5 (d6 0) d8)) (d5 (o9 cF rfl T.b_abs U9 (d5 (d6 1) d8)) d8)))) (d9 (i5 (jtm de (d6 1) d7) (e5 (jst 2 sc.nd (U6 (d6 2)))) h9) (e5 (e7 (m5 (d5 (e8 K9 (d6 0) (d6 2)) (d5 (e8 K9 (d6 1) (d6 2)) d8)))))))),?_⟩
  refine⟨_,rfl,_,rfl,true,rfl,?_⟩
  refine Dv ?_
  refine⟨_,rfl,_,rfl,true,rfl,?_⟩
  refine Dv ?_
  refine⟨_,rfl,_,rfl,_,rfl,?_⟩
  refine sQ (fun h=>absurd h hb) (fun _=>?_)
  refine⟨_,rfl,_,rfl,_,rfl,_,rfl,a.natAbs,b.natAbs,rfl,?_⟩
  have hn:=kW (a:=a) hb
  have hlg:=nF (a:=a) hb hl
  refine⟨_,rfl,_,rfl,_,rfl,?_⟩
  refine sQ (fun h1=>?_) (fun h1=>?_)
  ·have c1:∀ i:Int,CFd i (-((Ii a.natAbs b.natAbs:Nat):Int)):=fun i=>⟨by omega,by rw[IC];exact hlg⟩
   refine⟨_,rfl,_,rfl,_,rfl,_,rfl,_,_,rfl,rfl,c1 _,_,rfl,_,rfl,_,_,rfl,rfl,c1 _,sl 2,?_⟩
   exact R8 hb (by rw[if_pos h1]) k
  ·have c1:∀ i:Int,CFd i ((Ii a.natAbs b.natAbs:Nat):Int):=fun i=>⟨hn,hlg⟩
   refine⟨_,rfl,_,rfl,_,_,rfl,rfl,c1 _,_,rfl,_,rfl,_,_,rfl,rfl,c1 _,sl 2,?_⟩
   exact R8 hb (by rw[if_neg h1]) k
theorem wm(T:Txt K mg)(d:Df K mg "veer" kz ["one","other"]):Fn P w K mg base "veer" 1 ["one","other"] dX:=by
 have sc:=vG
 walk_at "fn"
 obtain⟨a,b,rfl,⟨ha,hb⟩,k⟩:=h
 unfold sdD
 refine⟨_,(e5 (e7 (e8 B7 (e8 m8 (jx (d6 0) d7) (jx (d6 1) d7)) (e8 m8 (jx (d6 0) d7) (jx (d6 1) d7))))),?_⟩
 walk_at "sim"
 exact⟨A7 _ _ ha.p hb.q (by decide),A7 _ _ ha.q hb.p (by decide),k⟩
theorem oz(T:Txt K mg)(d:Df K mg "met_at" bL ["one","other"])(Gk:Fn P w K mg base "ratio" 2 ["top","bottom"] N7)(Fw:Fn P w K mg base "veer" 1 ["one","other"] dX):Fn P w K mg base "met_at" 3 ["one","other"] zM:=by
 have sc:=oj
 walk_at "fn"
 obtain⟨a,b,rfl,⟨ha,hb,hv⟩,k⟩:=h
 refine⟨_,(d9 (jst 2 sc.nd (jc Fw hr (d5 (d6 0) (d5 (d6 1) d8)))) (d9 (jst 3 sc.nd (jc Gk hr (d5 (e8 B7 (e8 m8 (jx (d6 0) d7) (jx (d6 1) d7)) (e8 m8 (jx (d6 1) d7) (jx (d6 0) d7))) (d5 (d6 2) d8)))) (d9 (jst 4 sc.nd (jc Gk hr (d5 (e8 B7 (e8 m8 (jx (d6 0) d7) (jx (d6 1) d7)) (e8 m8 (jx (d6 1) d7) (jx (d6 0) d7))) (d5 (d6 2) d8)))) (e5 (e7 (m5 (d5 (d6 3) (d5 (d6 4) d8)))))))),?_⟩
 walk_at "sim"
 have lv:(veZ a b).natAbs.log2<9000:=Ho (U4 (ha.ve hb) (by decide)) (by decide)
 refine⟨⟨ha,hb⟩,A7 _ _ ha.r hb.q (by decide),A7 _ _ hb.r ha.q (by decide),hv,lv,A7 _ _ ha.p hb.r (by decide),A7 _ _ hb.p ha.r (by decide),hv,lv,?_⟩
 rw[← rn]at k
 exact k
theorem wo(T:Txt K mg)(d:Df K mg "turn" kA ["one","other","third"])(Fw:Fn P w K mg base "veer" 1 ["one","other"] dX):Fn P w K mg base "turn" 2 ["one","other","third"] qY:=by
 have sc:=vH
 walk_at "fn"
 obtain⟨a,b,c,rfl,⟨ha,hb,hc⟩,k⟩:=h
 refine⟨_,(e5 (e7 (e8 A6 (e8 B7 (e8 m8 (jx (d6 0) d7) (jc Fw hr (d5 (d6 1) (d5 (d6 2) d8)))) (e8 m8 (jx (d6 1) d7) (jc Fw hr (d5 (d6 0) (d5 (d6 2) d8))))) (e8 m8 (jx (d6 2) d7) (jc Fw hr (d5 (d6 0) (d5 (d6 1) d8))))))),?_⟩
 walk_at "sim"
 have v1:=ha.ve hb
 have v2:=ha.ve hc
 have v3:=hb.ve hc
 exact⟨⟨hb,hc⟩,A7 _ _ ha.r v3 (by decide),⟨ha,hc⟩,A7 _ _ hb.r v2 (by decide),⟨ha,hb⟩,A7 _ _ hc.r v1 (by decide),k⟩
theorem fR(T:Txt K mg)(d:Df K mg "next_side" O2 ["sides","here"])(Fw:Fn P w K mg base "veer" 1 ["one","other"] dX)(GO:Fn P w K mg base "turn" 2 ["one","other","third"] qY):Fn P w K mg base "next_side" 3 ["sides","here"] zL:=by
 have sc:=fb
 walk_at "fn"
 obtain⟨ss,g,rfl,⟨hg,hz⟩,k⟩:=h
 refine⟨_,(d9 (jst 2 sc.nd cm) (d9 (o8 PassesOwn.never rfl (C6 (d6 0)) (jn 3 sc.nd) (e5 (i5 (jtm bW (jc Fw hr (d5 (d6 1) (d5 (d6 3) d8))) d7) (d9 (jst 4 sc.nd (sO (jtm EL (d6 2) cm) (U6 d7) (jc GO hr (d5 (d6 1) (d5 (d6 2) (d5 (d6 3) d8)))))) (e5 (i5 (J3 (cj (jtm de (d6 4) d7) (cg (J3 (P8 (jtm G8 (d6 4) d7) (F6 (jtm bW (jc Fw hr (d5 (d6 2) (d5 (d6 3) d8))) d7))))))) (e5 (jst 2 sc.nd (d6 3))) h9))) h9))) (e5 (e7 (d6 2))))),?_⟩
 walk_at "sim"
 refine Q5.by (fun i e M'=>M'=M∧(∀ f,(ss.take i).foldl (L0 g) none=some f→SzS f)∧∃ z3 z4:Option D,e=[some (.vl (ss.map sdD)),some (sdD g),some (jg ((ss.take i).foldl (L0 g) none)),z3,z4]) ⟨rfl,fun f z=>(by cases z),_,_,rfl⟩ (fun i e M' _ h=>by rw[h.1];simp only[p8]) ?_ ?_
 ·rintro i dd e M' hd ⟨rfl,hf,z3,z4,rfl⟩
  rw[HK]at hd
  cases hq:ss[i]? with
  | none=>rw[hq]at hd;cases hd
  | some t =>
   rw[hq]at hd
   obtain rfl:=Option.some.inj hd
   have ht:=hz t (HG hq)
   have e1:(ss.take (i+1)).foldl (L0 g) none=L0 g ((ss.take i).foldl (L0 g) none) t:=by
    rw[Kd,hq,Ke];rfl
   rw[e1]
   generalize (ss.take i).foldl (L0 g) none=f at *
   walk_at "sim"
   refine⟨⟨hg,ht⟩,fun z=>?_,fun z=>?_⟩
   ·cases f with
    | none =>
     have en:L0 g none t=some t:=by unfold L0;rw[if_pos z];rfl
     rw[en,show jg none=D.non from rfl,qv (b:=true) rfl]
     walk_at "sim"
     refine⟨fun f' hf'=>by cases hf';exact ht,_,_,rfl⟩
    | some f =>
     have hff:=hf f rfl
     rw[show jg (some f)=sdD f from rfl,qv (b:=false) rfl]
     walk_at "sim"
     refine⟨⟨hg,hff,ht⟩,?_⟩
     have en:∀ b:Bool,xl g (some f) t=b→L0 g (some f) t=if b=true then some t else some f:=fun b hb=>by unfold L0;rw[if_pos z,hb]
     have done:∀ b:Bool,xl g (some f) t=b→(∀ f',L0 g (some f) t=some f'→SzS f')∧jg (L0 g (some f) t)=if b=true then sdD t else sdD f:=fun b hb=>by
      rw[en b hb]
      cases b with
      | true=>exact⟨fun f' h=>by cases h;exact ht,rfl⟩
      | false=>exact⟨fun f' h=>by cases h;exact hff,rfl⟩
     refine⟨fun z1=>?_,fun z1=>⟨fun z2=>⟨⟨hff,ht⟩,fun z3=>?_,fun z3=>?_⟩,fun z2=>?_⟩⟩
     ·obtain⟨q1,q2⟩:=done true (by show(decide _ || _)=true;rw[decide_eq_true z1];rfl)
      exact⟨q1,some (sdD t),some (.int (tnZ g f t)),by rw[q2];rfl⟩
     ·obtain⟨q1,q2⟩:=done true (by show(decide _ || (decide _ && decide _))=true;rw[decide_eq_true z2,decide_eq_true z3,Bool.or_eq_true];exact .inr rfl)
      exact⟨q1,some (sdD t),some (.int (tnZ g f t)),by rw[q2];rfl⟩
     ·obtain⟨q1,q2⟩:=done false (by show(decide _ || (decide _ && decide _))=false;rw[decide_eq_false z1,decide_eq_false z3,Bool.and_false];rfl)
      exact⟨q1,some (sdD t),some (.int (tnZ g f t)),by rw[q2];rfl⟩
     ·obtain⟨q1,q2⟩:=done false (by show(decide _ || (decide _ && decide _))=false;rw[decide_eq_false z1,decide_eq_false z2];rfl)
      exact⟨q1,some (sdD t),some (.int (tnZ g f t)),by rw[q2];rfl⟩
   ·have en:L0 g f t=f:=by unfold L0;rw[if_neg z]
    rw[en]
    exact⟨hf,_,_,rfl⟩
 ·rintro e M' ⟨rfl,hf,z3,z4,rfl⟩
  walk_at "sim"
  rw[Hk,Ju]
  exact k
theorem fT(T:Txt K mg)(d:Df K mg "juts_more" O3 ["one","other"]):Fn P w K mg base "juts_more" 1 ["one","other"] rj:=by
 have sc:=fc
 walk_at "fn"
 obtain⟨a,b,rfl,⟨ha,hb⟩,k⟩:=h
 refine⟨_,(d9 (jst 2 sc.nd (e8 B7 (e8 m8 (jx (d6 0) d7) (jx (d6 1) d7)) (e8 m8 (jx (d6 1) d7) (jx (d6 0) d7)))) (d9 (i5 (jtm G8 (d6 2) d7) (e5 (jst 2 sc.nd (e8 B7 (e8 m8 (jx (d6 0) d7) (jx (d6 1) d7)) (e8 m8 (jx (d6 1) d7) (jx (d6 0) d7))))) h9) (e5 (e7 (jm bW (d6 2) d7))))),?_⟩
 walk_at "sim"
 refine⟨A7 _ _ ha.p hb.r (by decide),A7 _ _ hb.p ha.r (by decide),fun z=>⟨A7 _ _ ha.q hb.r (by decide),A7 _ _ hb.q ha.r (by decide),?_⟩,fun z=>?_⟩
 ·unfold B4 at k
  rw[if_pos z]at k
  exact k
 ·unfold B4 at k
  rw[if_neg z]at k
  exact k
theorem fQ(T:Txt K mg)(d:Df K mg "outermost" O1 ["sides"])(FU:Fn P w K mg base "juts_more" 1 ["one","other"] rj):Fn P w K mg base "outermost" 2 ["sides"] qZ:=by
 have sc:=eZ
 walk_at "fn"
 obtain⟨ss,rfl,⟨s,r,e⟩,hz,k⟩:=h
 have e0:ss.headD (0,0,0,0,0)=s:=by rw[e];rfl
 rw[e0]at k
 refine⟨_,(d9 (jst 1 sc.nd (jx (d6 0) d7)) (d9 (o8 PassesOwn.never rfl (C6 (d6 0)) (jn 2 sc.nd) (e5 (i5 (C7 (jc FU hr (d5 (d6 2) (d5 (d6 1) d8)))) (e5 (jst 1 sc.nd (d6 2))) h9))) (e5 (e7 (d6 1))))),?_⟩
 walk_at "sim"
 have ei:atI (ss.map sdD) 0=some (sdD s):=by rw[e];exact j6 (n:=0) rfl
 refine⟨_,ei,?_⟩
 have hs:SzS s:=hz s (by rw[e];exact Hq)
 refine Q5.by (fun i e M'=>M'=M∧∃ z:Option D,e=[some (.vl (ss.map sdD)),some (sdD (v6 (ss.take i) s)),z]) ⟨rfl,_,rfl⟩ (fun i e M' _ h=>by rw[h.1];simp only[p8]) ?_ ?_
 ·rintro i dd e M' hd ⟨rfl,z,rfl⟩
  rw[HK]at hd
  cases hq:ss[i]? with
  | none=>rw[hq]at hd;cases hd
  | some t =>
   rw[hq]at hd
   obtain rfl:=Option.some.inj hd
   have ht:=hz t (HG hq)
   have ho:SzS (v6 (ss.take i) s):=by
    rcases W8 (ss.take i) s with h|h
    ·rw[h];exact hs
    ·exact hz _ (KG h)
   have e1:v6 (ss.take (i+1)) s=if B4 t (v6 (ss.take i) s)=true then t else v6 (ss.take i) s:=by
    unfold v6
    rw[Kd,hq,Ke];rfl
   rw[e1]
   walk_at "sim"
   refine⟨⟨ht,ho⟩,fun z=>⟨some (sdD t),?_⟩,fun z=>⟨some (sdD t),?_⟩⟩
   ·rw[if_pos z]
   ·rw[if_neg (by rw[z];decide)]
 ·rintro e M' ⟨rfl,z,rfl⟩
  walk_at "sim"
  rw[Hk,Ju]
  exact k
theorem fP(T:Txt K mg)(d:Df K mg "tops_over" O0 ["ratios","bottom"]):Fn P w K mg base "tops_over" 1 ["ratios","bottom"] kC:=by
 have sc:=eY
 walk_at "fn"
 obtain⟨l,c,rfl,⟨hl,rfl⟩,k⟩:=h
 refine⟨_,(e5 (e7 (cw [1] ["one"] ["bottom"] rfl (by decide +kernel) rfl (by decide +kernel) (by decide +kernel) rfl (oV ⟨rfl,rfl⟩) (oV (Or.inl rfl)) (C6 (d6 0)) (fun _ _ _ _ _ _=>(jn 0 (show(["one","bottom"]:List Str).Nodup by decide +kernel))) (fun _ _ _ _ _ _=>J2) (fun _ _ _ _ _ _=>(e8 m8 (jx (d6 0) d7) (e8 K9 (d6 1) (jx (d6 0) d7))))))),?_⟩
 walk_at "sim"
 refine aW (ds:=[l.1,l.2.1,l.2.2].map e9) (by show o7 M (.tup _) _;rw[u8];rfl) ?_
 refine J8 (xs:=[l.1,l.2.1,l.2.2]) (enc:=e9) (fun q=>.int (iE q (cbL l))) (by show 3≤1000;decide) (by show o7 M (.tup _) _;rw[u8];rfl) (fun q hq Q hQ=>?_) k
 have hqs:sz q≤1300:=by
  simp only[Hr,HM,or_false]at hq
  rcases hq with rfl|rfl|rfl
  ·exact hl.p
  ·exact hl.q
  ·exact hl.r
 have d0:=q.den_pos
 have hd:q.den<2 ^ 1300:=C8 q hqs
 have ef:((cbL l:Nat):Int).fdiv (q.den:Int)=((cbL l / q.den:Nat):Int):=by rw[gu (by omega) (by omega)];rfl
 walk_at "sim"
 rw[ef]
 refine⟨⟨by omega,Ho (U4 (by rw[HF];exact hd) (by decide)) (by decide)⟩,A7 1300 3901 (gg q hqs) (by rw[HF];exact HV (JH _ _) hl.cb) (by decide),hQ⟩
theorem Y7(T:Txt K mg)(d:Df K mg "common_bottom" D4 ["ratios"])(FA:Fn P w K mg base "divisor" 1 ["one","other"] R0):Fn P w K mg base "common_bottom" 2 ["ratios"] zQ:=by
 have sc:=Y3
 walk_at "fn"
 obtain⟨l,rfl,hl,k⟩:=h
 refine⟨_,(d9 (jst 1 sc.nd d7) (d9 (o8 PassesOwn.never rfl (C6 (d6 0)) (jn 2 sc.nd) (e5 (jst 1 sc.nd (e8 m8 (e8 K9 (d6 1) (jc FA hr (d5 (d6 1) (d5 (jx (d6 2) d7) d8)))) (jx (d6 2) d7))))) (e5 (e7 (d6 1))))),?_⟩
 walk_at "sim"
 refine aW (ds:=[l.1,l.2.1,l.2.2].map e9) (by show o7 M (.tup _) _;rw[u8];rfl) ?_
 refine Q5.by (fun i e M'=>M'=M∧∃ z:Option D,e=[some (h8 l),some (.int ((([l.1,l.2.1,l.2.2].take i).foldl (fun c q=>D7 c q.den) 1:Nat):Int)),z]) ⟨rfl,_,rfl⟩ (fun i e M' _ h=>by rw[h.1];show o7 M (.tup _) _;rw[u8];rfl) ?_ ?_
 ·rintro i dd e M' hd ⟨rfl,z,rfl⟩
  rw[HK]at hd
  cases hq:[l.1,l.2.1,l.2.2][i]? with
  | none=>rw[hq]at hd;cases hd
  | some q =>
   rw[hq]at hd
   obtain rfl:=Option.some.inj hd
   have e1:([l.1,l.2.1,l.2.2].take (i+1)).foldl (fun c q=>D7 c q.den) 1=D7 (([l.1,l.2.1,l.2.2].take i).foldl (fun c q=>D7 c q.den) 1) q.den:=by
    rw[Kd,hq,Ke];rfl
   have hi:=(HN.mp hq).1
   have hqs:sz q≤1300:=by
    have:=HG hq
    simp only[Hr,HM,or_false]at this
    rcases this with rfl|rfl|rfl
    ·exact hl.p
    ·exact hl.q
    ·exact hl.r
   have hc:0<([l.1,l.2.1,l.2.2].take i).foldl (fun c q=>D7 c q.den) 1:=by
    have:∀(xs:List Rat) (c:Nat),0<c→0<xs.foldl (fun c q=>D7 c q.den) c:=fun xs=>by
     induction xs with
     | nil=>exact fun c h=>h
     | cons x xs ih=>exact fun c h=>ih _ (by show 0<D7 c x.den;rw[aQ];exact LD h x.den_pos)
    exact this _ _ (by decide)
   have hd:q.den<2 ^ 1300:=C8 q hqs
   rw[e1]
   have hb:([l.1,l.2.1,l.2.2].take i).foldl (fun c q=>D7 c q.den) 1<2 ^ 4000:=by
    have:=gC ([l.1,l.2.1,l.2.2].take i) 1 1 (fun x hx=>hl.all x (KG hx)) (by decide)
    refine Ho this (HD (by decide) ?_)
    have:([l.1,l.2.1,l.2.2].take i).length≤3:=by rw[HS];exact Ki _ _
    omega
   generalize ([l.1,l.2.1,l.2.2].take i).foldl (fun c q=>D7 c q.den) 1=c at *
   have g0:0<Ii c q.den:=Kb _ q.den_pos
   have g1:Ii c q.den<2 ^ 1300:=HV (Nat.le_of_dvd q.den_pos (Nat.gcd_dvd_right _ _)) hd
   have ef:(c:Int).fdiv (Ii c q.den:Nat)=((c / Ii c q.den:Nat):Int):=by rw[gu (by omega) (by omega)];rfl
   walk_at "sim"
   rw[ef]
   refine⟨⟨by omega,Ho (U4 (by rw[HF];exact g1) (by decide)) (by decide)⟩,?_,some (e9 q),?_⟩
   ·exact A7 4000 1300 (by rw[HF];exact HV (JH _ _) hb) (by rw[HF];exact hd) (by decide)
   ·unfold D7
    rw[JL]
 ·rintro e M' ⟨rfl,z,rfl⟩
  walk_at "sim"
  exact k
theorem jh(T:Txt K mg)(d:Df K mg "sides_of" T0 ["lines"])(FJ:Fn P w K mg base "facing" 1 ["side"] vJ)(FV:Fn P w K mg base "tops_over" 1 ["ratios","bottom"] kC)(Fy:Fn P w K mg base "common_bottom" 2 ["ratios"] zQ):Fn P w K mg base "sides_of" 3 ["lines"] fq:=by
 have sc:=iK
 walk_at "fn"
 obtain⟨x0,ls,rfl,hx0,hok,k⟩:=h
 rcases hx0 with rfl|rfl
 all_goals
  refine⟨_,(d9 (jst 1 sc.nd (gm d8)) (d9 (o8 PassesOwn.never rfl (jD rfl T.b_enumerate (d5 (d6 0) d8)) (S1 (n:=2) rfl (i7 (jn 2 sc.nd) (i7 (jn 3 sc.nd) E7))) (d9 (jst 4 sc.nd (jc Fy hr (d5 (d6 3) d8))) (d9 (L4 (jc FV hr (d5 (d6 3) (d5 (d6 4) d8))) (sJ (n:=3) rfl (i7 (jn 5 sc.nd) (i7 (jn 6 sc.nd) (i7 (jn 7 sc.nd) E7))))) (d9 (jst 8 sc.nd (m5 (d5 (d6 5) (d5 (d6 6) (d5 (d6 7) (d5 (d6 2) (d5 (d6 4) d8))))))) (d9 (P7 (ny PySem.F.slot_list_append PySem.F.type_list_append S3 (d6 1) (d5 (d6 8) d8))) (e5 (P7 (ny PySem.F.slot_list_append PySem.F.type_list_append S3 (d6 1) (d5 (jc FJ hr (d5 (d6 8) d8)) d8))))))))) (e5 (e7 (cu (gn (d6 1))))))),?_⟩
  walk_at "sim"
  intro p hp
  refine Q5.by (fun i e M'=>M'=j9 M p (.lst ((E6 0 (ls.take i)).map sdD))∧∃ z0 z2 z3 z4 z5 z6 z7 z8:Option D,e=[z0,some (.ref p),z2,z3,z4,z5,z6,z7,z8]) ⟨rfl,_,_,_,_,_,_,_,_,rfl⟩ (fun i e M' _ _=>by simp only[p8,u8]) ?_ ?_
  ·rintro i dd e M' hd ⟨rfl,z0,z2,z3,z4,z5,z6,z7,z8,rfl⟩
   obtain⟨d,hd2,rfl⟩:=jJ hd
   obtain⟨l,hl,rfl⟩:=eA hd2
   have hm:=hok.2 l (HG hl)
   have h12:=hok.1
   have hi:=(HN.mp hl).1
   walk_at "sim"
   refine⟨hm,hm,?_⟩
   have es:D.tup [.int (h7 l 0).1,.int (h7 l 0).2.1,.int (h7 l 0).2.2.1,.int (i:Int),.int ((cbL l:Nat):Int)]=sdD (h7 l i):=rfl
   have hln:((E6 0 (ls.take i)).map sdD).length≤24:=by
    rw[Hk,aE,HS];omega
   rw[es]
   refine cI f6 (gP f6 (by omega) ?_)
   rw[G6]
   refine cI f6 ?_
   walk_at "sim"
   refine gP f6 (by rw[HE];show _+1<1000;omega) ⟨?_,_,_,_,_,_,_,_,_,rfl⟩
   rw[G6,iJ ls 0 i l hl,JU,Hw,Kc]
   rfl
  ·rintro e M' ⟨rfl,z0,z2,z3,z4,z5,z6,z7,z8,rfl⟩
   walk_at "sim"
   rw[eP f6,cD hp]
   walk_at "sim"
   rw[E1,Hk,Ju]
   exact⟨_,fun _ _ h=>h,k⟩
theorem jl(T:Txt K mg)(d:Df K mg "half_rim" T5 ["lines"])(Fw:Fn P w K mg base "veer" 1 ["one","other"] dX)(FD:Fn P w K mg base "next_side" 3 ["sides","here"] zL)(FW:Fn P w K mg base "outermost" 2 ["sides"] qZ)(Ge:Fn P w K mg base "sides_of" 3 ["lines"] fq):Fn P w K mg base "half_rim" 4 ["lines"] mT:=by
 have sc:=iP
 walk_at "fn"
 obtain⟨x0,ls,rfl,hx0,hok,k⟩:=h
 have hlo:∀ l∈ls,LineOk l:=fun l hl=>(hok.2 l hl).toLineOk
 rcases hx0 with rfl|rfl
 all_goals
  refine⟨_,(d9 (i5 (jtm G8 (o9 au rfl T.b_len M0 (d5 (d6 0) d8)) d7) (e5 (e7 (cu (F5 d8)))) h9) (d9 (jst 1 sc.nd (jc Ge hr (d5 (d6 0) d8))) (d9 (jst 2 sc.nd (gm (d5 (jc FW hr (d5 (d6 1) d8)) d8))) (d9 (jst 3 sc.nd (jc FD hr (d5 (d6 1) (d5 (jx (d6 2) d7) d8)))) (d9 (S0 PassesOwn.never (J3 (P8 (jtm nq (d6 3) cm) (F6 (jtm bW (jc Fw hr (d5 (jx (d6 2) d7) (d5 (d6 3) d8))) d7)))) (d9 (P7 (ny PySem.F.slot_list_append PySem.F.type_list_append S3 (d6 2) (d5 (d6 3) d8))) (e5 (jst 3 sc.nd (jc FD hr (d5 (d6 1) (d5 (d6 3) d8))))))) (e5 (e7 (cu (gn (d6 2)))))))))),?_⟩
  walk_at "sim"
  refine⟨fun h0=>?_,fun h0=>?_⟩
  ·have e:ls=[]:=by
    cases ls with
    | nil=>rfl
    | cons a b=>rw[Hk,Hs]at h0;omega
   subst e
   exact ug (fun _ _ h=>h) k
  ·have hp:∀ s∈f7 ls,0<s.2.2.1:=eX hlo (i:=0)
   have hz:∀ s∈f7 ls,SzS s:=Y1 hok
   have hln:=aE ls 0
   have h12:=hok.1
   obtain⟨s1,r,es⟩:∃ s r,f7 ls=s :: r:=by
    cases ls with
    | nil=>exact absurd rfl h0
    | cons a b=>exact⟨_,_,rfl⟩
   have hln:(f7 ls).length≤24:=by show(E6 0 ls).length≤24;omega
   refine⟨hok,⟨s1,r,es⟩,hz,fun p hpn=>?_⟩
   have eh:(f7 ls).headD (0,0,0,0,0)=s1:=by rw[es];rfl
   rw[eh]
   have ek:N2 (f7 ls)=v6 (f7 ls) s1 :: C1 (v6 (f7 ls) s1) (f7 ls) (f7 ls).length (A1 (v6 (f7 ls) s1) (f7 ls)):=by rw[es];rfl
   have m0:v6 (f7 ls) s1∈f7 ls:=by
    rcases W8 (f7 ls) s1 with h|h
    ·rw[h,es];exact Hq
    ·exact h
   rw[ek]at k
   generalize v6 (f7 ls) s1=h0 at *
   generalize f7 ls=ss at *
   refine⟨_,A5 f6 rfl,?_⟩
   walk_at "sim"
   refine⟨⟨hz _ m0,hz⟩,?_⟩
   refine gM (fun m e M'=>∃(pre:List Sd) (o:Option Sd) (z0:Option D),e=[z0,some (.vl (ss.map sdD)),some (.ref p),some (jg o)]∧M'=j9 M p (.lst ((h0 :: pre).map sdD))∧pre++C1 h0 ss m o=C1 h0 ss ss.length (A1 h0 ss)∧pre.length+m≤24∧(∀ f,o=some f→f∈ss)∧∀ f,o=some f→0<veZ h0 f→oR h0 ss f<m) ss.length ⟨[],A1 h0 ss,_,rfl,rfl,rfl,by simpa using hln,fun f hf=>(E4 hp hf).1,fun f hf hv=>Ho (X6 hp hf (.inl rfl) hv) (tR h0 ss h0)⟩ ?_
   rintro m e M' ⟨pre,o,z0,rfl,rfl,hr,hlm,ho,hc⟩
   have fin:C1 h0 ss m o=[]→BC (D.ref p) (j9 M p (.lst ((h0 :: pre).map sdD))) (fun x M1=>BE x M1 R):=fun hn=>by
    rw[hn,Jd]at hr
    rw[eP f6,cD hpn,hr]
    exact ug (fun _ _ h=>h) k
   cases o with
   | none =>
    rw[show jg none=D.non from rfl]
    walk_at "sim"
    rw[qv (b:=true) rfl]
    walk_at "sim"
    exact fin (by cases m<;>rfl)
   | some f =>
    have hf:=ho f rfl
    rw[show jg (some f)=sdD f from rfl]
    walk_at "sim"
    rw[qv (b:=false) rfl]
    walk_at "sim"
    refine⟨_,A5 f6 (j6 (n:=0) rfl),?_⟩
    walk_at "sim"
    refine⟨⟨hz _ m0,hz _ hf⟩,fun hv=>?_,fun hv=>?_⟩
    ·have hcm:=hc f rfl hv
     obtain⟨m,rfl⟩:∃ m',m=m'+1:=⟨m - 1,by omega⟩
     have er:C1 h0 ss (m+1) (some f)=f :: C1 h0 ss m (A1 f ss):=if_pos hv
     rw[er]at hr
     refine cI f6 (gP f6 (by rw[Hs,Hk];omega) ⟨⟨hz _ hf,hz⟩,m,Nat.lt_succ_self _,pre++[f],A1 f ss,_,rfl,?_,by rw[Kc];exact hr,by rw[HE];show pre.length+1+m≤24;omega,fun g hg=>(E4 hp hg).1,fun g hg hg2=>?_⟩)
     ·rw[G6]
      congr 2
      rw[Hw];rfl
     ·have:=X6 hp hg (.inr hv) hg2
      omega
    ·refine fin ?_
     cases m with
     | zero=>rfl
     | succ m=>exact if_neg hv
theorem kP(T:Txt K mg)(d:Df K mg "corners" Y5 ["lines"])(FF:Fn P w K mg base "from_lowest" 3 ["rays"] kJ)(FL:Fn P w K mg base "opposite" 1 ["one"] bF)(FJ:Fn P w K mg base "facing" 1 ["side"] vJ)(Gm:Fn P w K mg base "met_at" 3 ["one","other"] zM)(Gf:Fn P w K mg base "half_rim" 4 ["lines"] mT):Fn P w K mg base "corners" 5 ["lines"] fG:=by
 have sc:=ky
 walk_at "fn"
 obtain⟨x0,ls,rfl,hx0,hok,k⟩:=h
 have hlo:∀ l∈ls,LineOk l:=fun l hl=>(hok.2 l hl).toLineOk
 have hlen:=jI hlo
 rcases hx0 with rfl|rfl
 all_goals
  refine⟨_,(d9 (jst 1 sc.nd (jc Gf hr (d5 (d6 0) d8))) (d9 (i5 (jtm de (o9 au rfl T.b_len M0 (d5 (d6 1) d8)) d7) (e5 (e7 cm)) h9) (d9 (X2 (i:=2) [] ["one","other"] [] sc.nd rfl (Or.inl rfl) rfl (by decide +kernel) rfl (by decide +kernel) (by decide +kernel) rfl lB lB (wJ rfl T.b_zip (d5 (d6 1) (d5 (gp (S2 (d6 1) (I0 d7) J1) (F5 (d5 (jc FJ hr (d5 (jx (d6 1) d7) d8)) d8))) d8))) (fun _ _ _ _ _ _=>(S1 (n:=2) rfl (i7 (jn 0 (show(["one","other"]:List Str).Nodup by decide +kernel)) (i7 (jn 1 (show(["one","other"]:List Str).Nodup by decide +kernel)) E7)))) (fun _ _ _ _ _ _=>J2) (fun _ _ _ _ _ _=>(jc Gm hr (d5 (d6 0) (d5 (d6 1) d8))))) (e5 (e7 (jc FF hr (d5 (gp (d6 2) (cw [] ["y","u"] [] rfl (by decide +kernel) rfl (by decide +kernel) (by decide +kernel) rfl lB lB (C6 (d6 2)) (fun _ _ _ _ _ _=>(S1 (n:=2) rfl (i7 (jn 0 (show(["y","u"]:List Str).Nodup by decide +kernel)) (i7 (jn 1 (show(["y","u"]:List Str).Nodup by decide +kernel)) E7)))) (fun _ _ _ _ _ _=>J2) (fun _ _ _ _ _ _=>(m5 (d5 (jc FL hr (d5 (d6 0) d8)) (d5 (jc FL hr (d5 (d6 1) d8)) d8)))))) d8))))))),?_⟩
  walk_at "sim"
  refine⟨hok,fun hlt=>?_,fun hge=>?_⟩
  ·have e:F0 ls=none:=by
    unfold F0
    cases e:N2 (f7 ls)with
    | nil=>rfl
    | cons a r =>
     cases r with
     | nil=>rfl
     | cons b r=>rw[e,Hk,Hs,Hs]at hlt;omega
   unfold xf at k
   rw[e]at k
   exact k
  ·obtain⟨h0,x,l,e⟩:∃ h0 x l,N2 (f7 ls)=h0 :: x :: l:=by
    cases e:N2 (f7 ls)with
    | nil=>rw[e]at hge;exact absurd (by decide) hge
    | cons a r =>
     cases r with
     | nil=>rw[e]at hge;exact absurd (by show(1:Int)<2;decide) hge
     | cons b r=>exact⟨a,b,r,rfl⟩
   have hne:ls≠[]:=fun z=>by rw[z]at e;cases e
   obtain⟨g0,g,eg,m0,hg⟩:=J7 hlo hne
   rw[e]at eg
   injection eg with q1 q2
   subst q1;subst q2
   have hall:∀ ab∈(h0 :: x :: l).zip (x :: l++[j0 h0]),SzS ab.1∧SzS ab.2∧veZ ab.1 ab.2≠0:=fun ab hab=>by
    rcases hg with⟨z,_⟩|⟨_,_,hg⟩
    ·cases z
    ·obtain⟨a1,a2,a3⟩:=hg ab hab
     exact⟨Y1 hok _ a1,Y1 hok _ a2,by omega⟩
   have ec:F0 ls=some (Y6 (v9 h0 (x :: l)++(v9 h0 (x :: l)).map ngZ)):=by unfold F0;rw[e]
   unfold xf at k
   rw[ec]at k
   have rl:=iX h0 (x :: l)
   have h12:=hok.1
   have hrs:∀ z∈v9 h0 (x :: l),xr z:=fun z hz=>by
    obtain⟨ab,hab,rfl⟩:=Hm.mp hz
    obtain⟨a1,a2,a3⟩:=hall ab hab
    have:=yn ⟨a1.p,a1.q,a1.r⟩ ⟨a2.p,a2.q,a2.r⟩ a3
    exact⟨by have:=this.1;omega,by have:=this.2;omega⟩
   rw[e]at hlen ⊢
   rw[Hs,Hs]at hlen
   rw[HL]
   walk_at "sim"
   rw[Bi,← HL,show[sdD (j0 h0)]=[j0 h0].map sdD from rfl,← Hw,show sdD h0 :: (x :: l).map sdD=(h0 :: x :: l).map sdD from rfl,pe]
   refine⟨by rw[Hk];exact Hx (by rw[Hs];omega:(x :: l).length+1≤1000) (by decide),?_⟩
   refine J8 (xs:=(h0 :: x :: l).zip (x :: l++[j0 h0])) (enc:=fun ab=>D.tup [sdD ab.1,sdD ab.2]) (fun ab=>rD (ry (tri ab.1) (tri ab.2))) ?_ (by simp only[p8,and_self]) (fun ab hab Q hQ=>?_) ?_
   ·rw[IS,Hs,Hs];omega
   ·walk_at "sim"
    exact⟨hall ab hab,hQ⟩
   ·have er:((h0 :: x :: l).zip (x :: l++[j0 h0])).map (fun ab=>rD (ry (tri ab.1) (tri ab.2)))=(v9 h0 (x :: l)).map rD:=by unfold v9;rw[IF];rfl
    rw[er]
    walk_at "sim"
    refine J8 (xs:=v9 h0 (x :: l)) (enc:=rD) (fun z=>rD (ngZ z)) ?_ (by simp only[p8]) (fun z hz Q hQ=>?_) ?_
    ·rw[rl,Hs];omega
    ·rw[show rD z=D.tup [e9 z.1,e9 z.2]from rfl]
     walk_at "sim"
     exact hQ
    ·have er2:(v9 h0 (x :: l)).map (fun z=>rD (ngZ z))=((v9 h0 (x :: l)).map ngZ).map rD:=by rw[IF];rfl
     rw[er2]
     walk_at "sim"
     rw[← Hw]
     refine⟨?_,?_⟩
     ·rw[Hk,Hk,Hk,rl]
      exact Hx (by rw[Hs];omega:(x :: l).length+1+((x :: l).length+1)≤1000) (by decide)
     ·walk_at "sim"
      refine⟨⟨?_,?_,fun z hz=>?_⟩,k⟩
      ·intro z
       have:=congrArg Jj z
       rw[HE,rl]at this
       simp at this
      ·rw[HE,Hk,rl,Hs];omega
      ·rcases HH.mp hz with hz|hz
       ·exact hrs z hz
       ·obtain⟨y,hy,rfl⟩:=Hm.mp hz
        obtain⟨y1,y2⟩:=hrs y hy
        exact⟨by show sz (-y.1)≤_;rw[RM.F8];exact y1,by show sz (-y.2)≤_;rw[RM.F8];exact y2⟩
theorem bU(T:Txt K mg)(d:Df K mg "_law_low" K3 ["top","bottom"])(hsee:xq P base):Fn P w K mg base "_law_low" 40 ["top","bottom"] rf:=by
 have sc:=ak
 walk_at "fn"
 obtain⟨a,b,rfl,hb,k⟩:=h
 refine⟨_,(d9 (L3 (i:=2) (j:=3) rfl sc.nd rfl rfl (by decide) rfl rfl (d5 (o9 cF rfl T.b_abs U9 (d5 (d6 0) d8)) (d5 (o9 cF rfl T.b_abs U9 (d5 (d6 1) d8)) d8))) (d9 (S0 PassesOwn.never (jtm bW (d6 3) d7) (e5 (L3 (i:=2) (j:=3) rfl sc.nd rfl rfl (by decide) rfl rfl (d5 (d6 3) (d5 (e8 F3 (d6 2) (d6 3)) d8))))) (d9 (i5 (jtm de (d6 1) d7) (e5 (jst 2 sc.nd (e8 B7 d7 (d6 2)))) h9) (e5 (e7 (m5 (d5 (e8 (nr (ldv hsee hr sc)) (d6 0) (d6 2)) (d5 (e8 (nr (ldv hsee hr sc)) (d6 1) (d6 2)) d8)))))))),?_⟩
 walk_at "sim"
 refine gM (fun m e M2=>M2=M∧∃ v:Nat,e=[some (.int a),some (.int b),some (.int (v:Int)),some (.int (m:Int))]∧Ii v m=Ii a.natAbs b.natAbs) b.natAbs ⟨rfl,a.natAbs,rfl,rfl⟩ ?_
 rintro m e M2 ⟨rfl,v,rfl,hg⟩
 walk_at "sim"
 refine⟨fun h0=>⟨by omega,v % m,Iw _ (by omega),m,by rw[Jw],by rw[← hg];exact(RM.cA v m (by omega)).symm⟩,fun h0=>?_⟩
 have hm:m=0:=by omega
 subst hm
 rw[JV]at hg
 subst hg
 have hn:=kW (a:=a) hb
 refine⟨fun h1=>⟨by show(0 - ((Ii a.natAbs b.natAbs:Nat):Int))≠0;omega,by show(0 - ((Ii a.natAbs b.natAbs:Nat):Int))≠0;omega,R8 hb (by rw[if_pos h1,Ky]) k⟩,fun h1=>⟨hn,hn,R8 hb (by rw[if_neg h1]) k⟩⟩
theorem bS(T:Txt K mg)(d:Df K mg "_law_sum" K2 ["one","other"])(FG:Fn P w K mg base "_law_low" 40 ["top","bottom"] rf):Fn P w K mg base "_law_sum" 41 ["one","other"] kD:=by
 have sc:=aj
 walk_at "fn"
 obtain⟨q,r,rfl,hz,k⟩:=h
 refine⟨_,(e5 (e7 (jc FG hr (d5 (e8 A6 (e8 m8 (jx (d6 0) d7) (jx (d6 1) d7)) (e8 m8 (jx (d6 1) d7) (jx (d6 0) d7))) (d5 (e8 m8 (jx (d6 0) d7) (jx (d6 1) d7)) d8))))),?_⟩
 walk_at "sim"
 rw[← RM.lD]
 exact⟨bND hz,bND (by omega),bDD hz,IM (RM.B5 q) (RM.B5 r),k⟩
theorem gf(T:Txt K mg)(d:Df K mg "_law_back" P0 ["one"]):Fn P w K mg base "_law_back" 1 ["one"] bF:=by
 have sc:=fk
 walk_at "fn"
 obtain⟨q,rfl,k⟩:=h
 refine⟨_,(e5 (e7 (m5 (d5 (e8 B7 d7 (jx (d6 0) d7)) (d5 (jx (d6 0) d7) d8))))),?_⟩
 walk_at "sim"
 rw[Ky,rC]
 exact k
theorem ax(T:Txt K mg)(d:Df K mg "_law_less" F2 ["one","other"])(FH:Fn P w K mg base "_law_sum" 41 ["one","other"] kD)(Fs:Fn P w K mg base "_law_back" 1 ["one"] bF):Fn P w K mg base "_law_less" 42 ["one","other"] fu:=by
 have sc:=V5
 walk_at "fn"
 obtain⟨q,r,rfl,hz,k⟩:=h
 refine⟨_,(e5 (e7 (jc FH hr (d5 (d6 0) (d5 (jc Fs hr (d5 (d6 1) d8)) d8))))),?_⟩
 walk_at "sim"
 have:=RM.F8 r
 rw[show q + -r=q - r by grind]
 exact⟨by omega,k⟩
theorem jr(T:Txt K mg)(d:Df K mg "_law_low" K3 ["top","bottom"]):Fn P w K mg base "_law_low" 1 ["top","bottom"] N7:=by
 have sc:=ak
 walk_at "fn"
 obtain⟨a,b,rfl,hb,hl,k⟩:=h
 refine⟨_,(d9 (L3 (i:=2) (j:=3) rfl sc.nd rfl rfl (by decide) rfl rfl (d5 (o9 cF rfl T.b_abs U9 (d5 (d6 0) d8)) (d5 (o9 cF rfl T.b_abs U9 (d5 (d6 1) d8)) d8))) (d9 (S0 PassesOwn.never (jtm bW (d6 3) d7) (e5 (L3 (i:=2) (j:=3) rfl sc.nd rfl rfl (by decide) rfl rfl (d5 (d6 3) (d5 (e8 F3 (d6 2) (d6 3)) d8))))) (d9 (i5 (jtm de (d6 1) d7) (e5 (jst 2 sc.nd (e8 B7 d7 (d6 2)))) h9) (e5 (e7 (m5 (d5 (e8 K9 (d6 0) (d6 2)) (d5 (e8 K9 (d6 1) (d6 2)) d8)))))))),?_⟩
 walk_at "sim"
 refine gM (fun m e M2=>M2=M∧∃ v:Nat,e=[some (.int a),some (.int b),some (.int (v:Int)),some (.int (m:Int))]∧Ii v m=Ii a.natAbs b.natAbs) b.natAbs ⟨rfl,a.natAbs,rfl,rfl⟩ ?_
 rintro m e M2 ⟨rfl,v,rfl,hg⟩
 walk_at "sim"
 refine⟨fun h0=>⟨by omega,v % m,Iw _ (by omega),m,by rw[Jw],by rw[← hg];exact(RM.cA v m (by omega)).symm⟩,fun h0=>?_⟩
 have hm:m=0:=by omega
 subst hm
 rw[JV]at hg
 subst hg
 have hn:=kW (a:=a) hb
 have hlg:=nF (a:=a) hb hl
 have c1:(0 - ((Ii a.natAbs b.natAbs:Nat):Int)).natAbs.log2<9000:=by rw[Ky,IC];exact hlg
 refine⟨fun h1=>⟨⟨by omega,c1⟩,⟨by omega,c1⟩,R8 hb (by rw[if_pos h1,Ky]) k⟩,fun h1=>⟨⟨hn,hlg⟩,⟨hn,hlg⟩,R8 hb (by rw[if_neg h1]) k⟩⟩
theorem cV(T:Txt K mg)(d:Df K mg "_law_taken" K1 ["one","other"])(Fp:Fn P w K mg base "_law_low" 1 ["top","bottom"] N7):Fn P w K mg base "_law_taken" 2 ["one","other"] F1:=by
 have sc:=cP
 walk_at "fn"
 obtain⟨q,r,rfl,hz,k⟩:=h
 refine⟨_,(e5 (e7 (jc Fp hr (d5 (e8 m8 (jx (d6 0) d7) (jx (d6 1) d7)) (d5 (e8 m8 (jx (d6 0) d7) (jx (d6 1) d7)) d8))))),?_⟩
 walk_at "sim"
 rw[← RM.sr]
 exact⟨mNN hz,mDD hz,IM (RM.B5 q) (RM.B5 r),lDD hz,k⟩
theorem Y8(T:Txt K mg)(d:Df K mg "_law_cross" A8 ["one","other"])(FC:Fn P w K mg base "_law_less" 42 ["one","other"] fu)(Fm:Fn P w K mg base "_law_taken" 2 ["one","other"] F1):Fn P w K mg base "_law_cross" 43 ["one","other"] zP:=by
 have sc:=G0
 walk_at "fn"
 obtain⟨y,u,z,w,rfl,⟨h1,h2⟩,k⟩:=h
 refine⟨_,(e5 (e7 (jc FC hr (d5 (jc Fm hr (d5 (jx (d6 0) d7) (d5 (jx (d6 1) d7) d8))) (d5 (jc Fm hr (d5 (jx (d6 0) d7) (d5 (jx (d6 1) d7) d8))) d8))))),?_⟩
 walk_at "sim"
 have m1:=RM.t8 y w
 have m2:=RM.t8 u z
 exact⟨by omega,by omega,by omega,k⟩
theorem jo(T:Txt K mg)(d:Df K mg "_law_sum" K2 ["one","other"])(Fp:Fn P w K mg base "_law_low" 1 ["top","bottom"] N7):Fn P w K mg base "_law_sum" 2 ["one","other"] bE:=by
 have sc:=aj
 walk_at "fn"
 obtain⟨q,r,rfl,hz,k⟩:=h
 refine⟨_,(e5 (e7 (jc Fp hr (d5 (e8 A6 (e8 m8 (jx (d6 0) d7) (jx (d6 1) d7)) (e8 m8 (jx (d6 1) d7) (jx (d6 0) d7))) (d5 (e8 m8 (jx (d6 0) d7) (jx (d6 1) d7)) d8))))),?_⟩
 walk_at "sim"
 rw[← RM.lD]
 exact⟨mND hz,mND (by omega),mDD hz,IM (RM.B5 q) (RM.B5 r),lDD hz,k⟩
theorem fZ(T:Txt K mg)(d:Df K mg "_law_less" F2 ["one","other"])(Ft:Fn P w K mg base "_law_sum" 2 ["one","other"] bE)(Fs:Fn P w K mg base "_law_back" 1 ["one"] bF):Fn P w K mg base "_law_less" 3 ["one","other"] Q9:=by
 have sc:=V5
 walk_at "fn"
 obtain⟨q,r,rfl,hz,k⟩:=h
 refine⟨_,(e5 (e7 (jc Ft hr (d5 (d6 0) (d5 (jc Fs hr (d5 (d6 1) d8)) d8))))),?_⟩
 walk_at "sim"
 have:=RM.F8 r
 rw[show q + -r=q - r by grind]
 exact⟨by omega,k⟩
theorem cZ(T:Txt K mg)(d:Df K mg "_law_below" K6 ["one","other"]):Fn P w K mg base "_law_below" 1 ["one","other"] aN:=by
 have sc:=cS
 walk_at "fn"
 obtain⟨q,r,rfl,hz,k⟩:=h
 refine⟨_,(e5 (e7 (jm de (e8 m8 (jx (d6 0) d7) (jx (d6 1) d7)) (e8 m8 (jx (d6 1) d7) (jx (d6 0) d7))))),?_⟩
 walk_at "sim"
 rw[RM.yr]
 exact⟨A7 _ _ (Z0 q) (Q2 r) (by omega),A7 _ _ (Z0 r) (Q2 q) (by omega),k⟩
theorem dc(T:Txt K mg)(d:Df K mg "_law_ahead" K7 ["one","other"])(Fv:Fn P w K mg base "_law_below" 1 ["one","other"] aN):Fn P w K mg base "_law_ahead" 2 ["one","other"] zS:=by
 have sc:=cT
 walk_at "fn"
 obtain⟨z,w,rfl,⟨h1,h2,h3,h4⟩,k⟩:=h
 refine⟨_,(d9 (i5 (jtm (si hu) (jx (d6 0) d7) (jx (d6 1) d7)) (e5 (e7 (jc Fv hr (d5 (jx (d6 0) d7) (d5 (jx (d6 1) d7) d8))))) h9) (e5 (e7 (jc Fv hr (d5 (jx (d6 0) d7) (d5 (jx (d6 1) d7) d8)))))),?_⟩
 walk_at "sim"
 unfold B3 at k
 refine⟨fun h=>⟨by omega,?_⟩,fun h=>⟨by omega,?_⟩⟩
 ·rw[if_neg h]at k;exact k
 ·rw[if_pos h]at k;exact k
theorem cX(T:Txt K mg)(d:Df K mg "_law_cross" A8 ["one","other"])(Fq:Fn P w K mg base "_law_less" 3 ["one","other"] Q9)(Fm:Fn P w K mg base "_law_taken" 2 ["one","other"] F1):Fn P w K mg base "_law_cross" 4 ["one","other"] zN:=by
 have sc:=G0
 walk_at "fn"
 obtain⟨y,u,z,w,rfl,hz,k⟩:=h
 refine⟨_,(e5 (e7 (jc Fq hr (d5 (jc Fm hr (d5 (jx (d6 0) d7) (d5 (jx (d6 1) d7) d8))) (d5 (jc Fm hr (d5 (jx (d6 0) d7) (d5 (jx (d6 1) d7) d8))) d8))))),?_⟩
 walk_at "sim"
 have m1:=RM.t8 y w
 have m2:=RM.t8 u z
 exact⟨by omega,by omega,by omega,k⟩
theorem bV(T:Txt K mg)(d:Df K mg "_law_around" G4 ["found"])(Fz:Fn P w K mg base "_law_cross" 43 ["one","other"] zP)(Fq:Fn P w K mg base "_law_less" 3 ["one","other"] Q9)(FN:Fn P w K mg base "_law_ahead" 2 ["one","other"] zS)(FO:Fn P w K mg base "_law_cross" 4 ["one","other"] zN):Fn P w K mg base "_law_around" 44 ["found"] zR:=by
 have sc:=bK
 walk_at "fn"
 obtain⟨p,rfl,cs,ls,hM,hls,ec,k⟩:=h
 refine⟨_,(d9 (o8 PassesOwn.never rfl (R9 rfl T.b_range (d5 (o9 au rfl T.b_len M0 (d5 (d6 0) d8)) d8)) (jn 1 sc.nd) (d9 (L3 (i:=2) (j:=3) rfl sc.nd rfl rfl (by decide) rfl rfl (d5 (jx (d6 0) (d6 1)) (d5 (jx (d6 0) (e8 F3 (e8 A6 (d6 1) d7) (o9 au rfl T.b_len M0 (d5 (d6 0) d8)))) d8))) (d9 (jst 4 sc.nd (m5 (d5 (jc Fq hr (d5 (jx (d6 3) d7) (d5 (jx (d6 2) d7) d8))) (d5 (jc Fq hr (d5 (jx (d6 3) d7) (d5 (jx (d6 2) d7) d8))) d8)))) (G9 (i5 (J3 (cj (jtm Dh (jx (jc FO hr (d5 (d6 2) (d5 (d6 3) d8))) d7) d7) (cg (J3 (P8 (jtm bW (d6 1) d7) (F6 (Z1 (C7 (jc FN hr (d5 (jx (d6 0) d7) (d5 (d6 2) d8))))))))))) (e5 (e7 J4)) h9) (e5 (o8 PassesOwn.never rfl (C6 (d6 0)) (jn 5 sc.nd) (d9 (jst 6 sc.nd (m5 (d5 (jc Fq hr (d5 (jx (d6 5) d7) (d5 (jx (d6 2) d7) d8))) (d5 (jc Fq hr (d5 (jx (d6 5) d7) (d5 (jx (d6 2) d7) d8))) d8)))) (e5 (i5 (J3 (P8 (jtm (rY hu) (d6 5) (m5 (d5 (d6 2) (d5 (d6 3) d8)))) (F6 (jtm Dh (jx (jc Fz hr (d5 (d6 4) (d5 (d6 6) d8))) d7) d7)))) (e5 (e7 J4)) h9))))))))) (e5 (e7 J4))),?_⟩
 walk_at "sim"
 have hlo:=hls.a.lo
 obtain⟨C,_⟩:=cE hlo ec
 obtain⟨c1,c2⟩:=tO (n:=800) hlo (fun l hl=>(hls.a.2 l hl).b6) ec
 have h12:=hls.1
 have hlen:0<cs.length:=II.mpr C.ne
 have item:∀ i,i<cs.length→cs[i]? = some (nth cs i):=fun i hi=>by rw[gh hi];exact Hu hi
 have ixc:∀ i:Nat,i<cs.length→∀ M':Mem,M' p=some (.lst (cs.map rD))→ixD M' (D.ref p) (.int (i:Int))=some (rD (nth cs i)):=fun i hi M' h=>A5 h (j6 (by rw[HK,item i hi];rfl))
 have szn:∀ i,sz (nth cs i).1≤1601∧sz (nth cs i).2≤1601:=fun i=>c2 _ (A4 C.ne i)
 rw[bB (cf hM),Hk]
 walk_at "sim"
 refine⟨by omega,?_⟩
 rw[IE]
 refine Q5.by (fun i e M'=>M'=M∧∃ z1 z2 z3 z4 z5 z6:Option D,e=[some (D.ref p),z1,z2,z3,z4,z5,z6]) ⟨rfl,_,_,_,_,_,_,rfl⟩ (fun i e M' _ _=>trivial) ?_ ?_
 ·rintro i dd e M' hd ⟨rfl,z1,z2,z3,z4,z5,z6,rfl⟩
  obtain⟨hi,rfl⟩:=G7 hd
  walk_at "sim"
  rw[JX]
  refine⟨_,ixc i hi _ hM,?_⟩
  walk_at "sim"
  rw[bB (cf hM),Hk]
  walk_at "sim"
  refine⟨by omega,?_⟩
  have em:((i:Int)+1) % (cs.length:Int)=(((i+1) % cs.length:Nat):Int):=by rw[Jw];rfl
  rw[em]
  have en:nth cs ((i+1) % cs.length)=nth cs (i+1):=by unfold nth;rw[Nat.mod_mod]
  refine⟨_,ixc ((i+1) % cs.length) (Iw _ hlen) _ hM,?_⟩
  rw[en]
  have crp:=C.chn.cr i
  have s1:=szn i
  have s2:=szn (i+1)
  have str:∀ x∈cs,x≠nth cs i→x≠nth cs (i+1)→0<J6 (nth cs i) (nth cs (i+1)) x:=fun x hx a b=>lj hlo ec hx a b
  have first:0<i→B3 (nth cs 0) (nth cs i)=true:=fun h0=>by
   have l1:=C.low _ (A4 C.ne i)
   have ne:=C.chn.nd 0 i h0 hi
   have:=sA l1
   unfold B3
   rcases this with h|⟨h,h'⟩
   ·rw[if_neg (by grind)];exact decide_eq_true h
   ·rw[if_pos h]
    refine decide_eq_true ?_
    have:(nth cs 0).2≠(nth cs i).2:=fun z=>ne (Prod.ext h z)
    grind
  have s0:=szn 0
  generalize nth cs i=v at *
  generalize nth cs (i+1)=w at *
  walk_at "sim"
  refine⟨by omega,by omega,?_⟩
  refine cJ (fun e' M1=>M1=M'∧e'=[some (D.ref p),some (D.int (i:Int)),some (rD v),some (rD w),some (D.tup [e9 (w.1 - v.1),e9 (w.2 - v.2)]),z5,z6]) ?_ ?_
  ·walk_at "sim"
   refine⟨v.1,v.2,w.1,w.2,rfl,by omega,?_⟩
   have cn:¬ (v.1*w.2 - v.2*w.1).num≤0:=fun z=>by
    have h1:0<v.1*w.2 - v.2*w.1:=crp
    have:=ju.mpr h1
    omega
   walk_at "sim"
   refine⟨fun z=>absurd z cn,fun _=>⟨fun h0=>?_,fun _=>trivial⟩⟩
   refine⟨_,ixc 0 hlen _ hM,?_⟩
   walk_at "sim"
   refine⟨⟨by omega,by omega,by omega,by omega⟩,fun z=>?_,fun _=>trivial⟩
   rw[first (by omega)]at z;cases z
  rintro e' M1 ⟨rfl,rfl⟩
  walk_at "sim"
  refine aW (N9 hM) ?_
  refine Q5.by (fun t e M'=>M'=M1∧∃ z5 z6:Option D,e=[some (D.ref p),some (D.int (i:Int)),some (rD v),some (rD w),some (D.tup [e9 (w.1 - v.1),e9 (w.2 - v.2)]),z5,z6]) ⟨rfl,_,_,rfl⟩ (fun i e M' _ h=>by rw[h.1];exact N9 hM) ?_ ?_
  ·rintro t dd e M' hdt ⟨rfl,z5,z6,rfl⟩
   obtain⟨x,hx,rfl⟩:=Hm.mp (HG hdt)
   have sx:=c2 x hx
   walk_at "sim"
   refine⟨by omega,by omega,?_⟩
   refine⟨[rD v,rD w],rfl,by rw[u8],rfl,?_⟩
   walk_at "sim"
   have d1:=RM.N6 w.1 v.1
   have d2:=RM.N6 w.2 v.2
   have d3:=RM.N6 x.1 v.1
   have d4:=RM.N6 x.2 v.2
   refine⟨fun hni=>⟨⟨by omega,by omega⟩,fun z=>?_,fun _=>⟨_,_,rfl⟩⟩,fun _=>⟨_,_,rfl⟩⟩
   have h1:0<(w.1 - v.1)*(x.2 - v.2) - (w.2 - v.2)*(x.1 - v.1):=str x hx (fun e=>hni (by rw[e];exact .head _)) (fun e=>hni (by rw[e];exact .tail _ (.head _)))
   have:=ju.mpr h1
   omega
  ·rintro e M' ⟨rfl,z5,z6,rfl⟩
   exact⟨rfl,_,_,_,_,_,_,rfl⟩
 ·rintro e M' ⟨rfl,z1,z2,z3,z4,z5,z6,rfl⟩
  walk_at "sim"
  exact k
theorem Y9(T:Txt K mg)(d:Df K mg "_law_cross" A8 ["one","other"])(Fq:Fn P w K mg base "_law_less" 3 ["one","other"] Q9)(Fm:Fn P w K mg base "_law_taken" 2 ["one","other"] F1):Fn P w K mg base "_law_cross" 4 ["one","other"] mS:=by
 have sc:=G0
 walk_at "fn"
 obtain⟨l,m,rfl,⟨⟨l1,l2,l3⟩,⟨m1,m2,m3⟩⟩,k⟩:=h
 refine⟨_,(e5 (e7 (jc Fq hr (d5 (jc Fm hr (d5 (jx (d6 0) d7) (d5 (jx (d6 1) d7) d8))) (d5 (jc Fm hr (d5 (jx (d6 0) d7) (d5 (jx (d6 1) d7) d8))) d8))))),?_⟩
 walk_at "sim"
 have a1:=RM.t8 l.1 m.2.1
 have a2:=RM.t8 l.2.1 m.1
 exact⟨by omega,by omega,by omega,k⟩
theorem gc(T:Txt K mg)(d:Df K mg "_law_bare" O9 ["one"]):Fn P w K mg base "_law_bare" 1 ["one"] qT:=by
 have sc:=fj
 walk_at "fn"
 obtain⟨q,rfl,k⟩:=h
 refine⟨_,(e5 (e7 (m5 (d5 (o9 cF rfl T.b_abs U9 (d5 (jx (d6 0) d7) d8)) (d5 (jx (d6 0) d7) d8))))),?_⟩
 walk_at "sim"
 exact k
theorem cU(T:Txt K mg)(d:Df K mg "_law_worth" K0 ["p","q","ray"])(Ft:Fn P w K mg base "_law_sum" 2 ["one","other"] bE)(Fm:Fn P w K mg base "_law_taken" 2 ["one","other"] F1):Fn P w K mg base "_law_worth" 3 ["p","q","ray"] fo:=by
 have sc:=cO
 walk_at "fn"
 obtain⟨p,q,y,u,rfl,hz,k⟩:=h
 have m1:=RM.t8 p y
 have m2:=RM.t8 q u
 refine⟨_,(e5 (e7 (jc Ft hr (d5 (jc Fm hr (d5 (d6 0) (d5 (jx (d6 2) d7) d8))) (d5 (jc Fm hr (d5 (d6 1) (d5 (jx (d6 2) d7) d8))) d8))))),?_⟩
 walk_at "sim"
 exact⟨by omega,by omega,by omega,k⟩
theorem fY(T:Txt K mg)(d:Df K mg "_law_lets" O8 ["lines","ray"])(Fv:Fn P w K mg base "_law_below" 1 ["one","other"] aN)(FX:Fn P w K mg base "_law_bare" 1 ["one"] qT)(FP:Fn P w K mg base "_law_worth" 3 ["p","q","ray"] fo):Fn P w K mg base "_law_lets" 4 ["lines","ray"] kI:=by
 have sc:=fi
 walk_at "fn"
 obtain⟨ls,y,u,rfl,⟨hls,h3,h4⟩,k⟩:=h
 refine⟨_,(d9 (o8 PassesOwn.never rfl (C6 (d6 0)) (S1 (n:=3) rfl (i7 (jn 2 sc.nd) (i7 (jn 3 sc.nd) (i7 (jn 4 sc.nd) E7)))) (e5 (i5 (C7 (jc Fv hr (d5 (d6 4) (d5 (jc FX hr (d5 (jc FP hr (d5 (d6 2) (d5 (d6 3) (d5 (d6 1) d8)))) d8)) d8)))) (e5 (e7 J4)) h9))) (e5 (e7 J4))),?_⟩
 walk_at "sim"
 refine Q5.by (fun i e M'=>M'=M∧(∃ z1 z2 z3:Option D,e=[some (.vl (ls.map h8)),some (T8 y u),z1,z2,z3])∧∀ j l,j<i→ls[j]? = some l→ay l y u=true) ⟨rfl,⟨_,_,_,rfl⟩,fun j l z=>absurd z (IQ j)⟩ (fun i e M' _ _=>by simp only[p8]) ?_ ?_
 ·rintro i dd e M' hd ⟨rfl,⟨z1,z2,z3,rfl⟩,hno⟩
  obtain⟨l,hl,rfl⟩:=eA hd
  have hm:=HG hl
  obtain⟨q1,q2,q3⟩:=(hls.2 l hm).z
  have m1:=RM.t8 l.1 y
  have m2:=RM.t8 l.2.1 u
  have m3:=RM.km (l.1*y) (l.2.1*u)
  have m4:=qR (l.1*y+l.2.1*u)
  walk_at "sim"
  refine⟨by omega,by omega,fun h=>?_,fun h=>⟨⟨_,_,_,rfl⟩,fun j x hj hx=>?_⟩⟩
  ·rw[sE hm (by rw[jC,decide_eq_true h];rfl)]at k
   exact k
  ·rcases Nat.lt_succ_iff_lt_or_eq.mp hj with z|z
   ·exact hno j x z hx
   ·subst z
    obtain rfl:x=l:=by rw[hl]at hx;exact(Option.some.inj hx).symm
    rw[jC,decide_eq_false h];rfl
 ·rintro e M' ⟨rfl,⟨z1,z2,z3,rfl⟩,hno⟩
  walk_at "sim"
  rw[kS fun i l e=>hno i l (by rw[Hk];exact(HN.mp e).1) e]at k
  exact k
theorem jq(T:Txt K mg)(d:Df K mg "_law_met" T6 ["one","other","worth","more"])(Fm:Fn P w K mg base "_law_taken" 2 ["one","other"] F1)(Fq:Fn P w K mg base "_law_less" 3 ["one","other"] Q9)(Fp:Fn P w K mg base "_law_low" 1 ["top","bottom"] N7)(Fu:Fn P w K mg base "_law_cross" 4 ["one","other"] mS):Fn P w K mg base "_law_met" 5 ["one","other","worth","more"] kF:=by
 have sc:=iQ
 walk_at "fn"
 obtain⟨l,m,a,b,rfl,⟨hz,hc⟩,k⟩:=h
 obtain⟨s1,s2,s3,s4,s5,s6,s7,s8,_,_⟩:=yq hz hc
 refine⟨_,(d9 (jst 4 sc.nd (jc Fu hr (d5 (d6 0) (d5 (d6 1) d8)))) (d9 (jst 5 sc.nd (jc Fp hr (d5 (jx (d6 4) d7) (d5 (jx (d6 4) d7) d8)))) (d9 (jst 6 sc.nd (jc Fq hr (d5 (jc Fm hr (d5 (d6 2) (d5 (jx (d6 1) d7) d8))) (d5 (jc Fm hr (d5 (jx (d6 0) d7) (d5 (d6 3) d8))) d8)))) (d9 (jst 7 sc.nd (jc Fq hr (d5 (jc Fm hr (d5 (jx (d6 0) d7) (d5 (d6 3) d8))) (d5 (jc Fm hr (d5 (d6 2) (d5 (jx (d6 1) d7) d8))) d8)))) (e5 (e7 (m5 (d5 (jc Fm hr (d5 (d6 5) (d5 (d6 6) d8))) (d5 (jc Fm hr (d5 (d6 5) (d5 (d6 7) d8))) d8))))))))),?_⟩
 walk_at "sim"
 rw[AR]
 obtain⟨hl,hm,ha,hb⟩:=hz
 have hl':=hl
 have hm':=hm
 obtain⟨l1,l2,l3⟩:=hl
 obtain⟨m1,m2,m3⟩:=hm
 exact⟨⟨hl',hm'⟩,fun z=>hc (lh.mp z),Ho (zx (n:=1049) s1).1 (by decide),by omega,by omega,by omega,by omega,by omega,by omega,by omega,by omega,k⟩
theorem js(T:Txt K mg)(d:Df K mg "_law_due" T7 ["lines"])(Fu:Fn P w K mg base "_law_cross" 4 ["one","other"] mS)(FY:Fn P w K mg base "_law_lets" 4 ["lines","ray"] kI)(Fs:Fn P w K mg base "_law_back" 1 ["one"] bF)(Gg:Fn P w K mg base "_law_met" 5 ["one","other","worth","more"] kF):Fn P w K mg base "_law_due" 6 ["lines"] kK:=by
 have sc:=iR
 walk_at "fn"
 obtain⟨ls,rfl,hls,k⟩:=h
 refine⟨_,(d9 (jst 1 sc.nd nA) (d9 (o8 PassesOwn.never rfl (R9 rfl T.b_range (d5 (o9 au rfl T.b_len M0 (d5 (d6 0) d8)) d8)) (jn 2 sc.nd) (e5 (o8 PassesOwn.never rfl (R9 rfl T.b_range (d5 (d6 2) d8)) (jn 3 sc.nd) (e5 (i5 (jtm rZ (jx (jc Fu hr (d5 (jx (d6 0) (d6 2)) (d5 (jx (d6 0) (d6 3)) d8))) d7) d7) (e5 (o8 PassesOwn.never rfl (C6 (F5 (d5 d7 (d5 (U6 d7) d8)))) (jn 4 sc.nd) (d9 (jst 5 sc.nd (m5 (d5 (e8 m8 (jx (jx (jx (d6 0) (d6 3)) d7) d7) (d6 4)) (d5 (jx (jx (jx (d6 0) (d6 3)) d7) d7) d8)))) (d9 (jst 6 sc.nd (jc Gg hr (d5 (jx (d6 0) (d6 2)) (d5 (jx (d6 0) (d6 3)) (d5 (jx (jx (d6 0) (d6 2)) d7) (d5 (d6 5) d8)))))) (e5 (i5 (C7 (jc FY hr (d5 (d6 0) (d5 (d6 6) d8)))) (d9 (L4 J4 (jE hu (d6 1) (d6 6))) (e5 (L4 J4 (jE hu (d6 1) (m5 (d5 (jc Fs hr (d5 (jx (d6 6) d7) d8)) (d5 (jc Fs hr (d5 (jx (d6 6) d7) d8)) d8))))))) h9)))))) h9))))) (e5 (e7 (d6 1))))),?_⟩
 walk_at "sim"
 have h12:=hls.1
 intro p hp
 refine⟨by rw[Hk];omega,?_⟩
 rw[Hk,IE]
 refine Q5.by (fun i e M'=>∃(z2 z3 z4 z5 z6:Option D) (kvs:DPs),e=[some (D.vl (Lf h8 ls)),some (D.ref p),z2,z3,z4,z5,z6]∧M'=j9 M p (.dic thP kvs)∧D8 kvs (SK ls i)∧kvs.length≤48*i) ⟨_,_,_,_,_,[],rfl,rfl,D8.nil.congr (vz ls),Hy _⟩ (fun i e M' _ _=>trivial) ?_ ?_
 ·rintro i dd e M' hd ⟨z2,z3,z4,z5,z6,kvs,rfl,rfl,hdi,hln⟩
  obtain⟨hi,rfl⟩:=G7 hd
  obtain⟨l,hl⟩:∃ l,ls[i]? = some l:=⟨_,Hu hi⟩
  have zl:=(hls.2 l (HG hl)).z
  walk_at "sim"
  rw[JX]
  refine⟨by omega,?_⟩
  rw[IE]
  refine Q5.by (fun j e M'=>∃(z3 z4 z5 z6:Option D) (kvs:DPs),e=[some (D.vl (Lf h8 ls)),some (D.ref p),some (.int (i:Int)),z3,z4,z5,z6]∧M'=j9 M p (.dic thP kvs)∧D8 kvs (SJ ls i l j)∧kvs.length≤48*i+4*j) ⟨_,_,_,_,kvs,rfl,rfl,hdi.congr (vC ls i l),by omega⟩ (fun i e M' _ _=>trivial) ?_ ?_
  ·rintro j dd e M' hdj ⟨z3,z4,z5,z6,kvs,rfl,rfl,hdi,hln⟩
   obtain⟨hj,rfl⟩:=G7 hdj
   obtain⟨m,hm⟩:∃ m,ls[j]? = some m:=⟨_,Hu (by omega)⟩
   have zm:=(hls.2 m (HG hm)).z
   walk_at "sim"
   rw[JX]
   refine⟨_,L5 hl,_,L5 hm,?_⟩
   walk_at "sim"
   refine⟨⟨zl,zm⟩,fun hc=>?_,fun hc=>?_⟩
   ·have hc':crL l m≠0:=fun z=>hc (lh.mpr z)
    refine Q5.by (fun t e M'=>∃(z4 z5 z6:Option D) (kvs:DPs),e=[some (D.vl (Lf h8 ls)),some (D.ref p),some (.int (i:Int)),some (.int (j:Int)),z4,z5,z6]∧M'=j9 M p (.dic thP kvs)∧D8 kvs (SS ls i l m j t)∧kvs.length≤48*i+4*j+2*t) ⟨_,_,_,kvs,rfl,rfl,hdi.congr (vy ls i l m j),by omega⟩ (fun i e M' _ _=>by simp only[p8]) ?_ ?_
    ·rintro t dd e M' hdt ⟨z4,z5,z6,kvs,rfl,rfl,hdi,hln⟩
     obtain⟨ht,rfl⟩:=vE hdt
     walk_at "sim"
     refine⟨_,L5 hm,?_⟩
     walk_at "sim"
     refine⟨CH _ _,_,L5 hm,?_⟩
     walk_at "sim"
     refine⟨_,L5 hl,_,L5 hm,_,L5 hl,?_⟩
     walk_at "sim"
     rw[CF]
     have hz23:Z23 l.2.2 (m.2.2*sgQ t) l m:=⟨zl,zm,zl.r,by rw[CG];exact zm.r⟩
     have zs:=yq hz23 hc'
     walk_at "sim"
     refine⟨⟨hz23,hc'⟩,?_⟩
     have zz:=zs.2.2.2.2.2.2.2.2
     obtain⟨w,ew⟩:∃ w,w=mtZ l m l.2.2 (m.2.2*sgQ t):=⟨_,rfl⟩
     rw[← ew]at zz ⊢
     refine⟨ls,w.1,w.2,rfl,⟨hls,by omega,by omega⟩,?_⟩
     walk_at "sim"
     refine⟨fun hlt=>?_,fun hlf=>?_⟩
     ·refine⟨p,kvs,zk w,rfl,rfl,f6,hdi.ok,Ho (show kvs.length<1000 by omega) (by decide),?_⟩
      rw[G6]
      walk_at "sim"
      have d1:=hdi.put w (.bl true)
      have l1:=mY kvs (zk w) (.bl true)
      refine⟨p,aw kvs (zk w) (.bl true),zk (ngZ w),rfl,rfl,f6,d1.ok,Ho (show _<1000 by omega) (by decide),?_⟩
      rw[G6]
      have d2:=d1.put (ngZ w) (.bl true)
      have l2:=mY (aw kvs (zk w) (.bl true)) (zk (ngZ w)) (.bl true)
      refine⟨_,_,_,_,rfl,rfl,d2.congr ?_,by omega⟩
      intro z
      rw[← zG (by rw[← ew];exact hlt),← ew]
     ·refine⟨_,_,_,kvs,rfl,rfl,hdi.congr (CD (by rw[← ew,hlf];decide)),by omega⟩
    ·rintro e M' ⟨z4,z5,z6,kvs,rfl,rfl,hdi,hln⟩
     exact⟨_,_,_,_,kvs,rfl,rfl,(hdi.congr (zH hc')).congr (mP hm),by show kvs.length≤48*i+4*(j+1);exact Hx hln (by show 48*i+4*j+2*2≤_;omega)⟩
   ·exact⟨_,_,_,_,kvs,rfl,rfl,hdi.congr (vD hm (fun z=>z (lh.mp hc))),by omega⟩
  ·rw[r9]
   rintro e M' ⟨z3,z4,z5,z6,kvs,rfl,rfl,hdi,hln⟩
   exact⟨_,_,_,_,_,kvs,rfl,rfl,hdi.congr (vB hl),by omega⟩
 ·rw[r9]
  rintro e M' ⟨z2,z3,z4,z5,z6,kvs,rfl,rfl,hdi,hln⟩
  walk_at "sim"
  exact k p kvs hp (hdi.congr (zJ ls))
theorem fW(T:Txt K mg)(d:Df K mg "_law_next" O6 ["pool","base"]):Fn P w K mg base "_law_next" 1 ["pool","base"] F9:=by
 have sc:=fg
 refine i9 d sc (fun ds M R Y h=>?_) (fun f cdv A outer s H E ds M R Y hr h=>?_)
 ·obtain⟨p,b,rfl,_⟩:=h;rfl
 ·obtain⟨p,b,rfl,⟨x,y,z,hM⟩,hb,hl,k⟩:=h
  refine⟨_,(d9 (i5 (jtm bW (jx (d6 0) d7) d7) (d9 (jst 2 sc.nd (e8 F3 (jx (d6 0) d7) (d6 1))) (d9 (L4 (e8 K9 (jx (d6 0) d7) (d6 1)) (gk (d6 0) d7)) (e5 (e7 (d6 2))))) h9) (d9 (L4 (e8 A6 (jx (d6 0) d7) d7) (gk (d6 0) d7)) (d9 (jst 3 sc.nd (e8 F3 (e8 A6 (jx (d6 0) d7) (e8 m8 d7 (jx (d6 0) d7))) d7)) (d9 (jst 4 sc.nd (e8 F3 (e8 m8 (e8 A6 (d6 3) d7) (e8 A6 (d6 3) d7)) d7)) (e5 (e7 (e8 F3 (e8 K9 (e8 F3 (e8 m8 (d6 4) (d6 4)) d7) d7) (d6 1)))))))),?_⟩
  refine⟨_,rfl,_,A5 hM rfl,_,rfl,_,rfl,?_⟩
  refine sQ (fun h0=>?_) (fun h0=>?_)
  ·refine⟨_,rfl,_,A5 hM rfl,_,rfl,_,_,rfl,rfl,hb,?_⟩
   refine⟨_,rfl,_,A5 hM rfl,_,rfl,_,_,rfl,rfl,⟨by omega,hl⟩,_,rfl,_,_,_,_,rfl,rfl,hM,rfl,?_⟩
   exact⟨_,rfl,k _ _ (Je _ (by omega)) (IL _ hb) (m6.upd _ _ _)⟩
  ·refine⟨_,rfl,_,A5 hM rfl,_,rfl,_,rfl,_,_,_,_,rfl,rfl,hM,rfl,?_⟩
   refine⟨_,rfl,_,A5 f6 rfl,_,rfl,_,A5 f6 rfl,_,_,rfl,rfl,wz (by decide) (by decide),_,rfl,_,_,rfl,rfl,(by show(0:Int)<1000000007;decide),?_⟩
   refine⟨_,rfl,_,rfl,_,rfl,_,rfl,_,_,rfl,rfl,EM (by decide) (by decide) (by decide) (by decide),_,_,rfl,rfl,(by show(0:Int)<998244353;decide),?_⟩
   refine⟨_,rfl,_,rfl,_,_,rfl,rfl,Dp (by decide) (by decide),_,_,rfl,rfl,(by show(0:Int)<2147483647;decide),_,_,rfl,rfl,Fe,_,rfl,_,_,rfl,rfl,hb,?_⟩
   exact k _ _ (Je _ (by omega)) (IL _ hb) (m6.upd _ _ _)
theorem fU(T:Txt K mg)(d:Df K mg "_law_wide" O4 ["pool","base"])(Fo:Fn P w K mg base "_law_next" 1 ["pool","base"] F9):Fn P w K mg base "_law_wide" 2 ["pool","base"] F9:=by
 have sc:=fe
 refine i9 d sc (fun ds M R Y h=>?_) (fun f cdv A outer s H E ds M R Y hr h=>?_)
 ·obtain⟨p,b,rfl,_⟩:=h;rfl
 ·obtain⟨p,b,rfl,⟨x,y,z,hM⟩,hb,hl,k⟩:=h
  refine⟨_,(d9 (i5 (J3 (cj (jtm bW (jx (d6 0) d7) d7) (cg (jtm de (d6 1) (e8 nk d7 d7))))) (e5 (e7 (jc Fo hr (d5 (d6 0) (d5 (d6 1) d8))))) h9) (d9 (jst 2 sc.nd d7) (d9 (o8 PassesOwn.never rfl (R9 rfl T.b_range (d5 (e8 A6 d7 (e8 K9 (wR (d6 1)) d7)) d8)) (jn 3 sc.nd) (e5 (jst 2 sc.nd (e8 A6 (e8 m8 (d6 2) d7) (jc Fo hr (d5 (d6 0) (d5 d7 d8))))))) (e5 (e7 (e8 F3 (d6 2) (d6 1))))))),?_⟩
  refine⟨_,rfl,_,A5 hM rfl,_,rfl,_,rfl,?_⟩
  have again:Bg (jN F9 [] Y0 (nQ (X5 0) (nQ (X5 1) Bh))) { nx:=fun _ M'=>R .non M',rt:=R } (Q0 ["pool","base","number","turn"] [.ref p,.int b]) M :=
   ⟨_,rfl,_,rfl,p,b,rfl,⟨x,y,z,hM⟩,hb,hl,k⟩
  refine sQ (fun h0=>?_) (fun h0=>?_)
  ·exact Dt again
  ·refine⟨_,rfl,_,_,rfl,rfl,cp6,_,rfl,_,rfl,?_⟩
   refine sQ (fun h1=>?_) (fun h1=>?_)
   ·exact again
   ·have hbits:=xk hl
    have e20:((Builtin.Int.intBits b:Nat):Int).fdiv 20=((Builtin.Int.intBits b:Nat):Int) / 20:=gu (by omega) (by decide)
    refine⟨_,rfl,_,rfl,_,_,rfl,rfl,Ee,_,rfl,_,rfl,by rw[e20];omega,by rw[e20];omega,?_⟩
    refine⟨fun i e M'=>∃(n:Int) (t:Option D),e=[some (.ref p),some (.int b),some (.int n),t]∧m6 p M M',⟨0,none,rfl,m6.refl ⟨x,y,z,hM⟩⟩,fun _ _ _ _ _=>trivial,?_,?_⟩
    ·rintro i dd e M' hd ⟨n,t,rfl,st⟩
     refine⟨_,rfl,_,_,rfl,rfl,EN (by decide) (by decide),_,rfl,p,_,rfl,st.pool,by decide,by decide,fun r M2 h0 h1 st2=>?_⟩
     exact⟨_,rfl,_,_,rfl,st.trans st2⟩
    ·rintro e M' ⟨n,t,rfl,st⟩
     exact⟨_,rfl,_,rfl,_,_,rfl,rfl,hb,k _ _ (Je _ (by omega)) (IL _ hb) st⟩
theorem bT(T:Txt K mg)(d:Df K mg "_law_number" G3 ["pool"])(Fp:Fn P w K mg base "_law_low" 1 ["top","bottom"] N7)(FE:Fn P w K mg base "_law_wide" 2 ["pool","base"] F9)(Fo:Fn P w K mg base "_law_next" 1 ["pool","base"] F9):Fn P w K mg base "_law_number" 3 ["pool"] bG:=by
 have sc:=bJ
 walk_at "fn"
 obtain⟨p,rfl,hp,k⟩:=h
 refine⟨_,(d9 (jst 1 sc.nd (jc Fo hr (d5 (d6 0) (d5 d7 d8)))) (d9 (i5 (jtm de (d6 1) d7) (e5 (e7 (jc Fp hr (d5 (e8 B7 (jc Fo hr (d5 (d6 0) (d5 d7 d8))) d7) (d5 (jx (F5 (d5 d7 (d5 d7 (d5 d7 (d5 d7 (d5 d7 (d5 d7 d8))))))) (jc Fo hr (d5 (d6 0) (d5 d7 d8)))) d8))))) h9) (d9 (i5 (jtm G8 (d6 1) d7) (e5 (e7 (jc Fp hr (d5 (e8 B7 (jc Fo hr (d5 (d6 0) (d5 d7 d8))) d7) (d5 (e8 A6 d7 (jc Fo hr (d5 (d6 0) (d5 d7 d8)))) d8))))) h9) (d9 (i5 (jtm G8 (d6 1) d7) (d9 (jst 2 sc.nd (e8 B7 (e8 nk d7 d7) d7)) (e5 (e7 (jc Fp hr (d5 (e8 B7 (jc FE hr (d5 (d6 0) (d5 (e8 A6 (e8 m8 d7 (d6 2)) d7) d8))) (d6 2)) (d5 (e8 A6 d7 (jc FE hr (d5 (d6 0) (d5 (d6 2) d8)))) d8)))))) h9) (e5 (e7 (m5 (d5 d7 (d5 d7 d8))))))))),?_⟩
 walk_at "sim"
 have e12:(10:Int) ^ Int.toNat 12=1000000000000:=by decide
 have lg:∀{b:Int},b.natAbs<2 ^ 41→b.natAbs.log2<9000:=fun{b} hb=>U4 (Ho hb (HD (by decide) (by decide))) (by decide)
 refine⟨hp,by decide,fun r M1 r0 r1 s1=>⟨fun h1=>⟨s1.pool,by decide,fun t M2 t0 t1 s2=>⟨s2.pool,by decide,fun v M3 v0 v1 s3=>?_⟩⟩,fun h1=>⟨fun h2=>⟨s1.pool,by decide,fun t M2 t0 t1 s2=>⟨s2.pool,by decide,fun v M3 v0 v1 s3=>⟨by omega,lg (by omega),k _ _ (P6 (by decide) (by omega) (by omega) (by omega)) (s1.trans (s2.trans s3))⟩⟩⟩,fun h2=>⟨fun h3=>?_,fun h3=>k _ _ (by decide) s1⟩⟩⟩⟩
 ·refine aR (by omega) (by show v<6;omega) fun d hd=>?_
  have hd':∃ b:Int,d = .int b∧0<b∧b≤4:=by
   simp only[Hr,HM,or_false]at hd
   rcases hd with rfl|rfl|rfl|rfl|rfl|rfl
   ·exact⟨1,rfl,by decide,by decide⟩
   ·exact⟨1,rfl,by decide,by decide⟩
   ·exact⟨1,rfl,by decide,by decide⟩
   ·exact⟨2,rfl,by decide,by decide⟩
   ·exact⟨3,rfl,by decide,by decide⟩
   ·exact⟨4,rfl,by decide,by decide⟩
  obtain⟨b,rfl,b0,b1⟩:=hd'
  walk_at "sim"
  exact⟨by omega,lg (by omega),k _ _ (P6 (by decide) (by omega) (by omega) (by omega)) (s1.trans (s2.trans s3))⟩
 ·rw[e12]
  refine⟨Fd,wz (by decide) (by decide),s1.pool,by decide,lg (by decide),fun t M2 t0 t1 s2=>⟨s2.pool,by decide,lg (by decide),fun v M3 v0 v1 s3=>⟨by omega,lg (by omega),k _ _ (P6 (by decide) (by omega) (by omega) (by omega)) (s1.trans (s2.trans s3))⟩⟩⟩
theorem fX(T:Txt K mg)(d:Df K mg "_law_line" O7 ["pool"])(Fp:Fn P w K mg base "_law_low" 1 ["top","bottom"] N7)(Fo:Fn P w K mg base "_law_next" 1 ["pool","base"] F9)(Fx:Fn P w K mg base "_law_number" 3 ["pool"] bG):Fn P w K mg base "_law_line" 4 ["pool"] kH:=by
 have sc:=fh
 walk_at "fn"
 obtain⟨p,rfl,hp,k⟩:=h
 refine⟨_,(d9 (jst 1 sc.nd (jc Fx hr (d5 (d6 0) d8))) (d9 (jst 2 sc.nd (jc Fx hr (d5 (d6 0) d8))) (d9 (i5 (J3 (P8 (jtm G8 (jx (d6 1) d7) d7) (F6 (jtm G8 (jx (d6 2) d7) d7)))) (e5 (jst 1 sc.nd (m5 (d5 (e8 A6 d7 (jc Fo hr (d5 (d6 0) (d5 d7 d8)))) (d5 d7 d8))))) h9) (e5 (e7 (m5 (d5 (d6 1) (d5 (d6 2) (d5 (jc Fp hr (d5 (e8 A6 d7 (jc Fo hr (d5 (d6 0) (d5 d7 d8)))) (d5 (jx (F5 (d5 d7 (d5 d7 (d5 d7 (d5 d7 d8))))) (jc Fo hr (d5 (d6 0) (d5 d7 d8)))) d8))) d8))))))))),?_⟩
 walk_at "sim"
 have lg:∀{b:Int},b.natAbs<2 ^ 41→b.natAbs.log2<9000:=fun{b} hb=>U4 (Ho hb (HD (by decide) (by decide))) (by decide)
 have fin:∀(a b:Rat) (M1:Mem),sz a≤41→sz b≤41→¬ (a=0∧b=0)→m6 p M M1→v8 M1 p∧(Int.natAbs 12).log2<9000∧∀(r:Int) (M2:Mem),0≤r→r<12→m6 p M1 M2→v8 M2 p∧(Int.natAbs 4).log2<9000∧∀(t:Int) (M3:Mem),0≤t→t<4→m6 p M2 M3→gIx (D.vl [D.int 1,D.int 1,D.int 2,D.int 5]) (D.int t) M3 fun x M1=>N7 [D.int (1+r),x] M1 (fun x M1=>R (D.tup [e9 a,e9 b,x]) M1) Y0:=fun a b M1 ha hb hn s1=>by
  refine⟨s1.pool,by decide,fun r M2 r0 r1 s2=>⟨s2.pool,by decide,fun t M3 t0 t1 s3=>aR t0 (by show t<4;omega) fun d hd=>?_⟩⟩
  have hd':∃ b:Int,d = .int b∧0<b∧b≤5:=by
   simp only[Hr,HM,or_false]at hd
   rcases hd with rfl|rfl|rfl|rfl
   ·exact⟨1,rfl,by decide,by decide⟩
   ·exact⟨1,rfl,by decide,by decide⟩
   ·exact⟨2,rfl,by decide,by decide⟩
   ·exact⟨5,rfl,by decide,by decide⟩
  obtain⟨c,rfl,c0,c1⟩:=hd'
  walk_at "sim"
  exact⟨by omega,lg (by omega),k (a,b,Iv (1+r) c) _ ⟨⟨ha,hb,P6 (by decide) (by omega) (by omega) (by omega)⟩,hn⟩ (tw (by omega) c0) (s1.trans (s2.trans s3))⟩
 refine⟨hp,fun a M1 ha s1=>⟨s1.pool,fun b M2 hb s2=>⟨fun h1=>⟨fun h2=>⟨s2.pool,by decide,fun r M3 r0 r1 s3=>?_⟩,fun h2=>fin a b M2 ha hb (fun z=>h2 (by rw[z.2];rfl)) (s1.trans s2)⟩,fun h1=>fin a b M2 ha hb (fun z=>h1 (by rw[z.1];rfl)) (s1.trans s2)⟩⟩⟩
 have e:D.tup [.int (1+r),.int 1]=e9 ((1+r:Int):Rat):=(W7 _).symm
 rw[e]
 exact fin _ b M3 (eU (by decide) (by omega)) hb (fun z=>by have h:=z.1;rw[Kh]at h;omega) (s1.trans (s2.trans s3))
theorem cW(T:Txt K mg)(d:Df K mg "_law_lines" K4 ["pool","most_lines"])(Fo:Fn P w K mg base "_law_next" 1 ["pool","base"] F9)(Ft:Fn P w K mg base "_law_sum" 2 ["one","other"] bE)(Fm:Fn P w K mg base "_law_taken" 2 ["one","other"] F1)(Fp:Fn P w K mg base "_law_low" 1 ["top","bottom"] N7)(FZ:Fn P w K mg base "_law_line" 4 ["pool"] kH):Fn P w K mg base "_law_lines" 5 ["pool","most_lines"] fy:=by
 have sc:=cQ
 walk_at "fn"
 obtain⟨p,nn,rfl,hp,⟨n0,n5⟩,k⟩:=h
 have lg:∀{b:Int},b.natAbs<2 ^ 41→b.natAbs.log2<9000:=fun{b} hb=>U4 (Ho hb (HD (by decide) (by decide))) (by decide)
 refine⟨_,(d9 (jst 2 sc.nd (gm d8)) (d9 (o8 PassesOwn.never rfl (R9 rfl T.b_range (d5 (jc Fo hr (d5 (d6 0) (d5 (e8 A6 (d6 1) d7) d8))) d8)) (jn 3 sc.nd) (d9 (jst 4 sc.nd (jc FZ hr (d5 (d6 0) d8))) (d9 (jst 5 sc.nd (jc Fo hr (d5 (d6 0) (d5 d7 d8)))) (G9 (i5 (J3 (P8 (jtm bW (d6 3) d7) (F6 (jtm de (d6 5) d7)))) (d9 (jst 6 sc.nd (jx (d6 2) (jc Fo hr (d5 (d6 0) (d5 (d6 3) d8))))) (d9 (jst 7 sc.nd (jx (F5 (d5 (m5 (d5 d7 (d5 d7 d8))) (d5 (jc Fp hr (d5 (e8 B7 (jc Fo hr (d5 (d6 0) (d5 d7 d8))) d7) (d5 (e8 A6 d7 (jc Fo hr (d5 (d6 0) (d5 d7 d8)))) d8))) d8))) (d6 5))) (G9 (i5 (jtm G8 (jx (d6 7) d7) d7) (e5 (jst 7 sc.nd (m5 (d5 d7 (d5 d7 d8))))) h9) (e5 (jst 4 sc.nd (m5 (d5 (jc Fm hr (d5 (d6 7) (d5 (jx (d6 6) d7) d8))) (d5 (jc Fm hr (d5 (d6 7) (d5 (jx (d6 6) d7) d8))) (d5 (jx (F5 (d5 (jx (d6 6) d7) (d5 (jx (d6 4) d7) d8))) (jc Fo hr (d5 (d6 0) (d5 d7 d8)))) d8))))))))) h9) (G9 (i5 (J3 (P8 (jtm bW (d6 3) d7) (F6 (jtm G8 (d6 5) d7)))) (d9 (L3 (i:=8) (j:=9) rfl sc.nd rfl rfl (by decide) rfl rfl (d5 (jx (d6 2) (e8 B7 (d6 3) d7)) (d5 (jx (d6 2) (e8 B7 (d6 3) d7)) d8))) (d9 (jst 4 sc.nd (m5 (d5 (jc Ft hr (d5 (jx (d6 8) d7) (d5 (jx (d6 9) d7) d8))) (d5 (jc Ft hr (d5 (jx (d6 8) d7) (d5 (jx (d6 9) d7) d8))) (d5 (jc Ft hr (d5 (jx (d6 8) d7) (d5 (jx (d6 9) d7) d8))) d8))))) (e5 (i5 (J3 (P8 (jtm G8 (jx (jx (d6 4) d7) d7) d7) (F6 (jtm G8 (jx (jx (d6 4) d7) d7) d7)))) (e5 (jst 4 sc.nd (d6 8))) h9)))) h9) (e5 (P7 (ny PySem.F.slot_list_append PySem.F.type_list_append S3 (d6 2) (d5 (d6 4) d8))))))))) (e5 (e7 (cu (gn (d6 2))))))),?_⟩
 walk_at "sim"
 intro l hl
 have hlp:l≠p:=hp.ne hl
 have st0:m6 p M (j9 M l (.lst [])):=m6.mk' hp (MK.new hl)
 refine⟨st0.pool,by omega,lg (by omega),fun t M1 t0 t1 s1=>⟨by omega,?_⟩⟩
 refine Q5.by (fun i e M'=>∃(ls:List (Rat × Rat × Rat)) (x3 x4 x5 x6 x7 x8 x9:Option D),e=[some (.ref p),some (.int nn),some (.ref l),x3,x4,x5,x6,x7,x8,x9]∧ls.length=i∧CP i ls∧M' l=some (.lst (ls.map h8))∧m6 p M M')
  ⟨[],_,_,_,_,_,_,_,rfl,rfl,CP.nil,s1.keep l _ hlp f6,st0.trans s1⟩ (fun _ _ _ _ _=>trivial) ?_ ?_
 ·rintro i dd e M2 hd ⟨ls,x3,x4,x5,x6,x7,x8,x9,rfl,hll,hc,hm,st⟩
  obtain⟨hi,rfl⟩:=G7 hd
  have ok:=hc.cols.ok (by omega)
  have hlen:(ls.map h8).length=i:=by rw[Hk];exact hll
  rw[JX]
  walk_at "sim"
  refine⟨st.pool,fun l0 M3 hl0 lp0 s3=>⟨s3.pool,by decide,fun pick M4 p0 p1 s4=>?_⟩⟩
  have st4:=st.trans (s3.trans s4)
  have hm4:=(s3.trans s4).keep l _ hlp hm
  refine cJ (fun e' M'=>∃(ln:Rat × Rat × Rat) (x6 x7:Option D),e'=[some (.ref p),some (.int nn),some (.ref l),some (.int (i:Nat)),some (h8 ln),some (.int pick),x6,x7,x8,x9]∧CP (i+1) (ls++[ln])∧M' l=some (.lst (ls.map h8))∧m6 p M M') ?_ ?_
  ·have fin0:∃(ln:Rat × Rat × Rat) (y6 y7:Option D),[some (.ref p),some (.int nn),some (.ref l),some (.int (i:Int)),some (h8 l0),some (.int pick),x6,x7,x8,x9]=[some (.ref p),some (.int nn),some (.ref l),some (.int (i:Int)),some (h8 ln),some (.int pick),y6,y7,x8,x9]∧CP (i+1) (ls++[ln])∧M4 l=some (.lst (ls.map h8))∧m6 p M M4:=⟨l0,_,_,rfl,hc.app (hc.cols.new hl0) lp0,hm4,st4⟩
   walk_at "sim"
   refine⟨fun h0=>⟨fun h1=>⟨st4.pool,by omega,lg (by omega),fun r M5 r0 r1 s5=>?_⟩,fun h1=>fin0⟩,fun h0=>fin0⟩
   have hm5:=s5.keep l _ hlp hm4
   refine cB hm5 r0 (by rw[hlen];exact r1) fun d hd=>?_
   obtain⟨a,ha,rfl⟩:=Hm.mp hd
   refine⟨s5.pool,by decide,fun v M6 v0 v1 s6=>⟨s6.pool,by decide,fun u M7 u0 u1 s7=>⟨by omega,lg (by omega),aR p0 (by show pick<2;exact h1) fun w hw=>?_⟩⟩⟩
   obtain⟨w0,rfl,hw0⟩:∃ w0:Rat,w=e9 w0∧(w0≠0→cH w0):=by
    simp only[Hr,HM,or_false]at hw
    rcases hw with rfl|rfl
    ·exact⟨1,rfl,fun _=>small_one⟩
    ·exact⟨_,rfl,fun h=>eV (by omega) (by omega) (by omega) h⟩
   have s57:=s5.trans (s6.trans s7)
   have hm7:=s57.keep l _ hlp hm4
   refine cJ (fun e' M'=>M'=M7∧∃ w1:Rat,e'=[some (.ref p),some (.int nn),some (.ref l),some (.int (i:Int)),some (h8 l0),some (.int pick),some (h8 a),some (e9 w1),x8,x9]∧cH w1) ?_ ?_
   ·walk_at "sim"
    exact⟨fun _=>⟨1,rfl,small_one⟩,fun z=>⟨w0,rfl,hw0 fun y=>z (by rw[y];rfl)⟩⟩
   ·rintro e' M8 ⟨rfl,w1,rfl,hw1⟩
    have z1:=hw1.sz
    have oa:=ok a ha
    have o1:=oa.p
    have o2:=oa.q
    walk_at "sim"
    refine⟨by omega,by omega,s7.pool,by decide,fun c M9 c0 c1 s9=>?_⟩
    have st9:=st4.trans (s57.trans s9)
    have hm9:=s9.keep l _ hlp hm7
    refine aR c0 (by show c<2;exact c1) fun x hx=>?_
    simp only[Hr,HM,or_false]at hx
    rcases hx with rfl|rfl
    ·exact⟨(w1*a.1,w1*a.2.1,a.2.2),_,_,rfl,hc.app (hc.cols.taken ha hw1 (.inl rfl)) (hc.pos a ha),hm9,st9⟩
    ·exact⟨(w1*a.1,w1*a.2.1,l0.2.2),_,_,rfl,hc.app (hc.cols.taken ha hw1 (.inr hl0.r)) lp0,hm9,st9⟩
  ·rintro e' M5 ⟨ln,x6,x7,rfl,hc5,hm5,st5⟩
   walk_at "sim"
   refine cJ (fun e' M'=>M'=M5∧∃(ln:Rat × Rat × Rat) (y8 y9:Option D),e'=[some (.ref p),some (.int nn),some (.ref l),some (.int (i:Int)),some (h8 ln),some (.int pick),x6,x7,y8,y9]∧CP (i+1) (ls++[ln])) ?_ ?_
   ·walk_at "sim"
    refine⟨fun h0=>⟨fun h1=>?_,fun _=>⟨_,_,_,rfl,hc5⟩⟩,fun _=>⟨_,_,_,rfl,hc5⟩⟩
    refine cB hm5 (by omega) (by rw[hlen];omega) fun d hd=>?_
    obtain⟨a,ha,rfl⟩:=Hm.mp hd
    refine cB hm5 (by omega) (by rw[hlen];omega) fun d hd=>?_
    obtain⟨b,hb,rfl⟩:=Hm.mp hd
    walk_at "sim"
    have oa:=ok a ha
    have ob:=ok b hb
    have o1:=oa.p
    have o2:=oa.q
    have o3:=oa.r
    have o4:=ob.p
    have o5:=ob.q
    have o6:=ob.r
    have go:¬ ((a.1+b.1).num=0∧(a.2.1+b.2.1).num=0)→CP (i+1) (ls++[(a.1+b.1,a.2.1+b.2.1,a.2.2+b.2.2)]):=fun z=>hc.app (hc.cols.sum ha hb fun y=>z ⟨JJ.mpr y.1,JJ.mpr y.2⟩) (show 0<a.2.2+b.2.2 by have:=hc.pos a ha;have:=hc.pos b hb;grind)
    exact⟨by omega,by omega,by omega,fun h2=>⟨fun h3=>⟨_,_,_,rfl,hc.app (hc.cols.again ha) (hc.pos a ha)⟩,fun h3=>⟨_,_,_,rfl,go fun z=>h3 z.2⟩⟩,fun h2=>⟨_,_,_,rfl,go fun z=>h2 z.1⟩⟩
   ·rintro e' M6 ⟨rfl,ln,y8,y9,rfl,hc6⟩
    walk_at "sim"
    refine cI hm5 (gP hm5 (by rw[hlen];omega) ⟨ls++[ln],_,_,_,_,_,_,_,rfl,by simp[hll],hc6,by rw[f6];simp,st5.put hl hlp⟩)
 ·rw[r9]
  rintro e M2 ⟨ls,x3,x4,x5,x6,x7,x8,x9,rfl,hll,hc,hm,st⟩
  walk_at "sim"
  rw[eP hm]
  walk_at "sim"
  exact⟨_,fun _ _ h=>h,k ls _ (by omega) (hc.l24 (by omega)) (st.del hl hlp)⟩
theorem fV(T:Txt K mg)(d:Df K mg "_law_pool" O5 ["cell"]):Fn P w K mg base "_law_pool" 1 ["cell"] kn:=by
 have sc:=ff
 refine i9 d sc (fun ds M R Y h=>?_) (fun f cdv A outer s H E ds M R Y hr h=>?_)
 ·obtain⟨c,rfl,_⟩:=h;rfl
 ·obtain⟨c,rfl,k⟩:=h
  refine⟨_,(e5 (e7 (gm (d5 (o9 (yQ rfl) rfl T.b_max tW (d5 d7 (d5 (e8 B7 (d6 0) (e8 nk d7 d7)) d8))) (d5 (e8 F3 (d6 0) (e8 nk d7 d7)) (d5 d7 d8)))))),?_⟩
  refine⟨_,rfl,_,_,rfl,rfl,Ed,_,rfl,_,_,rfl,_,rfl,_,_,rfl,rfl,Ed,_,_,rfl,rfl,(by show(0:Int)<10 ^ 18;decide),sl 3,fun p hp=>?_⟩
  exact k p _ hp (MK.new hp) ⟨_,_,_,f6⟩
theorem AA{f:Addr}{fd:FuncData}(T:Txt K mg)(d:xt K "law" qX f fd)(FQ:Fn P w K mg base "_law_cells" 1 ["script","bound"] fH)(Gb:Fn P w K mg base "corners" 5 ["lines"] fG)(FI:Fn P w K mg base "_law_around" 44 ["found"] zR)(Gh:Fn P w K mg base "_law_due" 6 ["lines"] kK)(Fo:Fn P w K mg base "_law_next" 1 ["pool","base"] F9)(FR:Fn P w K mg base "_law_lines" 5 ["pool","most_lines"] fy)(Ga:Fn P w K mg base "_law_pool" 1 ["cell"] kn):N3 P w K mg base CX0 45 f fd ["script"] (iC K mN):=by
 have sc:=zK
 refine yw d sc (fun ds M R Y h=>by obtain⟨n,rfl,_⟩:=h;rfl) (fun cdv A outer s H E ds M R Y hr h=>?_)
 obtain⟨ns,rfl,hlen,k⟩:=h
 have hu:=hr.units
 refine⟨_,(d9 (o8 PassesOwn.never rfl (C6 (jc FQ hr (d5 (d6 0) (d5 d7 d8)))) (jn 1 sc.nd) (d9 (jst 2 sc.nd (jc Ga hr (d5 (d6 1) d8))) (d9 (jst 3 sc.nd (jc FR hr (d5 (d6 2) (d5 d7 d8)))) (G9 (i5 (jtm G8 (jc Fo hr (d5 (d6 2) (d5 d7 d8))) d7) (d9 (jst 4 sc.nd (e8 A6 d7 (jc Fo hr (d5 (d6 2) (d5 d7 d8))))) (e5 (X2 (i:=3) [4] ["k"] ["size_of_web"] sc.nd rfl (Or.inl rfl) rfl (by decide +kernel) rfl (by decide +kernel) (by decide +kernel) rfl (oV ⟨rfl,rfl⟩) (oV (Or.inl rfl)) (R9 rfl T.b_range (d5 (d6 4) d8)) (fun _ _ _ _ _ _=>(jn 0 (show(["k","size_of_web"]:List Str).Nodup by decide +kernel))) (fun _ _ _ _ _ _=>J2) (fun _ _ _ _ _ _=>(m5 (d5 (m5 (d5 (d6 0) (d5 d7 d8))) (d5 (m5 (d5 (e8 B7 (d6 1) (d6 0)) (d5 d7 d8))) (d5 (m5 (d5 (e8 A6 d7 (e8 F3 (d6 0) d7)) (d5 d7 d8))) d8)))))))) h9) (d9 (jst 5 sc.nd (jc Gh hr (d5 (d6 3) d8))) (d9 (jst 6 sc.nd (cq rfl T.b_list aV (d5 (d6 3) d8))) (d9 (jst 7 sc.nd (jc Gb hr (d5 (d6 6) d8))) (d9 (i5 (jtm (si hu) (d6 6) (d6 3)) (e5 (e7 J4)) h9) (e5 (i5 (jtm (Dj hu) (d6 5) nA) (e5 (i5 (jtm nq (d6 7) cm) (e5 (e7 J4)) h9)) (d9 (i5 (J3 (cj (Z1 (C7 (o9 (tU T.sub) rfl T.b_isinstance G5 (d5 (d6 7) (d5 (sM rfl T.b_list aV) d8))))) (cj (jtm rZ (o9 au rfl T.b_len M0 (d5 (d6 7) d8)) (o9 Bo rfl T.b_len M0 (d5 (d6 5) d8))) (cg (Z1 (C7 (o9 (Ek rfl) rfl T.b_all Br (d5 (cw [5] ["ray"] ["due"] rfl (by decide +kernel) rfl (by decide +kernel) (by decide +kernel) rfl (oV ⟨rfl,rfl⟩) (oV (Or.inl rfl)) (C6 (d6 7)) (fun _ _ _ _ _ _=>(jn 0 (show(["ray","due"]:List Str).Nodup by decide +kernel))) (fun _ _ _ _ _ _=>J2) (fun _ _ _ _ _ _=>(jm (Di hu) (d6 0) (d6 1)))) d8)))))))) (e5 (e7 J4)) h9) (d9 (i5 (Z1 (C7 (jc FI hr (d5 (d6 7) d8)))) (e5 (e7 J4)) h9) (d9 (jst 8 sc.nd (cq rfl T.b_list aV (d5 (d6 7) d8))) (d9 (P7 (AN PySem.F.slot_list_reverse PySem.F.type_list_reverse kY (d6 7))) (e5 (i5 (jtm (De hu) (jc Gb hr (d5 (wQ Bn rfl T.b_tuple tV (d5 (d6 3) d8)) d8)) (d6 8)) (e5 (e7 J4)) h9)))))))))))))))) (e5 (e7 J4))),?_⟩
 walk_at "sim"
 refine⟨ns,4,rfl,⟨by decide,by decide⟩,rfl,by omega,fun ms hml=>?_⟩
 refine Q5.by (fun i e M'=>∃ x1 x2 x3 x4 x5 x6 x7 x8:Option D,e=[some (.vl (ns.map D.int)),x1,x2,x3,x4,x5,x6,x7,x8]) ⟨_,_,_,_,_,_,_,_,rfl⟩ (fun i e M' _ _=>by simp only[p8]) ?_ ?_
 ·rintro i dd e M' hd ⟨x1,x2,x3,x4,x5,x6,x7,x8,rfl⟩
  obtain⟨n,rfl⟩:∃ n:Int,dd = .int n:=by
   have hm:=HG hd
   obtain⟨n,_,rfl⟩:=Hm.mp hm
   exact⟨n,rfl⟩
  walk_at "sim"
  refine fun p M1 hp mk hP=>⟨hP,fun ls0 M2 hl4 hlo s2=>?_⟩
  refine cJ (fun e' M'=>∃(ls:List T3) (y4:Option D),e'=[some (D.vl (Lf D.int ns)),some (D.int n),some (D.ref p),some (D.vl (Lf h8 ls)),y4,x5,x6,x7,x8]∧lH ls) ?_ ?_
  ·walk_at "sim"
   refine⟨s2.pool,by decide,fun r M3 r0 r8 s3=>⟨fun _=>⟨s3.pool,by decide,fun w M4 w0 w7 s4=>⟨⟨by omega,by omega⟩,?_⟩⟩,fun _=>⟨ls0,_,rfl,⟨by omega,hlo⟩⟩⟩⟩
   obtain⟨N,hN⟩:∃ N:Nat,6+w=(N:Int):=⟨(6+w).toNat,by omega⟩
   rw[hN,IE]
   refine J8 (xs:=Ih N) (enc:=fun k:Nat=>D.int (0+(k:Int))) (fun k=>h8 (vL N k)) (by rw[Ik];omega) trivial (fun k hk Q hQ=>?_) ?_
   ·walk_at "sim"
    have e:h8 (vL N k)=D.tup [D.tup [.int (k:Int),.int 1],D.tup [.int ((N:Int) - (k:Int)),.int 1],D.tup [.int (1+(k:Int) % 2),.int 1]]:=by
     show D.tup [e9 (((k:Int):Rat)),e9 ((((N:Int) - (k:Int):Int):Rat)),e9 (((1+(k:Int) % 2:Int):Rat))]=_
     rw[W7,W7,W7]
    rw[e]at hQ
    rw[JX]
    exact hQ
   ·exact⟨(Ih N).map (vL N),_,by rw[IF];rfl,zU (by omega) (by omega)⟩
  ·rintro e' M3 ⟨ls,y4,rfl,hls⟩
   have lcl:clL 59 (Lf h8 ls)=true:=lu (k:=59) fun d hd=>by
    obtain⟨z,_,rfl⟩:=Hm.mp hd
    rfl
   have hlo:=hls.a.lo
   walk_at "sim"
   refine⟨hls,fun pd kvs hpd hdi=>⟨hls.a.ok,?_⟩⟩
   have hcr:∀ cs,F0 ls=some cs→∀ z,z∈cs↔nV ls z:=fun cs e z=>by rw[(cE hlo e).1.mem z,Bm hlo]
   unfold xf
   cases ec:F0 ls with
   | none =>
    have hk:kvs=[]:=by
     rcases tP hlo with⟨_,al⟩|⟨cs,e,_⟩
     ·cases kvs with
      | nil=>rfl
      | cons x r =>
       obtain⟨z,hz⟩:=hdi.all x.1 (.head _)
       obtain⟨i,j,l,m,_,h1,h2,D⟩:=(hdi.mem z).mp (by rw[← hz];exact .head _)
       have:=al l (HG h1) m (HG h2)
       exact absurd (by unfold crL;grind) D.cr
     ·rw[ec]at e;cases e
    subst hk
    refine⟨lcl,lcl,fun p1 hp1=>?_⟩
    have n1:pd≠p1:=fun z=>by rw[← z,f6]at hp1;cases hp1
    refine⟨pd,p1,[],rfl,rfl,by rw[p7 n1];exact f6,f6,?_⟩
    show BlK (.bl true) _ _
    walk_at "sim"
    rw[qv (b:=true) rfl]
    walk_at "sim"
    exact⟨_,_,_,_,_,_,_,_,rfl⟩
   | some cs =>
    have mem:=hcr cs ec
    have hdc:D8 kvs fun z=>z∈cs:=hdi.congr fun z=>(mem z).symm
    obtain⟨C,_⟩:=cE hlo ec
    have nd:=lA C.chn
    have hl:=hdc.len nd
    have hne:kvs.isEmpty=false:=by
     cases kvs with
     | nil=>exact absurd (List.length_eq_zero_iff.mp hl) C.ne
     | cons _ _=>rfl
    obtain⟨c1,c2⟩:=tO (n:=800) hlo (fun l hl=>(hls.a.2 l hl).b6) ec
    have h12:=hls.1
    have clz:clL 50 (cs.map rD)=true:=lu fun d hd=>by
     obtain⟨y,_,rfl⟩:=Hm.mp hd
     rfl
    intro pf hpf
    have n2:pd≠pf:=fun z=>by rw[← z,f6]at hpf;cases hpf
    refine⟨lcl,lcl,fun p1 hp1=>?_⟩
    have n1:pf≠p1:=fun z=>by rw[← z,f6]at hp1;cases hp1
    have n3:pd≠p1:=fun z=>by rw[← z,p7 n2,f6]at hp1;cases hp1
    have m1:j9 (j9 (j9 M3 pd (.dic thP kvs)) pf (.lst (cs.map rD))) p1 (.dic thP []) pd=some (.dic thP kvs):=by rw[p7 n3,p7 n2];exact f6
    have m2:j9 (j9 (j9 M3 pd (.dic thP kvs)) pf (.lst (cs.map rD))) p1 (.dic thP []) pf=some (.lst (cs.map rD)):=by rw[p7 n1];exact f6
    have m3:j9 (j9 (j9 M3 pd (.dic thP kvs)) pf (.lst (cs.map rD))) p1 (.dic thP []) p1=some (.dic thP []):=f6
    generalize j9 (j9 (j9 M3 pd (.dic thP kvs)) pf (.lst (cs.map rD))) p1 (.dic thP [])=M4 at m1 m2 m3 ⊢
    refine⟨pd,p1,kvs,rfl,rfl,m1,m3,?_⟩
    rw[hne]
    walk_at "sim"
    rw[j8 (vq m2) rfl]
    walk_at "sim"
    rw[bB (cf m2),Hk]
    walk_at "sim"
    refine⟨pd,kvs,rfl,m1,?_⟩
    walk_at "sim"
    refine⟨fun z=>absurd (by rw[hl]) z,fun _=>aW (N9 m2) ?_⟩
    refine J8 (xs:=cs) (enc:=rD) (fun _=>D.bl true) (by omega) (N9 m2) (fun z hz Q hQ=>?_) ?_
    ·walk_at "sim"
     refine⟨pd,kvs,zk z,rfl,rfl,m1,hdc.ok,?_⟩
     rw[gK.mpr ((hdc.mem z).mpr hz)]
     exact hQ
    rw[show cs.map (fun _=>D.bl true)=(cs.map fun _=>true).map D.bl by rw[IF];rfl]
    walk_at "sim"
    rw[show(cs.map fun _=>true).all id=true by rw[List.all_map];exact Iz.mpr fun _ _=>rfl]
    walk_at "sim"
    refine⟨cs,ls,m2,hls,ec,_,_,rfl,N9 m2,cI m2 ⟨pf,_,rfl,rfl,m2,hls.a.ok,fun pg hpg=>?_⟩⟩
    refine wX f6 clz clz ?_
    walk_at "sim"
    exact⟨_,_,_,_,_,_,_,_,rfl⟩
 ·rintro e M' ⟨x1,x2,x3,x4,x5,x6,x7,x8,rfl⟩
  walk_at "sim"
  exact k _
end
end K23
namespace K23
open PySem PySem.Spec L2 DL GM
theorem Bu{P:Program}{w:World}{K:Hi}{mg:Str→Option Value}{fa:Addr}(T:Txt K mg)(hfa:mg "law" = some (.ref fa))(htr:P.given.tree=none)(Gv:Df K mg "_law_cells" K5 ["script","bound"])(Hd:Df K mg "less" kB ["one","other"])(GP:Df K mg "is_lower" T4 ["one","other"])(Gq:Df K mg "from_lowest" G2 ["rays"])(GQ:Df K mg "opposite" T1 ["one"])(GZ:Df K mg "facing" bM ["side"])(GX:Df K mg "divisor" Y4 ["one","other"])(GR:Df K mg "is_whole" T2 ["thing"])(Hb:Df K mg "ratio" fm ["top","bottom"])(He:Df K mg "veer" kz ["one","other"])(Ha:Df K mg "met_at" bL ["one","other"])(Hf:Df K mg "turn" kA ["one","other","third"])(GB:Df K mg "next_side" O2 ["sides","here"])(GC:Df K mg "juts_more" O3 ["one","other"])(GD:Df K mg "outermost" O1 ["sides"])(GF:Df K mg "tops_over" O0 ["ratios","bottom"])(Gj:Df K mg "common_bottom" D4 ["ratios"])(GS:Df K mg "sides_of" T0 ["lines"])(GU:Df K mg "half_rim" T5 ["lines"])(GY:Df K mg "corners" Y5 ["lines"])(Gn:Df K mg "_law_low" K3 ["top","bottom"])(Gp:Df K mg "_law_sum" K2 ["one","other"])(GG:Df K mg "_law_back" P0 ["one"])(Gi:Df K mg "_law_less" F2 ["one","other"])(Gw:Df K mg "_law_taken" K1 ["one","other"])(FT:Df K mg "_law_cross" A8 ["one","other"])(Gx:Df K mg "_law_below" K6 ["one","other"])(Gy:Df K mg "_law_ahead" K7 ["one","other"])(Gr:Df K mg "_law_around" G4 ["found"])(GH:Df K mg "_law_bare" O9 ["one"])(Gz:Df K mg "_law_worth" K0 ["p","q","ray"])(GI:Df K mg "_law_lets" O8 ["lines","ray"])(GV:Df K mg "_law_met" T6 ["one","other","worth","more"])(GW:Df K mg "_law_due" T7 ["lines"])(GJ:Df K mg "_law_next" O6 ["pool","base"])(GK:Df K mg "_law_wide" O4 ["pool","base"])(Gs:Df K mg "_law_number" G3 ["pool"])(GL:Df K mg "_law_line" O7 ["pool"])(GA:Df K mg "_law_lines" K4 ["pool","most_lines"])(GN:Df K mg "_law_pool" O5 ["cell"])(Hg:DfL K mg "law" qX ["script"]) :
  ∃ fd:FuncData,(∀(s:Shared) (u:Value),BindsTo s fd ⟨[u],[]⟩ [("script",u)])∧∀ base:Heap,base.NoSeer→N3 P w K mg base CX0 45 fa fd ["script"] (iC K mN):=by
 obtain⟨f,fd,F,hm,hb⟩:=Hg.ex
 have e:f=fa:=by rw[hm]at hfa;injection hfa with z;injection z
 subst e
 refine⟨fd,fun s u=>.of_eq (hb [u] rfl),fun base hns=>?_⟩
 have hsee:xq P base:=⟨hns,htr⟩
 have FQ:=cY (P:=P) (w:=w) (base:=base) T Gv
 have Gu:=wq (P:=P) (w:=w) (base:=base) T Hd
 have Gd:=jk (P:=P) (w:=w) (base:=base) T GP Gu
 have FF:=bR (P:=P) (w:=w) (base:=base) T Gq Gd
 have FL:=ji (P:=P) (w:=w) (base:=base) T GQ
 have FJ:=oA (P:=P) (w:=w) (base:=base) T GZ
 have FA:=kO (P:=P) (w:=w) (base:=base) T GX
 have FK:=jj (P:=P) (w:=w) (base:=base) T GR
 have Gk:=rX (P:=P) (w:=w) (base:=base) T Hb FK FA
 have Fw:=wm (P:=P) (w:=w) (base:=base) T He
 have Gm:=oz (P:=P) (w:=w) (base:=base) T Ha Gk Fw
 have GO:=wo (P:=P) (w:=w) (base:=base) T Hf Fw
 have FD:=fR (P:=P) (w:=w) (base:=base) T GB Fw GO
 have FU:=fT (P:=P) (w:=w) (base:=base) T GC
 have FW:=fQ (P:=P) (w:=w) (base:=base) T GD FU
 have FV:=fP (P:=P) (w:=w) (base:=base) T GF
 have Fy:=Y7 (P:=P) (w:=w) (base:=base) T Gj FA
 have Ge:=jh (P:=P) (w:=w) (base:=base) T GS FJ FV Fy
 have Gf:=jl (P:=P) (w:=w) (base:=base) T GU Fw FD FW Ge
 have Gb:=kP (P:=P) (w:=w) (base:=base) T GY FF FL FJ Gm Gf
 have FG:=bU (P:=P) (w:=w) (base:=base) T Gn hsee
 have FH:=bS (P:=P) (w:=w) (base:=base) T Gp FG
 have Fs:=gf (P:=P) (w:=w) (base:=base) T GG
 have FC:=ax (P:=P) (w:=w) (base:=base) T Gi FH Fs
 have Fp:=jr (P:=P) (w:=w) (base:=base) T Gn
 have Fm:=cV (P:=P) (w:=w) (base:=base) T Gw Fp
 have Fz:=Y8 (P:=P) (w:=w) (base:=base) T FT FC Fm
 have Ft:=jo (P:=P) (w:=w) (base:=base) T Gp Fp
 have Fq:=fZ (P:=P) (w:=w) (base:=base) T Gi Ft Fs
 have Fv:=cZ (P:=P) (w:=w) (base:=base) T Gx
 have FN:=dc (P:=P) (w:=w) (base:=base) T Gy Fv
 have FO:=cX (P:=P) (w:=w) (base:=base) T FT Fq Fm
 have FI:=bV (P:=P) (w:=w) (base:=base) T Gr Fz Fq FN FO
 have Fu:=Y9 (P:=P) (w:=w) (base:=base) T FT Fq Fm
 have FX:=gc (P:=P) (w:=w) (base:=base) T GH
 have FP:=cU (P:=P) (w:=w) (base:=base) T Gz Ft Fm
 have FY:=fY (P:=P) (w:=w) (base:=base) T GI Fv FX FP
 have Gg:=jq (P:=P) (w:=w) (base:=base) T GV Fm Fq Fp Fu
 have Gh:=js (P:=P) (w:=w) (base:=base) T GW Fu FY Fs Gg
 have Fo:=fW (P:=P) (w:=w) (base:=base) T GJ
 have FE:=fU (P:=P) (w:=w) (base:=base) T GK Fo
 have Fx:=bT (P:=P) (w:=w) (base:=base) T Gs Fp FE Fo
 have FZ:=fX (P:=P) (w:=w) (base:=base) T GL Fp Fo Fx
 have FR:=cW (P:=P) (w:=w) (base:=base) T GA Fo Ft Fm Fp FZ
 have Ga:=fV (P:=P) (w:=w) (base:=base) T GN
 exact AA T F FQ Gb FI Gh Fo FR Ga
theorem ke{l:PySem.W.OpenLaw}{q:Program}{loose:List Str}{XP:(Str→Option Value)→Heap→Prop}{YP:World→Heap→Prop}{d:DefRec}{K:Params→Hi}(hq:PyProof.Rows.importsNone q=true)(hn:l.most=some 63)(hdf:d.params.defaults=[])
  (hY:∀(w:World) (h:Heap),YP w h→(K w.params).In h)
  (F:∀(w:World) (mg:Str→Option Value) (fa:Addr) (h:Heap),(K w.params).In h→h.Ns mainGlobals mg→mg d.name=some (.ref fa) →
   ∃ fd:FuncData,(∀(s:Shared) (u:Value),BindsTo s fd ⟨[u],[]⟩ [("script",u)])∧∀ base:Heap,base.NoSeer→N3 l.prog w (K w.params) mg base CX0 45 fa fd ["script"] (iC (K w.params) mN)) :
  PySem.W.WalkO q loose XP YP l.row.toRowW d [] (fun f vs=>PySem.call f vs) :=
 L2.qG (n:=63) (k:=45) (x := "script") (CX:=CX0) (sp:=fun K=>iC K mN) hq hn (by decide) hdf ⟨rfl,by decide,by decide⟩ hY (fun w mg fa h a b c=>let ⟨fd,h1,h2⟩:=F w mg fa h a b c;⟨fd,h1,fun base _ _ hd=>h2 base hd⟩)
  (fun K H a ns hl hO hS=>AI hO hS ⟨ns,rfl,hl,fun _=>rfl⟩) fun _ _ _ _ z=>z
end K23
namespace PySem.W.Fast
theorem te15197111263508922277:True:=trivial
theorem tw18302002489576759339:True:=⟨⟩
theorem tw4156455611183235517:True:=⟨⟩
theorem tw16546724500198733920:True:=⟨⟩
theorem tw3465804373389075837:True:=⟨⟩
theorem tw17755139795797038716:True:=⟨⟩
theorem tw872000248515453567:True:=⟨⟩
theorem tw7640301407716199557:True:=⟨⟩
theorem tw16481547887135200130:True:=⟨⟩
theorem tw4750075271082852452:True:=⟨⟩
theorem tw51240957780204350:True:=⟨⟩
theorem tw9280992801752371267:True:=⟨⟩
theorem tw11626367659663758222:True:=⟨⟩
theorem tw2878241327320316589:True:=⟨⟩
theorem tw11664248873978810925:True:=⟨⟩
theorem tw15207343882206729103:True:=⟨⟩
theorem tw747958519056381446:True:=⟨⟩
theorem tw9792487012881965109:True:=⟨⟩
theorem tw6292059238879704801:True:=⟨⟩
theorem tw2452753793960620452:True:=⟨⟩
theorem tw1297587235331565473:True:=⟨⟩
theorem tw14520756951838725268:True:=⟨⟩
theorem tw3598574662191991867:True:=⟨⟩
theorem tw14831495313290318140:True:=⟨⟩
theorem tw4262455010329082904:True:=⟨⟩
theorem tw9423537825178083661:True:=⟨⟩
theorem tw554130140593153944:True:=⟨⟩
theorem tw16984710703880459712:True:=⟨⟩
theorem tw5638600347669546853:True:=⟨⟩
theorem tw11019874150856107818:True:=⟨⟩
theorem tw7941078630146696164:True:=⟨⟩
theorem tw13407714406997850494:True:=⟨⟩
theorem tw5825122831449510275:True:=⟨⟩
theorem tw16510724476248612583:True:=⟨⟩
theorem tw12327316326683529333:True:=⟨⟩
theorem tw2942635001215749540:True:=⟨⟩
theorem tw11067621899500296260:True:=⟨⟩
theorem tw10914988459317596913:True:=⟨⟩
theorem tw7408524092376008222:True:=⟨⟩
theorem tw1065314915777712417:True:=⟨⟩
theorem tw4322824897797082201:True:=⟨⟩
theorem tw12668460822542471141:True:=⟨⟩
theorem tw16907187736424328135:True:=⟨⟩
theorem tw18178821365609841660:True:=⟨⟩
theorem tw490638797650113454:True:=⟨⟩
theorem tw12197703465441544080:True:=⟨⟩
theorem tw3376377740416409221:True:=⟨⟩
theorem tw16916462451594902243:True:=⟨⟩
theorem tw8774974872860888131:True:=⟨⟩
theorem tw1105227358213574919:True:=⟨⟩
theorem tw14148653821803231610:True:=⟨⟩
theorem tw2989994681538106357:True:=⟨⟩
theorem tw10186206236738092931:True:=⟨⟩
theorem tw10105763255826829585:True:=⟨⟩
theorem tw4193943569740854987:True:=⟨⟩
theorem tw10179740081043257380:True:=⟨⟩
theorem tw13196357155229561129:True:=⟨⟩
theorem tw3875066199347829465:True:=⟨⟩
theorem tw2635932067673224200:True:=⟨⟩
theorem tw13545698857020175123:True:=⟨⟩
theorem tw17221692901260995516:True:=⟨⟩
theorem tw16013791200406188855:True:=⟨⟩
theorem tw5543430193814140708:True:=⟨⟩
theorem tw7314457157106519128:True:=⟨⟩
theorem tw4993713697865386923:True:=⟨⟩
theorem tw12773049381367131847:True:=⟨⟩
theorem tw14967166486457419081:True:=⟨⟩
theorem tw10442110836160175379:True:=⟨⟩
theorem tw665343375169294809:True:=⟨⟩
theorem tw9408629656124029204:True:=⟨⟩
theorem tw3630608996567943874:True:=⟨⟩
theorem tw14771279619689871728:True:=⟨⟩
theorem tw196468110499133921:True:=⟨⟩
theorem tw12043477337460083465:True:=⟨⟩
theorem tw7447220120768036582:True:=⟨⟩
theorem tw10642265664174438774:True:=⟨⟩
theorem tw7142901456474859443:True:=⟨⟩
theorem tw218344729247477796:True:=⟨⟩
theorem tw168590392694189282:True:=⟨⟩
theorem tw270227218222950446:True:=⟨⟩
theorem tw10405861971821999550:True:=⟨⟩
theorem tw8145585603322260295:True:=⟨⟩
theorem tw17163903337685999083:True:=⟨⟩
theorem tw14921922857123920109:True:=⟨⟩
theorem tw14754266741092857392:True:=⟨⟩
theorem tw6024433230689719419:True:=⟨⟩
theorem tw2360903066393121614:True:=⟨⟩
end PySem.W.Fast
open PySem PySem.W PyProof.Rows
set_option maxRecDepth 100000 in
set_option maxHeartbeats 0 in
theorem PySem.Challenge.cw_roundglass_k23_corners_told_holds : PySem.Challenge.rw_roundglass_k23_corners_told.Holds := by
 w_on;o_law;k_head;(case hw=>w_witness2)
 k_fill
 refine K23.ke (l:=PySem.Challenge.rw_roundglass_k23_corners_told) (by decide +kernel) rfl rfl (fun w h Y=>PySem.W.kIn_of Y) ?F
 case F =>
  intro w mg fa h KX G hmg
  refine' K23.Bu ⟨PySem.W.mg_none_of KX G ?z_abs,PySem.W.mg_none_of KX G ?z_all,PySem.W.mg_none_of KX G ?z_bool,PySem.W.mg_none_of KX G ?z_enumerate,PySem.W.mg_none_of KX G ?z_int,PySem.W.mg_none_of KX G ?z_isinstance,PySem.W.mg_none_of KX G ?z_len,PySem.W.mg_none_of KX G ?z_list,PySem.W.mg_none_of KX G ?z_max,PySem.W.mg_none_of KX G ?z_min,PySem.W.mg_none_of KX G ?z_range,PySem.W.mg_none_of KX G ?z_tuple,PySem.W.mg_none_of KX G ?z_zip,DL.CC _⟩ hmg rfl (DL.j5 KX G ?n0 ?l0 ?c0 ?k0 ?b0) (DL.j5 KX G ?n1 ?l1 ?c1 ?k1 ?b1) (DL.j5 KX G ?n2 ?l2 ?c2 ?k2 ?b2) (DL.j5 KX G ?n3 ?l3 ?c3 ?k3 ?b3) (DL.j5 KX G ?n4 ?l4 ?c4 ?k4 ?b4) (DL.j5 KX G ?n5 ?l5 ?c5 ?k5 ?b5) (DL.j5 KX G ?n6 ?l6 ?c6 ?k6 ?b6) (DL.j5 KX G ?n7 ?l7 ?c7 ?k7 ?b7) (DL.Bc KX G ?n8 ?l8 ?c8 ?k8 ?b8) (DL.j5 KX G ?n9 ?l9 ?c9 ?k9 ?b9) (DL.j5 KX G ?n10 ?l10 ?c10 ?k10 ?b10) (DL.j5 KX G ?n11 ?l11 ?c11 ?k11 ?b11) (DL.j5 KX G ?n12 ?l12 ?c12 ?k12 ?b12) (DL.j5 KX G ?n13 ?l13 ?c13 ?k13 ?b13) (DL.j5 KX G ?n14 ?l14 ?c14 ?k14 ?b14) (DL.j5 KX G ?n15 ?l15 ?c15 ?k15 ?b15) (DL.j5 KX G ?n16 ?l16 ?c16 ?k16 ?b16) (DL.j5 KX G ?n17 ?l17 ?c17 ?k17 ?b17) (DL.j5 KX G ?n18 ?l18 ?c18 ?k18 ?b18) (DL.j5 KX G ?n19 ?l19 ?c19 ?k19 ?b19) (DL.j5 KX G ?n20 ?l20 ?c20 ?k20 ?b20) (DL.j5 KX G ?n21 ?l21 ?c21 ?k21 ?b21) (DL.j5 KX G ?n22 ?l22 ?c22 ?k22 ?b22) (DL.j5 KX G ?n23 ?l23 ?c23 ?k23 ?b23) (DL.j5 KX G ?n24 ?l24 ?c24 ?k24 ?b24) (DL.j5 KX G ?n25 ?l25 ?c25 ?k25 ?b25) (DL.j5 KX G ?n26 ?l26 ?c26 ?k26 ?b26) (DL.j5 KX G ?n27 ?l27 ?c27 ?k27 ?b27) (DL.j5 KX G ?n28 ?l28 ?c28 ?k28 ?b28) (DL.j5 KX G ?n29 ?l29 ?c29 ?k29 ?b29) (DL.j5 KX G ?n30 ?l30 ?c30 ?k30 ?b30) (DL.j5 KX G ?n31 ?l31 ?c31 ?k31 ?b31) (DL.j5 KX G ?n32 ?l32 ?c32 ?k32 ?b32) (DL.j5 KX G ?n33 ?l33 ?c33 ?k33 ?b33) (DL.j5 KX G ?n34 ?l34 ?c34 ?k34 ?b34) (DL.j5 KX G ?n35 ?l35 ?c35 ?k35 ?b35) (DL.j5 KX G ?n36 ?l36 ?c36 ?k36 ?b36) (DL.j5 KX G ?n37 ?l37 ?c37 ?k37 ?b37) (DL.j5 KX G ?n38 ?l38 ?c38 ?k38 ?b38) (DL.j5 KX G ?n39 ?l39 ?c39 ?k39 ?b39) (DL.Bb KX G ?n40 ?l40 ?c40 ?k40 ?b40)
  (case n0=>k_is);(case l0=>k_is);(case c0=>k_is);(case k0=>k_is);(case b0=>(intro us hl;exact match us,hl with|[_,_],_=>rfl))
  (case n1=>k_is);(case l1=>k_is);(case c1=>k_is);(case k1=>k_is);(case b1=>(intro us hl;exact match us,hl with|[_,_],_=>rfl))
  (case n2=>k_is);(case l2=>k_is);(case c2=>k_is);(case k2=>k_is);(case b2=>(intro us hl;exact match us,hl with|[_,_],_=>rfl))
  (case n3=>k_is);(case l3=>k_is);(case c3=>k_is);(case k3=>k_is);(case b3=>(intro us hl;exact match us,hl with|[_],_=>rfl))
  (case n4=>k_is);(case l4=>k_is);(case c4=>k_is);(case k4=>k_is);(case b4=>(intro us hl;exact match us,hl with|[_],_=>rfl))
  (case n5=>k_is);(case l5=>k_is);(case c5=>k_is);(case k5=>k_is);(case b5=>(intro us hl;exact match us,hl with|[_],_=>rfl))
  (case n6=>k_is);(case l6=>k_is);(case c6=>k_is);(case k6=>k_is);(case b6=>(intro us hl;exact match us,hl with|[_,_],_=>rfl))
  (case n7=>k_is);(case l7=>k_is);(case c7=>k_is);(case k7=>k_is);(case b7=>(intro us hl;exact match us,hl with|[_],_=>rfl))
  (case n8=>k_is);(case l8=>k_is);(case c8=>k_is);(case k8=>k_is);(case b8=>(intro us hl S;exact match us,hl with|[_,_],_=>rfl))
  (case n9=>k_is);(case l9=>k_is);(case c9=>k_is);(case k9=>k_is);(case b9=>(intro us hl;exact match us,hl with|[_,_],_=>rfl))
  (case n10=>k_is);(case l10=>k_is);(case c10=>k_is);(case k10=>k_is);(case b10=>(intro us hl;exact match us,hl with|[_,_],_=>rfl))
  (case n11=>k_is);(case l11=>k_is);(case c11=>k_is);(case k11=>k_is);(case b11=>(intro us hl;exact match us,hl with|[_,_,_],_=>rfl))
  (case n12=>k_is);(case l12=>k_is);(case c12=>k_is);(case k12=>k_is);(case b12=>(intro us hl;exact match us,hl with|[_,_],_=>rfl))
  (case n13=>k_is);(case l13=>k_is);(case c13=>k_is);(case k13=>k_is);(case b13=>(intro us hl;exact match us,hl with|[_,_],_=>rfl))
  (case n14=>k_is);(case l14=>k_is);(case c14=>k_is);(case k14=>k_is);(case b14=>(intro us hl;exact match us,hl with|[_],_=>rfl))
  (case n15=>k_is);(case l15=>k_is);(case c15=>k_is);(case k15=>k_is);(case b15=>(intro us hl;exact match us,hl with|[_,_],_=>rfl))
  (case n16=>k_is);(case l16=>k_is);(case c16=>k_is);(case k16=>k_is);(case b16=>(intro us hl;exact match us,hl with|[_],_=>rfl))
  (case n17=>k_is);(case l17=>k_is);(case c17=>k_is);(case k17=>k_is);(case b17=>(intro us hl;exact match us,hl with|[_],_=>rfl))
  (case n18=>k_is);(case l18=>k_is);(case c18=>k_is);(case k18=>k_is);(case b18=>(intro us hl;exact match us,hl with|[_],_=>rfl))
  (case n19=>k_is);(case l19=>k_is);(case c19=>k_is);(case k19=>k_is);(case b19=>(intro us hl;exact match us,hl with|[_],_=>rfl))
  (case n20=>k_is);(case l20=>k_is);(case c20=>k_is);(case k20=>k_is);(case b20=>(intro us hl;exact match us,hl with|[_,_],_=>rfl))
  (case n21=>k_is);(case l21=>k_is);(case c21=>k_is);(case k21=>k_is);(case b21=>(intro us hl;exact match us,hl with|[_,_],_=>rfl))
  (case n22=>k_is);(case l22=>k_is);(case c22=>k_is);(case k22=>k_is);(case b22=>(intro us hl;exact match us,hl with|[_],_=>rfl))
  (case n23=>k_is);(case l23=>k_is);(case c23=>k_is);(case k23=>k_is);(case b23=>(intro us hl;exact match us,hl with|[_,_],_=>rfl))
  (case n24=>k_is);(case l24=>k_is);(case c24=>k_is);(case k24=>k_is);(case b24=>(intro us hl;exact match us,hl with|[_,_],_=>rfl))
  (case n25=>k_is);(case l25=>k_is);(case c25=>k_is);(case k25=>k_is);(case b25=>(intro us hl;exact match us,hl with|[_,_],_=>rfl))
  (case n26=>k_is);(case l26=>k_is);(case c26=>k_is);(case k26=>k_is);(case b26=>(intro us hl;exact match us,hl with|[_,_],_=>rfl))
  (case n27=>k_is);(case l27=>k_is);(case c27=>k_is);(case k27=>k_is);(case b27=>(intro us hl;exact match us,hl with|[_,_],_=>rfl))
  (case n28=>k_is);(case l28=>k_is);(case c28=>k_is);(case k28=>k_is);(case b28=>(intro us hl;exact match us,hl with|[_],_=>rfl))
  (case n29=>k_is);(case l29=>k_is);(case c29=>k_is);(case k29=>k_is);(case b29=>(intro us hl;exact match us,hl with|[_],_=>rfl))
  (case n30=>k_is);(case l30=>k_is);(case c30=>k_is);(case k30=>k_is);(case b30=>(intro us hl;exact match us,hl with|[_,_,_],_=>rfl))
  (case n31=>k_is);(case l31=>k_is);(case c31=>k_is);(case k31=>k_is);(case b31=>(intro us hl;exact match us,hl with|[_,_],_=>rfl))
  (case n32=>k_is);(case l32=>k_is);(case c32=>k_is);(case k32=>k_is);(case b32=>(intro us hl;exact match us,hl with|[_,_,_,_],_=>rfl))
  (case n33=>k_is);(case l33=>k_is);(case c33=>k_is);(case k33=>k_is);(case b33=>(intro us hl;exact match us,hl with|[_],_=>rfl))
  (case n34=>k_is);(case l34=>k_is);(case c34=>k_is);(case k34=>k_is);(case b34=>(intro us hl;exact match us,hl with|[_,_],_=>rfl))
  (case n35=>k_is);(case l35=>k_is);(case c35=>k_is);(case k35=>k_is);(case b35=>(intro us hl;exact match us,hl with|[_,_],_=>rfl))
  (case n36=>k_is);(case l36=>k_is);(case c36=>k_is);(case k36=>k_is);(case b36=>(intro us hl;exact match us,hl with|[_],_=>rfl))
  (case n37=>k_is);(case l37=>k_is);(case c37=>k_is);(case k37=>k_is);(case b37=>(intro us hl;exact match us,hl with|[_],_=>rfl))
  (case n38=>k_is);(case l38=>k_is);(case c38=>k_is);(case k38=>k_is);(case b38=>(intro us hl;exact match us,hl with|[_,_],_=>rfl))
  (case n39=>k_is);(case l39=>k_is);(case c39=>k_is);(case k39=>k_is);(case b39=>(intro us hl;exact match us,hl with|[_],_=>rfl))
  (case n40=>k_is);(case l40=>k_is);(case c40=>k_is);(case k40=>k_is);(case b40=>(intro us hl;exact match us,hl with|[_],_=>rfl))
  (case z_abs=>k_is);(case z_all=>k_is);(case z_bool=>k_is);(case z_enumerate=>k_is);(case z_int=>k_is);(case z_isinstance=>k_is);(case z_len=>k_is);(case z_list=>k_is);(case z_max=>k_is);(case z_min=>k_is);(case z_range=>k_is);(case z_tuple=>k_is);(case z_zip=>k_is)
end
