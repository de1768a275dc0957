import PyProof.Rows.All
import OpenK.KLine
import KE.KIsAll
import KE.KItem
import KE.KxBytes
import Wide.FinOn
import PyProof.EqAt
import PyProof.EqKinds
import PyProof.TupleCall
import PyProof.ZipIter
import PyProof.EnumMake
import PyProof.EnumFor
import PyProof.Rows.EnumRows
import PyProof.CompMap
import PyProof.CompUse
import KE.KRevSl
import KE.KRevIter
import PyProof.ListRange
import PyProof.AutoRange
import PyProof.FactsAll.range_2
import PyProof.MaxThree
import KE.RegKTryMore
import PyProof.Rows.SumAny
import KE.KMinBuiltin
import PyProof.Rows.CallKwBuiltin
import PyProof.JoinWalk
import PyProof.StrBlockL
import PyProof.StrCalls2
import PyProof.CallStr
import PyProof.Rows.StrWeight2
import PyProof.FitsInt
import PyProof.FactsAll.range_1
import PyProof.SeqRoads2
import KE.RegKIsAll
import PyProof.ExcArgsOwn
import PyProof.NsDelKeeps
import PyProof.RulesAs
import KE.KIntText
import PyProof.Rows.StrNews2
import PyProof.StrBlockH
import PyProof.Rows.RuleDivmod
import KE.IntTextText
import OpenK.KTop
import Lean
import PySem.Challenge.RW_roundglass_k59_desk_keeps
noncomputable section
open PySem.W renaming Frag→IT
open PySem renaming wpAny_bind→IU,wpAny_pure→Jf
open PySem.Heap renaming get?_push_of_some→IV,lt_size→Jb,get?_push_size→Je,size_push→JR,get?_update_other→Lj,get?_update_self→Lq,get?_none_of_le→LA
open List renaming length_map→IW,map_cons→IY,mem_cons_self→IZ,mem_cons_of_mem→Jc,size_toArray→Jg,getElem?_eq_getElem→Ji,mem_cons→Jj,getElem?_eq_some_iff→Jm,mem_append_right→Jn,replicate→Jo,length_append→Jp,map_nil→Jq,not_mem_nil→Js,map_append→Jt,getElem?_map→Ju,length_cons→Jv,length_take→Jw,append_nil→Jy,length_drop→JB,mem_of_getElem?→JC,mem_append→JF,dropLast_concat_getLast→JL,getElem?_replicate→JM,take_succ_eq_append_getElem→JN,takeWhile_cons_of_pos→JP,replicate_succ→JQ,length_reverse→JU,take_of_length_le→JV,mem_singleton→JY,range→JZ,flatten_cons→Kb,lookup→Kd,take_length→Kf,length→Kj,length_replicate→Kk,map_map→Kl,append_assoc→Km,dropWhile_cons_of_pos→Kn,mem_append_left→Ko,lookup_cons→Kp,filterMap_cons→Kq,map_inj_right→Ks,getElem?_set_self→Kv,map→Kx,getElem?_set_ne→KC,getElem?_append→KD,nodup_cons→KH,map_congr_left→KJ,getD_eq_getElem?_getD→KO,takeWhile_cons_of_neg→KP,mem_filterMap→KQ,getElem?_eq_none_iff→KU,take_zero→KZ,reverse_cons→La,all_cons→Ld,length_eq_zero_iff→Le,getElem_mem→Lh,cons_append→Li,drop_eq_nil_of_le→Ll,drop_of_length_le→Lm,dropWhile_sublist→Ln,of_mem_zip→Lp,length_singleton→Lr,forIn_cons→Lu,getElem?_reverse→Lv,length_nil→Lw,find?_cons→Lx,getElem?_eq_none→Ly,reverse_reverse→LB,dropLast_concat→LC,getLast?_concat→LD,mem_of_mem_take→LF,mem_of_mem_drop→LG,map_eq_nil_iff→LK,any_cons→LM,filter_append→LP,getElem?_drop→LQ,getElem?_set→LV,take_add_one→LW,mem_map→Ma,zipIdx_cons→Md,ext_getElem→Me,map_reverse→Mg,isEmpty_iff→Mh,all_eq_true→Mi,mem_filter→Mj,nil_append→Ml,zipIdx_nil→Mq,map_id→Mv,mem_range→Mw,forIn_nil→My,drop_zero→MA,drop_drop→MC,foldl→MD,map_take→MF,map_drop→MG
open Nat renaming lt_of_lt_of_le→IX,le_refl→Ja,le_trans→Jk,ne_of_lt→Jr,zero_le→Jx,pow_le_pow_right→JD,gcd→JK,lt_irrefl→Kc,lt_of_le_of_lt→Kh,ne_of_gt→Ky,lt_succ_self→Kz,le_add_right→KA,gcd_comm→KR,min_le_right→Lf,le_max_right→Lg,le_of_eq→Lo,le_max_left→Ls,pos_iff_ne_zero→LI,eq_zero_or_pos→LN,max_le→LU,le_of_lt→LX,sub_zero→LY,lt_or_ge→LZ,min_eq_right→Mf,log2_lt→Mm,le_antisymm→Mr,min_eq_left→Mu
open Int renaming natCast_inj→Jd,natAbs_natCast→Jl,toNat_natCast→Ka,emod_lt_of_pos→Kt,eq_ofNat_of_zero_le→Ku,natAbs_mul→Kw,emod_nonneg→KI,sign_eq_neg_one_of_neg→KN,natAbs_ediv_le_natAbs→KW,natAbs_neg→KY,sign_eq_one_of_pos→Lk,neg_ediv_of_dvd→LJ,natCast_nonneg→LO,toNat→LS,zero_sub→Mb,mul_ne_zero→Mn,natAbs_pos→Mz,gcd→MH
open Bool renaming false_ne_true→Jh,or_eq_true→Jz,and_eq_true→JH,noConfusion→JJ,and_false→Kg,eq_iff_iff→Ki,true_and→KG,false_eq_true→KS,not_eq_true'→Lb,and_true→LR,false_and→Mx,or_false→ME
open Classical renaming propDecidable→Ke
open Option renaming isSome_iff_exists→Kr,map→Lz,getD_none→Mc
open Rat renaming divInt→Lc,num_nonneg→LH,neg_num→Mo,neg_den→Mp,num_intCast→Ms,den_intCast→Mt,mkRat_self→MB
set_option compiler.extract_closed false
set_option Elab.async false
set_option linter.all false
set_option maxRecDepth 100000
section
namespace L2
open PySem PySem.Spec PyProof.Rows
noncomputable abbrev Key:=Sum Int Str
noncomputable def Ao:Key→Value→Bool
 | .inl k,v=>Value.isInt k v
 | .inr x,v=>Value.isStrOf x v
noncomputable def GS(w:World):Key→Int
 | .inl k=>hashInt k
 | .inr x=>hashStr w x
theorem v9:∀{k:Key} {v:Value},Ao k v=true→(∃ i t,k=Sum.inl i∧v=Value.int i t)∨(∃ x t,k=Sum.inr x∧v=Value.str x t)
 | .inl i,v,h=>by
  obtain⟨t,e⟩:=Value.isInt_shape (k:=i) (v:=v) h
  exact .inl ⟨i,t,rfl,e⟩
 | .inr x,v,h=>by
  obtain⟨t,e⟩:=Value.isStrOf_shape (x:=x) (v:=v) h
  exact .inr ⟨x,t,rfl,e⟩
theorem CQ(a b:Int):decide ((Sum.inl a:Key)=Sum.inl b)=(a == b):=by
 by_cases e:a=b
 ·subst e;simp
 ·have h:¬ (Sum.inl a:Key)=Sum.inl b:=fun q=>e (Sum.inl.inj q)
  rw[decide_eq_false h]
  exact(beq_eq_false_iff_ne.mpr e).symm
theorem CN(a b:Str):decide ((Sum.inr a:Key)=Sum.inr b)=decide (a=b):=by
 by_cases e:a=b
 ·subst e;simp
 ·have h:¬ (Sum.inr a:Key)=Sum.inr b:=fun q=>e (Sum.inr.inj q)
  rw[decide_eq_false h,decide_eq_false e]
theorem CP(a:Int)(b:Str):decide ((Sum.inl a:Key)=Sum.inr b)=false:=decide_eq_false (fun q=>nomatch q)
theorem CO(a:Str)(b:Int):decide ((Sum.inr a:Key)=Sum.inl b)=false:=decide_eq_false (fun q=>nomatch q)
noncomputable def nv(prog:Program)(w:World):PySem.KeyKind prog w Key where
 is:=Ao
 hash:=GS w
 inj:=fun v a b ha hb=>by
  rcases v9 ha with⟨i,t,rfl,rfl⟩|⟨x,t,rfl,rfl⟩
  ·rcases v9 hb with⟨j,u,rfl,e⟩|⟨y,u,rfl,e⟩
   ·injection e with e1 _;rw[e1]
   ·exact nomatch e
  ·rcases v9 hb with⟨j,u,rfl,e⟩|⟨y,u,rfl,e⟩
   ·exact nomatch e
   ·injection e with e1 _;rw[e1]
 byValue:=fun k v h=>by
  rcases v9 h with⟨i,t,rfl,rfl⟩|⟨x,t,rfl,rfl⟩<;>rfl
 pyHash:=fun hv h=>by
  rcases v9 hv with⟨i,t,rfl,rfl⟩|⟨x,t,rfl,rfl⟩
  ·exact wpAny_pyHash_int h
  ·exact wpAny_pyHash_str h
 eqBool:=fun hu hv h=>by
  rcases v9 hu with⟨i,t,rfl,rfl⟩|⟨x,t,rfl,rfl⟩
  ·rcases v9 hv with⟨j,u,rfl,rfl⟩|⟨y,u,rfl,rfl⟩
   ·rw[CQ]at h;exact wpAny_eqBool_int h
   ·rw[CP]at h;exact SeqAt.EqAt.int_str i t y u _ _ _ _ h
  ·rcases v9 hv with⟨j,u,rfl,rfl⟩|⟨y,u,rfl,rfl⟩
   ·rw[CO]at h;exact SeqAt.EqAt.str_int x t j u _ _ _ _ h
   ·rw[CN]at h;exact wpAny_eqBool_str h
 «strs»:=fun k x t v h=>by
  rcases v9 h with⟨i,u,rfl,e⟩|⟨y,u,rfl,e⟩
  ·exact nomatch e
  ·injection e with e1 _
   subst e1
   cases v<;>rfl
inductive V where
 | non|bl (b:Bool)|int (i:Int)|str (x:Str)|byt (b:Array UInt8)|flt (b:UInt64)|ref (a:Addr)|ty (n:String)
 deriving DecidableEq
noncomputable def o8:V→Value→Prop
 | .non,u=>u=Value.none
 | .bl b,u=>u=Value.bool b
 | .int i,u=>∃ t,u=Value.int i t
 | .str x,u=>∃ t,u=Value.str x t
 | .byt b,u=>∃ t,u=Value.bytes b t
 | .flt b,u=>∃ t,u=Value.float b t
 | .ref a,u=>u=Value.ref a
 | .ty n,u=>u=Value.type n
noncomputable abbrev i9:List V→List Value→Prop:=Paired o8
theorem i9.length{xs:List V}{us:List Value}(r:i9 xs us):xs.length=us.length:=Paired.length r
theorem i9.get:∀{xs:List V} {us:List Value} {i:Nat} {x:V},i9 xs us→xs[i]? = some x→∃ u,us[i]? = some u∧o8 x u
 | _,_,_,_,.nil,e=>by simp at e
 | _,_,0,_,.cons r _,e=>by simp at e;subst e;exact⟨_,rfl,r⟩
 | _,_,i+1,x,.cons _ t,e=>by
  obtain⟨u,h1,h2⟩:=i9.get (i:=i) (x:=x) t (by simpa using e)
  exact⟨u,by simpa using h1,h2⟩
theorem i9.set{x:V}{u:Value}(r:o8 x u):∀{xs:List V} {us:List Value} (i:Nat),i9 xs us→i9 (xs.set i x) (us.set i u)
 | _,_,_,.nil=>.nil
 | _,_,0,.cons _ t=>.cons r t
 | _,_,i+1,.cons q t=>.cons q (i9.set r i t)
theorem i9.append:∀{xs ys:List V} {us ws:List Value},i9 xs us→i9 ys ws→i9 (xs++ys) (us++ws)
 | _,_,_,_,.nil,s=>s
 | _,_,_,_,.cons r t,s=>.cons r (i9.append t s)
theorem i9.take:∀{xs:List V} {us:List Value} (n:Nat),i9 xs us→i9 (xs.take n) (us.take n)
 | _,_,0,_=>.nil
 | _,_,_+1,.nil=>.nil
 | _,_,n+1,.cons r t=>.cons r (i9.take n t)
theorem i9.drop:∀{xs:List V} {us:List Value} (n:Nat),i9 xs us→i9 (xs.drop n) (us.drop n)
 | _,_,0,r=>r
 | _,_,_+1,.nil=>.nil
 | _,_,n+1,.cons _ t=>i9.drop n t
theorem i9.none_of:∀{xs:List V} {us:List Value} {i:Nat},i9 xs us→xs[i]? = none→us[i]? = none:=fun{xs us i} r e=>by
 have h1:=r.length
 have h2:xs.length≤i:=KU.mp e
 exact KU.mpr (by omega)
noncomputable def dm:Option V→Option Value→Prop
 | some v,some u=>o8 v u
 | none,none=>True
 | _,_=>False
noncomputable def KV{κ:Type}:List (κ × V)→List (κ × Value)→Prop:=Paired fun(p:κ × V) (q:κ × Value)=>p.1=q.1∧o8 p.2 q.2
noncomputable def kV:Key→V
 | .inl i=>.int i
 | .inr x=>.str x
inductive HO where
 | lst (xs:List V)
 | tup (xs:List V)
 | dK (kvs:List (Key × V))|dT (kvs:List (List Key × V))
 | set (S:Int→Bool) (n:Nat)
 | ins (C dx:Addr) (fs:List (Str × V))
 | own (x:Addr)
 | xd (fs:List (Str × V))
 | met (f x:Addr)
 | rng (lo hi:Int)
 | frz (o:Obj) (u:HO)
 | tbl (ps:Array Value)
 | ext (φ:Heap→Prop)
noncomputable abbrev Hp:=Addr→Option HO
noncomputable def upd(H:Hp)(a:Addr)(o:HO):Hp:=fun b=>if b=a then some o else H b
theorem j4{H:Hp}{a:Addr}{o:HO}:upd H a o a=some o:=by unfold upd;rw[if_pos rfl]
theorem i3{H:Hp}{a b:Addr}{o:HO}(h:b≠a):upd H a o b=H b:=by unfold upd;rw[if_neg h]
theorem T6{H:Hp}{a:Addr}{o u:HO}:upd (upd H a o) a u=upd H a u:=by
 funext b;unfold upd;split<;>rfl
theorem B1{H:Hp}{a b:Addr}{o:HO}(h:H a=some o)(h':H b=none):a≠b:=by
 intro e;subst e;rw[h]at h';cases h'
section
variable (P:Program) (w:World)
noncomputable def A1(H:Hp)(h:Heap)(a:Addr):HO→Prop
 | .lst xs=>xs.length≤sizeLine∧∃(its:List Value) (n:Nat),i9 xs its∧h.get? a=some { cls:=.type "list",data:=.seq its.toArray n }
 | .tup xs=>xs.length≤sizeLine∧∃ its:List Value,i9 xs its∧IsTup h a its.toArray
 | .dK kvs=>kvs.length≤sizeLine∧(a == sysModules)=false∧∃ vs,KV kvs vs∧h.DictOf (nv P w) a vs
 | .dT kvs=>kvs.length≤sizeLine∧(a == sysModules)=false∧∃ xs:List (List Key × Addr × Value),
   Paired (fun(p:List Key × V) (q:List Key × Addr × Value)=>p.1=q.1∧H q.2.1=some (.tup (p.1.map kV))∧o8 p.2 q.2.2) kvs xs ∧
   ∃ o es ep,h.get? a=some o∧o.ExactDict∧o.data = .dict es ep∧es.toList=xs.map (entryOfKey (tupleKind (nv P w)))∧(xs.map (·.1)).Nodup
 | .set S n=>h.SetOf (intKind P w) a S n
 | .ins C dx fs=>H dx=some (.own a)∧fs.length≤1000∧dx≠a∧h.get? a=some (PySem.W.instObj C dx) ∧
   ∃ mA,h.Ns1 dx mA∧(∀ f,dm (fs.lookup f) (mA f))∧PySem.Within mA (fs.map (·.1))
 | .own _=>∃ o,h.get? a=some o
 | .xd fs=>∃ mA,h.Ns1 a mA∧∀ f,dm (fs.lookup f) (mA f)
 | .rng lo hi=>∃ t u v,h.get? a=some { cls:=.type "range",data:=.fields #[.int lo t,.int hi u,.int 1 v] }
 | .frz o u=>h.get? a=some o∧A1 H h a u
 | .tbl ps=>h.get? a=some { cls:=.none,data:=.fields ps }
 | .met f x=>h.get? a=some (PySem.W.methodObj (.ref f) (.ref x))
 | .ext φ=>φ h∧(∃ o,h.get? a=some o)∧∀ h1 h2:Heap,φ h1→(∀ o,h1.get? a=some o→h2.get? a=some o)→φ h2
def HOk(H:Hp)(h:Heap):Prop:=∀ a o,H a=some o→A1 P w H h a o
end
section
variable {P:Program} {w:World} {H H':Hp} {h h':Heap} {a:Addr} {o:HO}
theorem A1.lt(x:A1 P w H h a o):a<h.objs.size:=by
 cases o with
 | lst xs=>obtain⟨_,_,_,_,e⟩:=x;exact Jb e
 | tup xs=>obtain⟨_,_,_,p⟩:=x;exact p.lt
 | dK kvs=>obtain⟨_,_,_,_,o,_,_,e,_⟩:=x;exact Jb e
 | dT kvs=>obtain⟨_,_,_,_,o,_,_,e,_⟩:=x;exact Jb e
 | set S n=>obtain⟨o,_,_,_,e,_⟩:=x;exact Jb e
 | ins C dx fs=>obtain⟨_,_,_,e,_⟩:=x;exact Jb e
 | own y=>obtain⟨_,e⟩:=x;exact Jb e
 | xd fs=>obtain⟨_,⟨_,_,_,e,_⟩,_⟩:=x;exact Jb e
 | rng lo hi=>obtain⟨_,_,_,e⟩:=x;exact Jb e
 | frz ob u=>obtain⟨e,_⟩:=x;exact Jb e
 | tbl ps=>exact Jb (show h.get? a=some _ from x)
 | met f y=>exact Jb (show h.get? a=some _ from x)
 | ext φ=>obtain⟨_,⟨_,e⟩,_⟩:=x;exact Jb e
theorem Paired.mapP{α β:Type}{F G:α→β→Prop}:∀{l₁:List α} {l₂:List β},Paired F l₁ l₂→(∀ a b,F a b→G a b)→Paired G l₁ l₂
 | _,_,.nil,_=>.nil
 | _,_,.cons r t,f=>.cons (f _ _ r) (Paired.mapP t f)
theorem A1.stay(x:A1 P w H h a o)(k:∀ b u,(b=a∨H b=some (.own a))→h.get? b=some u→h'.get? b=some u)
  (ho:∀ b,H b=some (.own a)→H' b=some (.own a)) (ht:∀ b xs,H b=some (.tup xs)→H' b=some (.tup xs)):A1 P w H' h' a o:=by
 induction o with
 | lst xs=>obtain⟨z,its,n,r,e⟩:=x;exact⟨z,its,n,r,k _ _ (.inl rfl) e⟩
 | tup xs=>obtain⟨z,its,r,ob,e,c⟩:=x;exact⟨z,its,r,ob,k _ _ (.inl rfl) e,c⟩
 | dK kvs=>obtain⟨z,y,vs,r,ob,es,ep,e,c⟩:=x;exact⟨z,y,vs,r,ob,es,ep,k _ _ (.inl rfl) e,c⟩
 | dT kvs =>
  obtain⟨z,y,xs,r,ob,es,ep,e,c⟩:=x
  exact⟨z,y,xs,Paired.mapP r fun p q z=>⟨z.1,ht _ _ z.2.1,z.2.2⟩,ob,es,ep,k _ _ (.inl rfl) e,c⟩
 | set S n=>obtain⟨ob,es,ep,t,e,c⟩:=x;exact⟨ob,es,ep,t,k _ _ (.inl rfl) e,c⟩
 | ins C dx fs =>
  obtain⟨d,z,ne,e,mA,⟨od,es,ep,e2,c⟩,r⟩:=x
  exact⟨ho _ d,z,ne,k _ _ (.inl rfl) e,mA,⟨od,es,ep,k _ _ (.inr d) e2,c⟩,r⟩
 | own y=>obtain⟨ob,e⟩:=x;exact⟨ob,k _ _ (.inl rfl) e⟩
 | xd fs=>obtain⟨mA,⟨od,es,ep,e,c⟩,r⟩:=x;exact⟨mA,⟨od,es,ep,k _ _ (.inl rfl) e,c⟩,r⟩
 | rng lo hi=>obtain⟨t,u,v,e⟩:=x;exact⟨t,u,v,k _ _ (.inl rfl) e⟩
 | frz ob u ih=>obtain⟨e,q⟩:=x;exact⟨k _ _ (.inl rfl) e,ih q⟩
 | tbl ps =>
  have e:h.get? a=some { cls:=.none,data:=.fields ps }:=x
  show h'.get? a=some { cls:=.none,data:=.fields ps }
  exact k a _ (.inl rfl) e
 | met f y =>
  have e:h.get? a=some (PySem.W.methodObj (.ref f) (.ref y)):=x
  show h'.get? a=some (PySem.W.methodObj (.ref f) (.ref y))
  exact k a _ (.inl rfl) e
 | ext φ=>obtain⟨p,⟨o,e⟩,st⟩:=x;exact⟨st _ _ p fun o q=>k _ _ (.inl rfl) q,⟨o,k _ _ (.inl rfl) e⟩,st⟩
theorem HOk.lt(x:HOk P w H h)(e:H a=some o):a<h.objs.size:=(x a o e).lt
theorem HOk.fresh(x:HOk P w H h)(e:h.objs.size≤a):H a=none:=by
 cases q:H a with
 | none=>rfl
 | some u=>exact absurd (IX (x.lt q) e) (Kc _)
theorem HOk.kept(x:HOk P w H h)(k:∀ b u,h.get? b=some u→h'.get? b=some u):HOk P w H h':=fun a o e =>
 (x a o e).stay (fun b u _ q=>k b u q) (fun _ q=>q) fun _ _ q=>q
theorem HOk.laid(x:HOk P w H h)(k:∀ b u,h.get? b=some u→h'.get? b=some u)(hp:h.objs.size≤a)(new:A1 P w (upd H a o) h' a o):HOk P w (upd H a o) h':=fun b u e=>by
 have hn:=x.fresh hp
 by_cases hb:b=a
 ·subst hb;rw[j4]at e;cases e;exact new
 ·rw[i3 hb]at e
  exact(x b u e).stay (fun c v _ q=>k c v q) (fun c q=>by rw[i3 (B1 q hn)];exact q) fun c xs q=>by rw[i3 (B1 q hn)];exact q
end
def Rd(H:Hp)(a:Addr)(u:HO):Prop:=H a=some u ∨ ∃ o,H a=some (.frz o u)
theorem Rd.of{H:Hp}{a:Addr}{u:HO}(h:H a=some u):Rd H a u:=.inl h
theorem Rd.ok{P:Program}{w:World}{H:Hp}{h:Heap}{a:Addr}{u:HO}(r:Rd H a u)(x:HOk P w H h):A1 P w H h a u:=by
 rcases r with r|⟨o,r⟩
 ·exact x a u r
 ·obtain⟨_,q⟩:=x a _ r
  exact q
noncomputable def Mut:Option HO→Prop
 | some (.lst _)=>True
 | some (.dK _)=>True
 | some (.dT _)=>True
 | some (.set _ _)=>True
 | some (.ins _ _ _)=>True
 | some (.ext _)=>True
 | _=>False
section
variable {P:Program} {w:World} {H:Hp} {h h':Heap} {x e:Addr} {o':HO}
theorem HOk.write(ok:HOk P w H h)(mu:Mut (H x))(he:e=x∨H e=some (.own x))(k:∀ b u,b≠e→h.get? b=some u→h'.get? b=some u)(heo:∃ u,h'.get? e=some u)
  (new:A1 P w (upd H x o') h' x o'):HOk P w (upd H x o') h':=fun b u q=>by
 have nown:∀ c y,H c=some (.own y)→c≠x:=fun c y r z=>by subst z;rw[r]at mu;exact mu
 have ntup:∀ c xs,H c=some (.tup xs)→c≠x:=fun c xs r z=>by subst z;rw[r]at mu;exact mu
 by_cases hb:b=x
 ·subst hb;rw[j4]at q;cases q;exact new
 ·rw[i3 hb]at q
  by_cases hbe:b=e
  ·have q':H b=some (.own x):=by
    rcases he with z|z
    ·exact absurd (hbe.trans z) hb
    ·rw[hbe];exact z
   rw[q]at q';cases q'
   obtain⟨v,hv⟩:=heo
   exact⟨v,by rw[hbe];exact hv⟩
  ·refine(ok b u q).stay (fun c v hc r=>k c v ?_ r) (fun c r=>by rw[i3 (nown c b r)];exact r) fun c xs r=>by rw[i3 (ntup c xs r)];exact r
   rcases hc with rfl|hc
   ·exact hbe
   ·rintro rfl
    rcases he with z|z
    ·exact nown c b hc z
    ·rw[hc]at z;cases z;exact hb rfl
end
structure Un(fs ex:List Addr)(H H':Hp)(h h':Heap):Prop where
 keep:∀ b o,h.get? b=some o→H b=none→b∉fs→b∉ex→h'.get? b=some o
 slot:∀ b o,h.get? b=some o→H b=none→b∈fs→b∉ex→∃ sl,h'.get? b=some { o with slots:=sl }
 free:∀ b o,h.get? b=some o→H b=none→b∉ex→H' b=none
 there:∀ b o,h.get? b=some o→b∉ex→∃ o',h'.get? b=some o'
 tups:∀ b xs,H b=some (.tup xs)→H' b=some (.tup xs)
 frzs:∀ b o u,H b=some (.frz o u)→H' b=some (.frz o u)
 tbls:∀ b ps,H b=some (.tbl ps)→∃ more,H' b=some (.tbl (ps++more))
section
variable {fs fs' ex ex':List Addr} {H H1 H2:Hp} {h h1 h2 h':Heap} {a x e:Addr} {o:HO}
theorem Un.any(u:Un fs ex H H1 h h1){b:Addr}{ob:Obj}(q:h.get? b=some ob)(n:H b=none)(hx:b∉ex):∃ sl,h1.get? b=some { ob with slots:=sl }:=by
 by_cases hb:b∈fs
 ·exact u.slot b ob q n hb hx
 ·exact⟨ob.slots,u.keep b ob q n hb hx⟩
theorem Un.trans(a:Un fs ex H H1 h h1)(b:Un fs ex H1 H2 h1 h2):Un fs ex H H2 h h2 where
 keep:=fun c ob q n hc hx=>b.keep c ob (a.keep c ob q n hc hx) (a.free c ob q n hx) hc hx
 slot:=fun c ob q n hc hx=>by
  obtain⟨sl,e1⟩:=a.slot c ob q n hc hx
  obtain⟨sl',e2⟩:=b.slot c _ e1 (a.free c ob q n hx) hc hx
  exact⟨sl',e2⟩
 free:=fun c ob q n hx=>by
  obtain⟨o',e1⟩:=a.there c ob q hx
  exact b.free c o' e1 (a.free c ob q n hx) hx
 there:=fun c ob q hx=>by
  obtain⟨o',e1⟩:=a.there c ob q hx
  exact b.there c o' e1 hx
 tups:=fun c xs q=>b.tups c xs (a.tups c xs q)
 frzs:=fun c ob xs q=>b.frzs c ob xs (a.frzs c ob xs q)
 tbls:=fun c ps q=>by
  obtain⟨m1,e1⟩:=a.tbls c ps q
  obtain⟨m2,e2⟩:=b.tbls c _ e1
  exact⟨m1++m2,by rw[e2,Array.append_assoc]⟩
theorem Un.kept(k:∀ b u,h.get? b=some u→h'.get? b=some u):Un fs ex H H h h' :=
 ⟨fun b ob q _ _ _=>k b ob q,fun b ob q _ _ _=>⟨ob.slots,k b ob q⟩,fun _ _ _ n _=>n,fun b ob q _=>⟨ob,k b ob q⟩,fun _ _ q=>q,fun _ _ _ q=>q,fun _ ps q=>⟨#[],by rw[q];simp⟩⟩
theorem Un.refl:Un fs ex H H h h:=Un.kept fun _ _ q=>q
theorem Un.laid(k:∀ b u,h.get? b=some u→h'.get? b=some u)(hp:h.objs.size≤a)(hn:H a=none):Un fs ex H (upd H a o) h h' where
 keep:=fun b u q _ _ _=>k b u q
 slot:=fun b u q _ _ _=>⟨u.slots,k b u q⟩
 free:=fun b u q n _=>by rw[i3 (Jr (IX (Jb q) hp))];exact n
 there:=fun b u q _=>⟨u,k b u q⟩
 tups:=fun b xs q=>by rw[i3 (B1 q hn)];exact q
 frzs:=fun b u xs q=>by rw[i3 (B1 q hn)];exact q
 tbls:=fun b ps q=>⟨#[],by rw[i3 (B1 q hn),q];simp⟩
theorem Un.write(mu:Mut (H x))(he:e=x∨H e=some (.own x))(k:∀ b u,b≠e→h.get? b=some u→h'.get? b=some u)(heo:∃ u,h'.get? e=some u):Un fs ex H (upd H x o) h h':=by
 have hx:∀ b,H b=none→b≠x:=fun b n z=>by subst z;rw[n]at mu;exact mu
 have hb:∀ b,H b=none→b≠e:=fun b n z=>by
  subst z
  rcases he with r|r
  ·exact hx b n r
  ·rw[n]at r;cases r
 have hm:∀ b u,H b=some u→¬ Mut (some u)→b≠x:=fun b u q nm z=>by subst z;rw[q]at mu;exact nm mu
 refine⟨fun b u q n _ _=>k b u (hb b n) q,fun b u q n _ _=>⟨u.slots,k b u (hb b n) q⟩,fun b u q n _=>by rw[i3 (hx b n)];exact n,fun b u q _=>?_,
  fun b xs q=>by rw[i3 (hm b _ q fun z=>z)];exact q,fun b u xs q=>by rw[i3 (hm b _ q fun z=>z)];exact q,fun b ps q=>⟨#[],by rw[i3 (hm b _ q fun z=>z),q];simp⟩⟩
 by_cases hbe:b=e
 ·subst hbe;exact heo
 ·exact⟨u,k b u hbe q⟩
theorem Un.mono(u:Un fs ex H H1 h h1)(hs:∀ b∈fs,b∈fs')(hx:∀ b∈ex,b∈ex'):Un fs' ex' H H1 h h1 :=
 ⟨fun b ob q n hb he=>u.keep b ob q n (fun z=>hb (hs b z)) fun z=>he (hx b z),fun _ _ q n _ he=>u.any q n fun z=>he (hx _ z),fun b ob q n he=>u.free b ob q n fun z=>he (hx b z),fun b ob q he=>u.there b ob q fun z=>he (hx b z),u.tups,u.frzs,u.tbls⟩
end
noncomputable def trk(h:Heap)(H:Hp):List Addr:=(JZ h.objs.size).filter fun a=>(H a).isSome
noncomputable def fR(h:Heap)(H:Hp):Heap:=PySem.W.hideAll h (trk h H)
theorem pA(h:Heap)(H:Hp):(fR h H).objs.size=h.objs.size:=PySem.W.hideAll_size _ _
theorem uo{h:Heap}{H:Hp}{b:Addr}{o:Obj}(e:h.get? b=some o)(n:H b=none):(fR h H).get? b=some o :=
 PySem.W.hideAll_get _ e fun hm=>by
  have q:(H b).isSome=true:=(Mj.mp hm).2
  rw[n]at q;simp at q
theorem xQ{h:Heap}{H:Hp}{b:Addr}{o:Obj}(e:(fR h H).get? b=some o):h.get? b=some o∧H b=none:=by
 have e':h.get? b=some o:=PySem.W.of_hideAll (trk h H) e
 refine⟨e',?_⟩
 cases q:H b with
 | none=>rfl
 | some x =>
  have hm:b∈trk h H:=Mj.mpr ⟨Mw.mpr (Jb e'),by simp[q]⟩
  have z:(fR h H).get? b=none:=PySem.W.hideAll_none (trk h H) hm
  rw[z]at e;cases e
noncomputable def yO(g h:Heap)(L:Addr):List (Addr × Obj):=(JZ h.objs.size).filterMap fun a=>if a=L∨(g.get? a).isSome=true then none else(h.get? a).map fun o=>(a,o)
noncomputable def B0(g h:Heap)(L d:Addr):List (Addr × Obj):=(yO g h L).filter fun p=>decide (p.1≠d)
structure Mod(K:IT)(mg:Str→Option Value)(base:Heap):Prop where
 kin:K.In base
 glob:base.Ns mainGlobals mg
 blt:∃ mb,base.Ns builtinsNs mb∧∀ x:Str,x ≠ "__name__" → mb x=bootBuiltins x
 nolimit:base.NoLimit
structure Cx where
 prog:Program
 w:World
 K:IT
 mg:Str→Option Value
 base:Heap
 A:Around
 N:List Str
 s₀:Shared
 H₀:Hp
 env:Env
 outer:List Env
 stack:List Env
 ex:List Addr
 fn:Str→Bool
 calm:Bool
 pn:List (Addr × Obj)
 xe:Value→Shared→Prop
noncomputable def frs(l:List Env):List Addr:=l.filterMap (·.frame)
noncomputable abbrev Cx.fs(X:Cx):List Addr:=frs X.outer
def Vis(sc:Scope)(x:Str):Prop:=sc.names.lookup x=some .local∨sc.names.lookup x=some .cell∨sc.names.lookup x=some .free
def Loc(sc:Scope)(x:Str):Prop:=sc.names.lookup x=some .local∨sc.names.lookup x=some .cell
def Hh(env:Env)(h:Heap)(m:Str→Option Value)(x:Str)(u:Value):Prop :=
 (env.kindOf x=some .local∧m x=some u)∨((env.kindOf x=some .cell∨env.kindOf x=some .free)∧∃ c,env.cells.lookup x=some c∧h.IsCell c (some u))
structure Cx.Ok(X:Cx):Prop where
 mod:Mod X.K X.mg X.base
 kind:X.env.scope.kind = .function
 glob:X.env.globals=mainGlobals
 blt:X.env.builtins=builtinsNs
 above:X.s₀.heap.objs.size≤X.env.locals
 inj:∀ x y c,X.env.cells.lookup x=some c→X.env.cells.lookup y=some c→x=y
 has:∀ x,(X.env.kindOf x=some .cell∨X.env.kindOf x=some .free)→∃ c,X.env.cells.lookup x=some c
 cab:∀ x c,X.fn x=true→X.env.cells.lookup x=some c→X.s₀.heap.objs.size≤c
 hd:X.calm=true→X.A.handled=none
 frames:X.A.frames=some X.stack
 stk:X.stack=X.outer∨(X.stack=X.env :: X.outer∧X.env.frame=some X.env.locals)
 exf:∀ b∈X.ex,b≠X.env.locals∧∀ x c,X.env.cells.lookup x=some c→c≠b
 bs:∀ b o,X.base.get? b=some o→X.s₀.heap.get? b=some o∧X.H₀ b=none
 bsz:X.base.objs.size≤X.s₀.heap.objs.size
 noex:∀ b o,X.base.get? b=some o→b∉X.ex
 exfs:∀ b∈X.ex,b∉X.fs
 funs:X.s₀.heap.FunFrames X.base X.outer
 frf:∀ b∈X.fs,X.H₀ b=none
structure Inv(X:Cx)(pins:List (Addr × Obj))(σ:List (Option V))(H:Hp)(s:Shared):Prop where
 ok:X.Ok
 os:s.os=X.s₀.os
 bare:AllBare s.gens
 base:Un X.fs X.ex X.H₀ H X.s₀.heap s.heap
 loc:∃ m,s.heap.Ns X.env.locals m∧∀(i:Nat) (x:Str) (v:V),X.N[i]? = some x→σ[i]? = some (some v)→Vis X.env.scope x→∃ u,o8 v u∧Hh X.env s.heap m x u
 cell:∀ x c,X.env.cells.lookup x=some c→∃ v,s.heap.IsCell c v
 free:H X.env.locals=none
 freeC:∀ x c,X.env.cells.lookup x=some c→H c=none
 pin:∀ p∈X.pn++pins,s.heap.get? p.1=some p.2∧H p.1=none∧p.1≠X.env.locals∧p.1∉X.fs∧∀ v,p.2.data ≠ .cell v
 hok:HOk X.prog X.w H s.heap
 len:σ.length=X.N.length
section
variable {X:Cx} {pins:List (Addr × Obj)} {σ:List (Option V)} {H H':Hp} {s:Shared} {h':Heap}
theorem Cx.Ok.nofr(ok:X.Ok){b:Addr}{o:Obj}(e:X.base.get? b=some o):b∉X.fs:=fun hb=>by
 have:=(ok.funs.mem hb).1
 rw[e]at this;cases this
theorem Inv.bs(I:Inv X pins σ H s):∀ b o,X.base.get? b=some o→s.heap.get? b=some o∧H b=none:=fun b o e =>
 ⟨I.base.keep b o (I.ok.bs b o e).1 (I.ok.bs b o e).2 (I.ok.nofr e) (I.ok.noex b o e),I.base.free b o (I.ok.bs b o e).1 (I.ok.bs b o e).2 (I.ok.noex b o e)⟩
theorem Inv.bk(I:Inv X pins σ H s):∀ b o,X.base.get? b=some o→s.heap.get? b=some o:=fun b o e=>(I.bs b o e).1
theorem Inv.mod(I:Inv X pins σ H s):Mod X.K X.mg X.base:=I.ok.mod
theorem Inv.kIn(I:Inv X pins σ H s):X.K.In s.heap:=I.ok.mod.kin.keeps I.bk
theorem Inv.nolimit(I:Inv X pins σ H s):s.heap.NoLimit:=I.ok.mod.nolimit.keeps I.bk
theorem Inv.fr(I:Inv X pins σ H s):∃ m,Fr X.base X.env.locals s.heap m :=
 let ⟨m,hn,_⟩:=I.loc
 ⟨m,hn,I.bk,Jk I.ok.bsz I.ok.above⟩
theorem Inv.lt(I:Inv X pins σ H s):X.env.locals<s.heap.objs.size:=let ⟨_,hn,_⟩:=I.loc;hn.lt
theorem Inv.sz(I:Inv X pins σ H s):X.s₀.heap.objs.size≤s.heap.objs.size:=Jk I.ok.above (LX I.lt)
theorem Inv.nofs(I:Inv X pins σ H s){a:Addr}(h:s.heap.objs.size≤a):a∉X.fs:=fun hb=>by
 obtain⟨_,o,ho,_⟩:=I.ok.funs.mem hb
 exact absurd (IX (Jb ho) (Jk I.sz h)) (Kc _)
theorem Inv.cne(I:Inv X pins σ H s):∀ x c,X.env.cells.lookup x=some c→c≠X.env.locals:=fun x c e z=>by
 obtain⟨v,o,ho,hd⟩:=I.cell x c e
 obtain⟨m,⟨o',es,ep,ho',hd',_⟩,_⟩:=I.loc
 rw[z,ho']at ho;cases ho;rw[hd']at hd;cases hd
theorem Inv.funs(I:Inv X pins σ H s):s.heap.FunFrames X.base X.outer:=by
 have all:∀(l:List Env),(∀ b∈frs l,b∈X.fs)→X.s₀.heap.FunFrames X.base l→s.heap.FunFrames X.base l:=by
  intro l
  induction l with
  | nil=>intro _ _;trivial
  | cons env r ih =>
   intro hs hl
   obtain⟨hk,⟨L,o,hf,hn,ho,hd⟩,hr⟩:=hl
   have hL:L∈X.fs:=hs L (by unfold frs;rw[Kq,hf];exact IZ)
   obtain⟨sl,e⟩:=I.base.slot L o ho (I.ok.frf L hL) hL fun z=>I.ok.exfs L z hL
   exact⟨hk,⟨L,_,hf,hn,e,hd⟩,ih (fun b hb=>hs b (by unfold frs;rw[Kq,hf];exact Jc _ hb)) hr⟩
 exact all X.outer (fun _ hb=>hb) I.ok.funs
theorem Inv.stack(I:Inv X pins σ H s):s.heap.FunFrames X.base X.stack:=by
 rcases I.ok.stk with e|⟨e,hf⟩
 ·rw[e];exact I.funs
 ·rw[e]
  obtain⟨m,hn,_⟩:=I.loc
  refine .cons (by rw[I.ok.kind];decide) hf hn ?_ I.funs
  exact LA (Jk I.ok.bsz I.ok.above)
theorem Inv.stkSub(I:Inv X pins σ H s):∀ b∈frs X.stack,b∈X.env.locals :: X.fs:=fun b hb=>by
 rcases I.ok.stk with e|⟨e,hf⟩
 ·rw[e]at hb;exact Jc _ hb
 ·rw[e]at hb
  unfold frs at hb
  rw[Kq,hf]at hb
  exact hb
theorem Inv.stkFree(I:Inv X pins σ H s):∀ b∈frs X.stack,H b=none:=fun b hb=>by
 rcases Jj.mp (I.stkSub b hb)with e|hb
 ·rw[e];exact I.free
 ·obtain⟨_,o,ho,_⟩:=I.ok.funs.mem hb
  exact I.base.free b o ho (I.ok.frf b hb) fun z=>I.ok.exfs b z hb
theorem Inv.step{g':Array GenState}{t':Nat}{d':Drawn}{ch:List Addr}(I:Inv X pins σ H s)
  (hch:∀ b∈ch,(b∈X.ex∨X.s₀.heap.objs.size≤b)∧b≠X.env.locals∧(∀ x c,X.env.cells.lookup x=some c→c≠b)∧∀ p∈X.pn++pins,p.1≠b)
  (keep:∀ b o,b≠X.env.locals→b∉X.fs→b∉ch→s.heap.get? b=some o→H b=none→h'.get? b=some o)
  (slot:∀ b o,b≠X.env.locals→b∈X.fs→b∉ch→s.heap.get? b=some o→H b=none→∃ sl,h'.get? b=some { o with slots:=sl }) (free:∀ b o,b∉ch→s.heap.get? b=some o→H b=none→H' b=none)
  (there:∀ b o,b∉ch→s.heap.get? b=some o→∃ o',h'.get? b=some o')
  (tups:∀ b xs,H b=some (.tup xs)→H' b=some (.tup xs)) (frzs:∀ b o u,H b=some (.frz o u)→H' b=some (.frz o u)) (tbls:∀ b ps,H b=some (.tbl ps)→∃ more,H' b=some (.tbl (ps++more)))
  (ns:∀ m,s.heap.Ns X.env.locals m→h'.Ns X.env.locals m) (hok:HOk X.prog X.w H' h') (hg:AllBare g') :
  Inv X pins σ H' { s with heap:=h',gens:=g',drawn:=d',toks:=t' }:=by
 have neL:∀ b o,X.s₀.heap.get? b=some o→b≠X.env.locals:=fun b o e=>Jr (IX (Jb e) I.ok.above)
 have neC:∀ b o,X.s₀.heap.get? b=some o→b∉X.ex→b∉ch:=fun b o e hx hb=>by
  rcases(hch b hb).1 with z|z
  ·exact hx z
  ·exact absurd (IX (Jb e) z) (Kc _)
 have cellK:∀ x c,X.env.cells.lookup x=some c→∀ v,s.heap.IsCell c v→h'.IsCell c v:=fun x c e v zz=>by
  obtain⟨o,ho,hd⟩:=zz
  have nch:c∉ch:=fun z=>(hch c z).2.2.1 x c e rfl
  by_cases hc:c∈X.fs
  ·obtain⟨sl,q⟩:=slot c o (I.cne x c e) hc nch ho (I.freeC x c e)
   exact⟨_,q,hd⟩
  ·exact⟨o,keep c o (I.cne x c e) hc nch ho (I.freeC x c e),hd⟩
 refine⟨I.ok,I.os,hg,⟨fun b o e n hb hx=>?_,fun b o e n hb hx=>?_,fun b o e n hx=>?_,fun b o e hx=>?_,fun b xs e=>tups b xs (I.base.tups b xs e),fun b o xs e=>frzs b o xs (I.base.frzs b o xs e),fun b ps e=>?_⟩,?_,fun x c e=>?_,?_,fun x c e=>?_,fun p hp=>?_,hok,I.len⟩
 ·exact keep b o (neL b o e) hb (neC b o e hx) (I.base.keep b o e n hb hx) (I.base.free b o e n hx)
 ·obtain⟨sl,e1⟩:=I.base.slot b o e n hb hx
  obtain⟨sl',e2⟩:=slot b _ (neL b o e) hb (neC b o e hx) e1 (I.base.free b o e n hx)
  exact⟨sl',e2⟩
 ·obtain⟨o',e1⟩:=I.base.there b o e hx
  exact free b o' (neC b o e hx) e1 (I.base.free b o e n hx)
 ·obtain⟨o',e1⟩:=I.base.there b o e hx
  exact there b o' (neC b o e hx) e1
 ·obtain⟨m1,e1⟩:=I.base.tbls b ps e
  obtain⟨m2,e2⟩:=tbls b _ e1
  exact⟨m1++m2,by rw[e2,Array.append_assoc]⟩
 ·obtain⟨m,hn,hl⟩:=I.loc
  refine⟨m,ns m hn,fun i x v e1 e2 e3=>?_⟩
  obtain⟨u,r,l⟩:=hl i x v e1 e2 e3
  refine⟨u,r,?_⟩
  rcases l with l|⟨k,c,e,z⟩
  ·exact .inl l
  ·exact .inr ⟨k,c,e,cellK x c e _ z⟩
 ·obtain⟨v,z⟩:=I.cell x c e
  exact⟨v,cellK x c e v z⟩
 ·obtain⟨m,⟨o,_,_,ho,_⟩,_⟩:=I.loc
  exact free _ o (fun z=>(hch _ z).2.1 rfl) ho I.free
 ·obtain⟨v,o,ho,hd⟩:=I.cell x c e
  exact free c o (fun z=>(hch c z).2.2.1 x c e rfl) ho (I.freeC x c e)
 ·obtain⟨e,n,ne,nf,d⟩:=I.pin p hp
  have nch:p.1∉ch:=fun z=>(hch p.1 z).2.2.2 p hp rfl
  exact⟨keep p.1 p.2 ne nf nch e n,free p.1 p.2 nch e n,ne,nf,d⟩
theorem Inv.un{t':Nat}(I:Inv X pins σ H s)(u:Un X.fs [] H H' s.heap h')(hok:HOk X.prog X.w H' h'):Inv X pins σ H' { s with heap:=h',toks:=t' }:=by
 obtain⟨m,⟨o,es,ep,ho,r⟩,_⟩:=id I.loc
 obtain⟨sl,hL⟩:=u.any ho I.free (by simp)
 exact I.step (g':=s.gens) (d':=s.drawn) (ch:=[]) (fun _ z=>nomatch z) (fun b o _ hb _ e n=>u.keep b o e n hb (by simp)) (fun b o _ hb _ e n=>u.slot b o e n hb (by simp)) (fun b o _ e n=>u.free b o e n (by simp)) (fun b o _ e=>u.there b o e (by simp)) u.tups u.frzs u.tbls (fun m' hm=>by
  obtain⟨o',es',ep',ho',r'⟩:=hm
  rw[ho]at ho';cases ho'
  exact⟨_,es',ep',hL,r'⟩) hok I.bare
theorem Inv.call{g':Array GenState}{t':Nat}{d':Drawn}{ch:List Addr}(I:Inv X pins σ H s)(u:Un (frs X.stack) ch H H' s.heap h')(hok:HOk X.prog X.w H' h')(hg:AllBare g')
  (hch:∀ b∈ch,(b∈X.ex∨X.s₀.heap.objs.size≤b)∧b≠X.env.locals∧(∀ x c,X.env.cells.lookup x=some c→c≠b)∧∀ p∈X.pn++pins,p.1≠b) :
  Inv X pins σ H' { s with heap:=h',gens:=g',drawn:=d',toks:=t' }:=by
 obtain⟨m,⟨o,es,ep,ho,r⟩,_⟩:=id I.loc
 obtain⟨sl,hL⟩:=u.any ho I.free fun z=>(hch _ z).2.1 rfl
 exact I.step (ch:=ch) hch (fun b o hL hb hc e n=>u.keep b o e n (fun z=>(Jj.mp (I.stkSub b z)).elim hL hb) hc) (fun b o _ _ hc e n=>u.any e n hc) (fun b o hc e n=>u.free b o e n hc) (fun b o hc e=>u.there b o e hc) u.tups u.frzs u.tbls (fun m' hm=>by
  obtain⟨o',es',ep',ho',r'⟩:=hm
  rw[ho]at ho';cases ho'
  exact⟨_,es',ep',hL,r'⟩) hok hg
theorem Inv.turned{t':Nat}{it:Addr}(I:Inv X pins σ H s)(k:∀ b o,b≠it→s.heap.get? b=some o→h'.get? b=some o)(hn:H it=none)(hL:it≠X.env.locals)
  (h1:it∈X.ex∨X.s₀.heap.objs.size≤it) (h2:∀ x c,X.env.cells.lookup x=some c→c≠it) (h3:∀ p∈X.pn++pins,p.1≠it):Inv X pins σ H { s with heap:=h',toks:=t' }:=by
 have nit:∀ b u,H b=some u→b≠it:=fun b u e z=>by rw[z,hn]at e;cases e
 refine I.step (g':=s.gens) (d':=s.drawn) (ch:=[it]) (fun b hb=>?_) (fun b o _ _ hc e _=>k b o (fun z=>hc (by simp[z])) e) (fun b o _ _ hc e _=>⟨o.slots,k b o (fun z=>hc (by simp[z])) e⟩) (fun _ _ _ _ n=>n)
  (fun b o hc e=>⟨o,k b o (fun z=>hc (by simp[z])) e⟩) (fun _ _ e=>e) (fun _ _ _ e=>e) (fun b ps e=>⟨#[],by rw[e];simp⟩) (fun m hm=>?_) (fun b u e=>?_) I.bare
 ·have e:b=it:=by simpa using hb
  subst e
  exact⟨h1,hL,h2,h3⟩
 ·obtain⟨o,es,ep,ho,r⟩:=hm
  exact⟨o,es,ep,k _ o (Ne.symm hL) ho,r⟩
 ·refine(I.hok b u e).stay (fun c v hc q=>k c v ?_ q) (fun _ q=>q) fun _ _ q=>q
  rcases hc with z|z
  ·rw[z];exact nit b u e
  ·exact nit c _ z
theorem Inv.tok(I:Inv X pins σ H s)(t:Nat):Inv X pins σ H { s with toks:=t }:=I.un (h':=s.heap) (t':=t) Un.refl I.hok
theorem Inv.kept{t':Nat}(I:Inv X pins σ H s)(k:∀ b u,s.heap.get? b=some u→h'.get? b=some u):Inv X pins σ H { s with heap:=h',toks:=t' }:=I.un (Un.kept k) (I.hok.kept k)
theorem Inv.laid{a:Addr}{o:HO}{t':Nat}(I:Inv X pins σ H s)(k:∀ b u,s.heap.get? b=some u→h'.get? b=some u)(hp:s.heap.objs.size≤a)(new:A1 X.prog X.w (upd H a o) h' a o) :
  Inv X pins σ (upd H a o) { s with heap:=h',toks:=t' }:=I.un (Un.laid k hp (I.hok.fresh hp)) (I.hok.laid k hp new)
theorem Inv.write{x e:Addr}{o:HO}{t':Nat}(I:Inv X pins σ H s)(mu:Mut (H x))(he:e=x∨H e=some (.own x))(k:∀ b u,b≠e→s.heap.get? b=some u→h'.get? b=some u)(heo:∃ u,h'.get? e=some u)
  (new:A1 X.prog X.w (upd H x o) h' x o):Inv X pins σ (upd H x o) { s with heap:=h',toks:=t' }:=I.un (Un.write mu he k heo) (I.hok.write mu he k heo new)
theorem Inv.weak{σ':List (Option V)}(I:Inv X pins σ H s)(hl:σ'.length=σ.length)(w:∀(i:Nat) v,σ'[i]? = some (some v)→σ[i]? = some (some v)):Inv X pins σ' H s :=
 ⟨I.ok,I.os,I.bare,I.base,let ⟨m,hn,hl'⟩:=I.loc;⟨m,hn,fun i x v e1 e2 e3=>hl' i x v e1 (w i v e2) e3⟩,I.cell,I.free,I.freeC,I.pin,I.hok,hl.trans I.len⟩
theorem Inv.pins_of{pins':List (Addr × Obj)}(I:Inv X pins σ H s)(h:∀ p∈pins',s.heap.get? p.1=some p.2∧H p.1=none∧p.1≠X.env.locals∧p.1∉X.fs∧∀ v,p.2.data ≠ .cell v):Inv X pins' σ H s :=
 ⟨I.ok,I.os,I.bare,I.base,I.loc,I.cell,I.free,I.freeC,fun p hp=>(JF.mp hp).elim (fun z=>I.pin p (Ko _ z)) (h p),I.hok,I.len⟩
theorem cu{N:List Str}(hN:N.Nodup){i j:Nat}{x:Str}(a:N[i]? = some x)(b:N[j]? = some x):i=j:=by
 obtain⟨h1,e1⟩:=Jm.mp a
 obtain⟨h2,e2⟩:=Jm.mp b
 exact(List.getElem_inj hN).mp (e1.trans e2.symm)
theorem oJ{M:Model}{A:Around}{E:Value→Shared→Prop}{i:Nat}{x:Str}{v:V}{u:Value}{Q:Unit→Shared→Prop}(I:Inv X pins σ H s)(hN:X.N.Nodup)(hi:X.N[i]? = some x)(hx:Loc X.env.scope x)(r:o8 v u)
  (h:∀ s',Inv X pins (σ.set i (some v)) H s'→(∃ a,Heap.SameBut a s.heap s'.heap∧(a=X.env.locals∨X.env.cells.lookup x=some a))→Q () s') (hf:X.fn x=true∨X.env.scope.names.lookup x=some .local:=by first|exact .inl rfl|exact .inr rfl|assumption):wpAny M A (storeName X.env x u) Q E s:=by
 obtain⟨m,hn,hl⟩:=id I.loc
 have hcls:(X.env.scope.kind == .class || (X.env.scope.kind == .module && X.env.locals != X.env.globals))=false:=by rw[I.ok.kind];rfl
 have hiσ:i<σ.length:=by rw[I.len];exact(Jm.mp hi).1
 have cne:=I.cne
 have tracked:∀{a:Addr} {h':Heap},(∃ o,s.heap.get? a=some o∧H a=none)→Heap.SameBut a s.heap h'→HOk X.prog X.w H h':=fun{a h'} ha hs b ob e=>by
  obtain⟨_,_,hfree⟩:=ha
  refine(I.hok b ob e).stay (fun c w' hc q=>(hs.2 c ?_).trans q) (fun _ q=>q) fun _ _ q=>q
  rintro rfl
  rcases hc with rfl|hc
  ·rw[hfree]at e;cases e
  ·rw[hfree]at hc;cases hc
 rcases hx with hk|hk
 ·refine wpAny_storeName_local hk hn (fun h' hn' hs=>?_) hcls
  obtain⟨oL,_,_,hoL,_⟩:=id hn
  refine h _ ⟨I.ok,I.os,I.bare,⟨fun b o e n hb hx=>?_,fun b o e n hb hx=>?_,I.base.free,fun b o e hx=>?_,I.base.tups,I.base.frzs,I.base.tbls⟩,⟨_,hn',fun j y v' e1 e2 e3=>?_⟩,fun y c e=>?_,I.free,I.freeC,fun p hp=>?_,tracked ⟨oL,hoL,I.free⟩ hs,by simpa using I.len⟩ ⟨_,hs,.inl rfl⟩
  ·exact(hs.2 b (Jr (IX (Jb e) I.ok.above))).trans (I.base.keep b o e n hb hx)
  ·obtain⟨sl,e1⟩:=I.base.slot b o e n hb hx
   exact⟨sl,(hs.2 b (Jr (IX (Jb e) I.ok.above))).trans e1⟩
  ·obtain⟨o',e1⟩:=I.base.there b o e hx
   exact⟨o',(hs.2 b (Jr (IX (Jb e) I.ok.above))).trans e1⟩
  ·by_cases hj:j=i
   ·subst hj
    rw[hi]at e1;cases e1
    rw[Kv hiσ]at e2
    cases e2
    exact⟨u,r,.inl ⟨hk,by simp⟩⟩
   ·rw[KC (Ne.symm hj)]at e2
    obtain⟨u',r',q⟩:=hl j y v' e1 e2 e3
    refine⟨u',r',?_⟩
    rcases q with⟨k,e⟩|⟨k,c,e,z⟩
    ·refine .inl ⟨k,?_⟩
     have:y≠x:=fun e=>hj (cu hN e1 (e▸hi))
     simp[this,e]
    ·exact .inr ⟨k,c,e,z.sameBut hs (cne y c e)⟩
  ·obtain⟨w',z⟩:=I.cell y c e
   exact⟨w',z.sameBut hs (cne y c e)⟩
  ·obtain⟨e,n,ne,nf,d⟩:=I.pin p hp
   exact⟨(hs.2 p.1 ne).trans e,n,ne,nf,d⟩
 ·have hfn:X.fn x=true:=by
   rcases hf with z|z
   ·exact z
   ·rw[z]at hk;cases hk
  obtain⟨c,hc⟩:=I.ok.has x (.inl hk)
  obtain⟨w',z⟩:=I.cell x c hc
  refine wpAny_storeName_cell I.ok.kind hk hc z (fun h' hc' hs=>?_)
  obtain⟨oc,hoc,hocd⟩:=id z
  refine h { s with heap:=h' } ⟨I.ok,I.os,I.bare,⟨fun b o e n hb hx=>?_,fun b o e n hb hx=>?_,I.base.free,fun b o e hx=>?_,I.base.tups,I.base.frzs,I.base.tbls⟩,⟨m,hn.sameBut hs (Ne.symm (cne x c hc)),fun j y v' e1 e2 e3=>?_⟩,fun y c' e=>?_,I.free,I.freeC,fun p hp=>?_,tracked ⟨oc,hoc,I.freeC x c hc⟩ hs,by simpa using I.len⟩ ⟨c,hs,.inr hc⟩
  ·exact(hs.2 b (Jr (IX (Jb e) (I.ok.cab x c hfn hc)))).trans (I.base.keep b o e n hb hx)
  ·obtain⟨sl,e1⟩:=I.base.slot b o e n hb hx
   exact⟨sl,(hs.2 b (Jr (IX (Jb e) (I.ok.cab x c hfn hc)))).trans e1⟩
  ·obtain⟨o',e1⟩:=I.base.there b o e hx
   exact⟨o',(hs.2 b (Jr (IX (Jb e) (I.ok.cab x c hfn hc)))).trans e1⟩
  ·by_cases hj:j=i
   ·subst hj
    rw[hi]at e1;cases e1
    rw[Kv hiσ]at e2
    cases e2
    exact⟨u,r,.inr ⟨.inl hk,c,hc,hc'⟩⟩
   ·rw[KC (Ne.symm hj)]at e2
    obtain⟨u',r',q⟩:=hl j y v' e1 e2 e3
    refine⟨u',r',?_⟩
    rcases q with q|⟨k,c',e,z'⟩
    ·exact .inl q
    ·refine .inr ⟨k,c',e,z'.sameBut hs ?_⟩
     rintro rfl
     exact hj (cu hN e1 (I.ok.inj _ _ _ e hc▸hi))
  ·by_cases hcc:c'=c
   ·subst hcc;exact⟨_,hc'⟩
   ·obtain⟨w2,z2⟩:=I.cell y c' e
    exact⟨w2,z2.sameBut hs hcc⟩
  ·obtain⟨e,n,ne,nf,d⟩:=I.pin p hp
   refine⟨(hs.2 p.1 ?_).trans e,n,ne,nf,d⟩
   intro q
   rw[q,hoc]at e
   have q':oc=p.2:=Option.some.inj e
   exact d w' (by rw[← q'];exact hocd)
theorem J5{M:Model}{A:Around}{E:Value→Shared→Prop}{i:Nat}{x:Str}{v:V}{u:Value}{Q:Unit→Shared→Prop}(I:Inv X pins σ H s)(hN:X.N.Nodup)(hi:X.N[i]? = some x)(hx:Loc X.env.scope x)(r:o8 v u)
  (h:∀ s',Inv X pins (σ.set i (some v)) H s'→Q () s') (hf:X.fn x=true∨X.env.scope.names.lookup x=some .local:=by first|exact .inl rfl|exact .inr rfl|assumption):wpAny M A (storeName X.env x u) Q E s :=
 oJ I hN hi hx r (fun s' I' _=>h s' I') hf
theorem Inv.call'{s':Shared}{ch:List Addr}(I:Inv X pins σ H s)(ho:s'.os=s.os)(u:Un (frs X.stack) ch H H' s.heap s'.heap)(hok:HOk X.prog X.w H' s'.heap)(hg:AllBare s'.gens)
  (hch:∀ b∈ch,(b∈X.ex∨X.s₀.heap.objs.size≤b)∧b≠X.env.locals∧(∀ x c,X.env.cells.lookup x=some c→c≠b)∧∀ p∈X.pn++pins,p.1≠b):Inv X pins σ H' s':=by
 obtain⟨h',g',d',t',o'⟩:=s'
 have e:o'=s.os:=ho
 subst e
 exact I.call (g':=g') (t':=t') (d':=d') u hok hg hch
end
noncomputable abbrev XK:=Value→Option Addr→Hp→Prop
noncomputable abbrev St:=List (Option V)
noncomputable abbrev VK:=V→Hp→Prop
noncomputable abbrev TE:=St→Hp→VK→Prop
noncomputable abbrev TT:=St→Hp→(Bool→Hp→Prop)→Prop
noncomputable abbrev TA:=St→Hp→(List V→Hp→Prop)→Prop
structure T4 where
 nx:St→Hp→Prop
 rt:VK
 bk:St→Hp→Prop:=fun _ _=>False
 ct:St→Hp→Prop:=fun _ _=>False
noncomputable abbrev TS:=T4→St→Hp→Prop
def EP(X:Cx)(pins:List (Addr × Obj))(σ:St)(Q:VK)(u:Value)(s':Shared):Prop:=∃ v H',Inv X pins σ H' s'∧o8 v u∧Q v H'
def TP(X:Cx)(pins:List (Addr × Obj))(σ:St)(Q:Bool→Hp→Prop)(b:Bool)(s':Shared):Prop:=∃ H',Inv X pins σ H' s'∧Q b H'
def AP(X:Cx)(pins:List (Addr × Obj))(σ:St)(Q:List V→Hp→Prop)(us:List Value)(s':Shared):Prop:=∃ vs H',Inv X pins σ H' s'∧i9 vs us∧Q vs H'
def SP(X:Cx)(pins:List (Addr × Obj))(D:T4)(f:Flow)(s':Shared):Prop :=
 match f with
 | .next=>∃ σ' H',Inv X pins σ' H' s'∧D.nx σ' H'
 | .brk=>∃ σ' H',Inv X pins σ' H' s'∧D.bk σ' H'
 | .cont=>∃ σ' H',Inv X pins σ' H' s'∧D.ct σ' H'
 | .ret u=>∃ v σ' H',Inv X pins σ' H' s'∧o8 v u∧D.rt v H'
def PE(X:Cx)(e:Expr)(t:TE):Prop :=
 ∀(pins:List (Addr × Obj)) (s:Shared) (σ:St) (H:Hp) (Q:VK),Inv X pins σ H s→t σ H Q→wpAny (model X.prog X.w) X.A (eval e X.env) (EP X pins σ Q) X.xe s
def PT(X:Cx)(e:Expr)(t:TT):Prop :=
 ∀(pins:List (Addr × Obj)) (s:Shared) (σ:St) (H:Hp) (Q:Bool→Hp→Prop),Inv X pins σ H s→t σ H Q→wpAny (model X.prog X.w) X.A (isTrue e X.env (eval e X.env)) (TP X pins σ Q) X.xe s
def PW(X:Cx)(e:Expr)(t:TT):Prop :=
 ∀(whole:Sem Value) (pins:List (Addr × Obj)) (s:Shared) (σ:St) (H:Hp) (Q:Bool→Hp→Prop),Inv X pins σ H s→t σ H Q→wpAny (model X.prog X.w) X.A (isTrue e X.env whole) (TP X pins σ Q) X.xe s
theorem PW.pt{X:Cx}{e:Expr}{t:TT}(h:PW X e t):PT X e t:=h _
def PA(X:Cx)(es:List Expr)(t:TA):Prop :=
 ∀(pos:Pos) (pins:List (Addr × Obj)) (s:Shared) (σ:St) (H:Hp) (Q:List V→Hp→Prop),Inv X pins σ H s→t σ H Q→wpAny (model X.prog X.w) X.A (spliced (backTo pos (starEach es X.env))) (AP X pins σ Q) X.xe s
def PS(X:Cx)(st:Stmt)(t:TS):Prop :=
 ∀(pins:List (Addr × Obj)) (s:Shared) (σ:St) (H:Hp) (D:T4),Inv X pins σ H s→t D σ H→wpAny (model X.prog X.w) X.A (exec st X.env) (SP X pins D) X.xe s
def PSs(X:Cx)(st:List Stmt)(t:TS):Prop :=
 ∀(pins:List (Addr × Obj)) (s:Shared) (σ:St) (H:Hp) (D:T4),Inv X pins σ H s→t D σ H→wpAny (model X.prog X.w) X.A (execs st X.env) (SP X pins D) X.xe s
theorem thn{α:Type}{t:Sem α}{Q Q':α→Shared→Prop}{M:Model}{A:Around}{E:Value→Shared→Prop}{s:Shared}(h:wpAny M A t Q E s)(hQ:∀ a s,Q a s→Q' a s):wpAny M A t Q' E s:=wpAny_mono h hQ fun _ _ x=>x
section
variable {X:Cx}
def Gq(i:Nat):TE:=fun σ H Q=>∃ v,σ[i]? = some (some v)∧Q v H
def tC(v:V):TE:=fun _ H Q=>Q v H
theorem Cg{i:Nat}{x:Str}{pos:Pos}(hN:X.N[i]? = some x)(hv:Vis X.env.scope x)(hd:(x == ("__debug__" : Str))=false:=by decide)(hcd:(x == ("__classdict__" : Str))=false:=by decide):PE X (.Name x pos) (Gq i):=by
 intro pins s σ H Q I h
 obtain⟨v,e,h⟩:=h
 obtain⟨m,hn,hl⟩:=I.loc
 obtain⟨u,r,l⟩:=hl i x v hN e hv
 have fin:EP X pins σ Q u s:=⟨v,H,I,r,h⟩
 rcases l with⟨hk,hm⟩|⟨hk,c,hc,hcell⟩
 ·exact wpAny_Name (wpAny_loadName_local I.ok.kind hk hn hm fin) hd
 ·rcases hk with hk|hk
  ·exact wpAny_Name (wpAny_loadName_cell I.ok.kind hk hc hcell fin) hd
  ·exact wpAny_Name (wpAny_loadName_free I.ok.kind hk hc hcell fin hcd) hd
theorem Cn{i j pos}:PE X (.Constant (.int i) j pos) (tC (.int i)):=fun _ _ _ H _ I h=>wpAny_Constant_int ⟨.int i,H,I.tok _,⟨_,rfl⟩,h⟩
theorem Fh{b j pos}:PE X (.Constant (.bool b) j pos) (tC (.bl b)):=fun _ _ _ H _ I h=>Constant_bool ⟨.bl b,H,I,rfl,h⟩
theorem Cm{j pos}:PE X (.Constant .none j pos) (tC .non):=fun _ _ _ H _ I h=>Constant_none ⟨.non,H,I,rfl,h⟩
theorem Ci{x j pos}:PE X (.Constant (.str x) j pos) (tC (.str x)):=fun _ _ _ H _ I h=>Calls.Constant_str ⟨.str x,H,I.tok _,⟨_,rfl⟩,h⟩
def Gl(X:Cx)(x:Str):Prop:=X.env.kindOf x=some .globalImplicit
theorem P4{E:Value→Shared→Prop}{pins:List (Addr × Obj)}{s:Shared}{σ:St}{H:Hp}{x:Str}{u:Value}{pos:Pos}{Q:Value→Shared→Prop}(I:Inv X pins σ H s)(hg:Gl X x)(hm:X.mg x=some u)(h:Q u s)
  (hd:(x == ("__debug__" : Str))=false:=by decide):wpAny (model X.prog X.w) X.A (eval (.Name x pos) X.env) Q E s :=
 Calls.Name_function_global I.ok.kind hg (Calls.loadGlobal_global (by rw[I.ok.glob];exact I.mod.glob.keeps I.bk) hm h) hd
theorem X8{E:Value→Shared→Prop}{pins:List (Addr × Obj)}{s:Shared}{σ:St}{H:Hp}{x:Str}{u:Value}{pos:Pos}{Q:Value→Shared→Prop}(I:Inv X pins σ H s)(hg:Gl X x)(hm:X.mg x=none)(hv:bootBuiltins x=some u)(h:Q u s)
  (hn:x ≠ "__name__" := by decide) (hd:(x == ("__debug__" : Str))=false:=by decide):wpAny (model X.prog X.w) X.A (eval (.Name x pos) X.env) Q E s:=by
 obtain⟨mb,h1,h2⟩:=I.mod.blt
 exact Calls.Name_function_global I.ok.kind hg (Calls.loadGlobal_builtin (by rw[I.ok.glob];exact I.mod.glob.keeps I.bk) hm (by rw[I.ok.blt];exact h1.keeps I.bk) ((h2 x hn).trans hv) h) hd
theorem fm{x:Str}{v:V}{u:Value}{pos:Pos}(hg:Gl X x)(hm:X.mg x=some u)(r:o8 v u)(hd:(x == ("__debug__" : Str))=false:=by decide):PE X (.Name x pos) (tC v) :=
 fun _ _ _ H _ I h=>P4 I hg hm ⟨v,H,I,r,h⟩ hd
theorem nj{x:Str}{v:V}{u:Value}{pos:Pos}(hg:Gl X x)(hm:X.mg x=none)(hv:bootBuiltins x=some u)(r:o8 v u)(hn:x ≠ "__name__" := by decide)(hd:(x == ("__debug__" : Str))=false:=by decide):PE X (.Name x pos) (tC v) :=
 fun _ _ _ H _ I h=>X8 I hg hm hv ⟨v,H,I,r,h⟩ hn hd
variable {a b:Expr} {ta tb:TE} {pos:Pos}
def tB(t:TE):TT:=fun σ H Q=>t σ H fun x H1=>∃ c,x = .bl c∧Q c H1
theorem BU{e:Expr}{t:TE}(h:PE X e t)(he:∀ whole,isTrue e X.env whole=(do let v ← whole;standAt e.pos;holding [v] (truthy v)):=by intro _;rfl):PT X e (tB t):=by
 intro pins s σ H Q I hw
 refine isTrue_plain (thn (h pins s σ H _ I hw) fun v s1 ⟨x,H1,I1,r1,q1⟩=>?_) (he _)
 obtain⟨d,rfl,q⟩:=q1
 cases r1
 exact wpAny_truthy_bool ⟨H1,I1,q⟩
variable {tA tB':TT} {B0:List Expr}
def GG(t u:TT):TT:=fun σ H Q=>t σ H fun c H1=>if c=true then u σ H1 Q else Q false H1
def tOr(t u:TT):TT:=fun σ H Q=>t σ H fun c H1=>if c=true then Q true H1 else u σ H1 Q
def Gy(t:TT):TT:=fun σ H Q=>t σ H fun c H1=>Q (!c) H1
theorem xv(ha:PT X a tA):PW X (.BoolOp .And [a] pos) tA:=by
 intro wh pins s σ H Q I h
 refine isTrue_and (thn (ha pins s σ H Q I h) fun c s1 e=>?_)
 cases c with
 | true=>exact isTrue_and_nil e
 | false=>exact e
theorem BR(ha:PT X a tA):PW X (.BoolOp .Or [a] pos) tA:=by
 intro wh pins s σ H Q I h
 refine isTrue_or (thn (ha pins s σ H Q I h) fun c s1 e=>?_)
 cases c with
 | false=>exact isTrue_or_nil e
 | true=>exact e
theorem BS(ha:PT X a tA)(hb:PW X (.BoolOp .And (b :: B0) pos) tB'):PW X (.BoolOp .And (a :: b :: B0) pos) (GG tA tB'):=by
 intro wh pins s σ H Q I h
 refine isTrue_and (thn (ha pins s σ H _ I h) fun c s1 zz=>?_)
 obtain⟨H1,I1,q1⟩:=zz
 cases c with
 | true=>exact hb wh pins s1 σ H1 Q I1 q1
 | false=>exact⟨H1,I1,q1⟩
theorem Fe(ha:PT X a tA)(hb:PW X (.BoolOp .Or (b :: B0) pos) tB'):PW X (.BoolOp .Or (a :: b :: B0) pos) (tOr tA tB'):=by
 intro wh pins s σ H Q I h
 refine isTrue_or (thn (ha pins s σ H _ I h) fun c s1 zz=>?_)
 obtain⟨H1,I1,q1⟩:=zz
 cases c with
 | true=>exact⟨H1,I1,q1⟩
 | false=>exact hb wh pins s1 σ H1 Q I1 q1
theorem BV(ha:PT X a tA):PT X (.UnaryOp .Not a pos) (Gy tA):=by
 intro pins s σ H Q I h
 exact isTrue_not (ha pins s σ H (fun c H1=>Q (!c) H1) I h)
def EU(ta tb:TE):TE:=fun σ H Q=>ta σ H fun x H1=>∃ c,x = .bl c∧if c=true then tb σ H1 Q else Q (.bl false) H1
def Gx(ta tb:TE):TE:=fun σ H Q=>ta σ H fun x H1=>∃ c,x = .bl c∧if c=true then Q (.bl true) H1 else tb σ H1 Q
def EK(ta:TE):TE:=fun σ H Q=>ta σ H fun x H1=>∃ c,x = .bl c∧Q (.bl (!c)) H1
theorem Cj{op}{t:TE}(h:PE X a t):PE X (.BoolOp op [a] pos) t:=fun pins s σ H Q I hw=>BoolOp_one (h pins s σ H Q I hw)
theorem Cr(ha:PE X a ta)(hb:PE X (.BoolOp .And (b :: B0) pos) tb):PE X (.BoolOp .And (a :: b :: B0) pos) (EU ta tb):=by
 intro pins s σ H Q I h
 refine BoolOp_and (thn (ha pins s σ H _ I h) fun v s1 zz=>?_)
 obtain⟨x,H1,I1,r1,q1⟩:=zz
 obtain⟨c,rfl,q1⟩:=q1
 cases r1
 refine wpAny_truthy_bool ?_
 cases c with
 | true=>exact hb pins s1 σ H1 Q I1 q1
 | false=>exact⟨.bl false,H1,I1,rfl,q1⟩
theorem Fg(ha:PE X a ta)(hb:PE X (.BoolOp .Or (b :: B0) pos) tb):PE X (.BoolOp .Or (a :: b :: B0) pos) (Gx ta tb):=by
 intro pins s σ H Q I h
 refine BoolOp_or (thn (ha pins s σ H _ I h) fun v s1 zz=>?_)
 obtain⟨x,H1,I1,r1,q1⟩:=zz
 obtain⟨c,rfl,q1⟩:=q1
 cases r1
 refine wpAny_truthy_bool ?_
 cases c with
 | false=>exact hb pins s1 σ H1 Q I1 q1
 | true=>exact⟨.bl true,H1,I1,rfl,q1⟩
theorem Ck(ha:PE X a ta):PE X (.UnaryOp .Not a pos) (EK ta):=by
 intro pins s σ H Q I h
 refine UnaryOp_ (thn (ha pins s σ H _ I h) fun v s1 zz=>?_)
 obtain⟨x,H1,I1,r1,q1⟩:=zz
 obtain⟨c,rfl,q1⟩:=q1
 cases r1
 exact not_of (wpAny_truthy_bool ⟨.bl (!c),H1,I1,rfl,q1⟩)
def tIf(t:TT)(ta tb:TE):TE:=fun σ H Q=>t σ H fun c H1=>if c=true then ta σ H1 Q else tb σ H1 Q
theorem iq{c:Expr}(hc:PT X c tA)(ha:PE X a ta)(hb:PE X b tb):PE X (.IfExp c a b pos) (tIf tA ta tb):=by
 intro pins s σ H Q I h
 refine wpAny_IfExp (thn (hc pins s σ H _ I h) fun d s1 zz=>?_)
 obtain⟨H1,I1,q1⟩:=zz
 cases d with
 | true=>exact ha pins s1 σ H1 Q I1 q1
 | false=>exact hb pins s1 σ H1 Q I1 q1
end
def SqL(K:IT)(H:Hp)(a:Addr)(xs:List V):Prop :=
 Rd H a (.lst xs) ∨
  ∃(o:Obj) (its:Array Value) (n:Nat),K.lookup a=some o∧o.cls = .type "list" ∧ o.dict=none∧o.data = .seq its n∧its.size≤sizeLine∧i9 xs its.toList
def SqT(K:IT)(H:Hp)(a:Addr)(xs:List V):Prop :=
 Rd H a (.tup xs) ∨
  ∃(o:Obj) (its:Array Value) (n:Nat),K.lookup a=some o∧o.cls = .type "tuple" ∧ o.data = .seq its n∧its.size≤sizeLine∧i9 xs its.toList
noncomputable def Hg:Value→Option V
 | .none=>some .non
 | .bool b=>some (.bl b)
 | .int i _=>some (.int i)
 | .str x _=>some (.str x)
 | .bytes b _=>some (.byt b)
 | .float b _=>some (.flt b)
 | .ref a=>some (.ref a)
 | .type n=>some (.ty n)
 | _=>none
theorem o8.abs{x:V}{u:Value}(r:o8 x u):Hg u=some x:=by
 cases x with
 | non=>cases r;rfl
 | bl _=>cases r;rfl
 | int _=>obtain⟨t,rfl⟩:=r;rfl
 | str _=>obtain⟨t,rfl⟩:=r;rfl
 | byt _=>obtain⟨t,rfl⟩:=r;rfl
 | flt _=>obtain⟨t,rfl⟩:=r;rfl
 | ref _=>cases r;rfl
 | ty _=>cases r;rfl
theorem o8.inj{x y:V}{u:Value}(r:o8 x u)(q:o8 y u):x=y:=Option.some.inj (r.abs.symm.trans q.abs)
theorem i9.inj:∀{xs ys:List V} {us:List Value},i9 xs us→i9 ys us→xs=ys
 | _,_,_,.nil,.nil=>rfl
 | _,_,_,.cons r t,.cons r' t'=>by rw[r.inj r',i9.inj t t']
section
variable {X:Cx} {pins:List (Addr × Obj)} {σ:St} {H:Hp} {s:Shared} {a:Addr} {xs ys:List V}
theorem SqL.of{K:IT}(h:H a=some (.lst xs)):SqL K H a xs:=.inl (.inl h)
theorem SqT.of{K:IT}(h:H a=some (.tup xs)):SqT K H a xs:=.inl (.inl h)
theorem Inv.list(I:Inv X pins σ H s)(h:SqL X.K H a xs):∃ its:List Value,i9 xs its∧PlainL s.heap a its.toArray∧xs.length≤sizeLine:=by
 rcases h with h|⟨o,its,n,hk,hc,hd,hs,hz,r⟩
 ·obtain⟨z,its,n,r,e⟩:=h.ok I.hok
  exact⟨its,r,⟨_,n,e,rfl,rfl,rfl⟩,z⟩
 ·refine⟨its.toList,r,⟨o,n,I.kIn a o hk,hc,hd,by simpa using hs⟩,?_⟩
  have e:=r.length
  simp only[Array.length_toList]at e
  omega
theorem Inv.tuple(I:Inv X pins σ H s)(h:SqT X.K H a xs):∃ its:List Value,i9 xs its∧IsTup s.heap a its.toArray∧xs.length≤sizeLine:=by
 rcases h with h|⟨o,its,n,hk,hc,hs,hz,r⟩
 ·obtain⟨z,its,r,p⟩:=h.ok I.hok
  exact⟨its,r,p,z⟩
 ·refine⟨its.toList,r,⟨o,I.kIn a o hk,hc,n,by simpa using hs⟩,?_⟩
  have e:=r.length
  simp only[Array.length_toList]at e
  omega
theorem Inv.list_inj(I:Inv X pins σ H s)(h:SqL X.K H a xs)(h':SqL X.K H a ys):xs=ys:=by
 obtain⟨its,r,⟨o,n,e,_,_,d⟩,_⟩:=I.list h
 obtain⟨its',r',⟨o',n',e',_,_,d'⟩,_⟩:=I.list h'
 rw[e]at e';cases e'
 rw[d]at d'
 injection d' with d1 _
 have:its=its':=by simpa using congrArg Array.toList d1
 subst this
 exact r.inj r'
theorem Inv.tuple_inj(I:Inv X pins σ H s)(h:SqT X.K H a xs)(h':SqT X.K H a ys):xs=ys:=by
 obtain⟨its,r,⟨o,e,_,n,d⟩,_⟩:=I.tuple h
 obtain⟨its',r',⟨o',e',_,n',d'⟩,_⟩:=I.tuple h'
 rw[e]at e';cases e'
 rw[d]at d'
 injection d' with d1 _
 have:its=its':=by simpa using congrArg Array.toList d1
 subst this
 exact r.inj r'
end
noncomputable abbrev Cx.wish(X:Cx)(E:Value→Shared→Prop):Cx:={ X with xe:=E }
noncomputable abbrev Cx.nox(X:Cx):Cx:=X.wish fun _ _=>False
theorem Cx.Ok.wish{X:Cx}(ok:X.Ok)(E:Value→Shared→Prop):(X.wish E).Ok :=
 ⟨ok.mod,ok.kind,ok.glob,ok.blt,ok.above,ok.inj,ok.has,ok.cab,ok.hd,ok.frames,ok.stk,ok.exf,ok.bs,ok.bsz,ok.noex,ok.exfs,ok.funs,ok.frf⟩
theorem Cx.Ok.unwish{X:Cx}{E:Value→Shared→Prop}(ok:(X.wish E).Ok):X.Ok :=
 ⟨ok.mod,ok.kind,ok.glob,ok.blt,ok.above,ok.inj,ok.has,ok.cab,ok.hd,ok.frames,ok.stk,ok.exf,ok.bs,ok.bsz,ok.noex,ok.exfs,ok.funs,ok.frf⟩
section
variable {X:Cx} {pins:List (Addr × Obj)} {σ:St} {H:Hp} {s:Shared} {E:Value→Shared→Prop}
theorem Inv.wish(I:Inv X pins σ H s)(E:Value→Shared→Prop):Inv (X.wish E) pins σ H s:=⟨I.ok.wish E,I.os,I.bare,I.base,I.loc,I.cell,I.free,I.freeC,I.pin,I.hok,I.len⟩
theorem Inv.unwish(I:Inv (X.wish E) pins σ H s):Inv X pins σ H s:=⟨I.ok.unwish,I.os,I.bare,I.base,I.loc,I.cell,I.free,I.freeC,I.pin,I.hok,I.len⟩
theorem SP.unwish{D:T4}{f:Flow}{s':Shared}(h:SP (X.wish E) pins D f s'):SP X pins D f s':=by
 cases f with
 | next=>obtain⟨σ',H',I,q⟩:=h;exact⟨σ',H',I.unwish,q⟩
 | brk=>obtain⟨σ',H',I,q⟩:=h;exact⟨σ',H',I.unwish,q⟩
 | cont=>obtain⟨σ',H',I,q⟩:=h;exact⟨σ',H',I.unwish,q⟩
 | ret u=>obtain⟨v,σ',H',I,r,q⟩:=h;exact⟨v,σ',H',I.unwish,r,q⟩
theorem PE.nox{e:Expr}{t:TE}(h:PE X.nox e t):PE X e t:=fun pins s σ H Q I hw =>
 wpAny_mono (h pins s σ H Q (I.wish _) hw) (fun _ _ ⟨v,H',I',r,q⟩=>⟨v,H',I'.unwish,r,q⟩) fun _ _ z=>False.elim z
theorem PT.nox{e:Expr}{t:TT}(h:PT X.nox e t):PT X e t:=fun pins s σ H Q I hw =>
 wpAny_mono (h pins s σ H Q (I.wish _) hw) (fun _ _ ⟨H',I',q⟩=>⟨H',I'.unwish,q⟩) fun _ _ z=>False.elim z
theorem PSs.nox{st:List Stmt}{t:TS}(h:PSs X.nox st t):PSs X st t:=fun pins s σ H D I hw =>
 wpAny_mono (h pins s σ H D (I.wish _) hw) (fun _ _ q=>q.unwish) fun _ _ z=>False.elim z
end
section
variable {X:Cx} {st:Stmt} {B0:List Stmt} {t u:TS} {e:Expr} {te:TE} {pos:Pos}
def EL:TS:=fun D σ H=>D.nx σ H
def Gu(t u:TS):TS:=fun D σ H=>t { D with nx:=u D } σ H
theorem ng:PSs X [] EL:=fun _ _ σ H _ I h=>wpAny_execs_nil ⟨σ,H,I,h⟩
theorem cc(h1:PS X st t)(h2:PSs X B0 u):PSs X (st :: B0) (Gu t u):=by
 intro pins s σ H D I h
 refine wpAny_execs_cons (thn (h1 pins s σ H { D with nx:=u D } I h) fun f s1 q=>?_)
 cases f with
 | next =>
  obtain⟨σ',H',I',q⟩:=q
  exact h2 pins s1 σ' H' D I' q
 | ret v=>exact q
 | brk=>exact q
 | cont=>exact q
theorem nc(h1:PS X st t):PSs X [st] t:=by
 intro pins s σ H D I h
 refine wpAny_execs_cons (thn (h1 pins s σ H D I h) fun f s1 q=>?_)
 cases f with
 | next=>exact wpAny_execs_nil q
 | ret v=>exact q
 | brk=>exact q
 | cont=>exact q
theorem Inv.quiet{pins:List (Addr × Obj)}{σ:St}{H:Hp}{s:Shared}(I:Inv X pins σ H s):interactive X.env=false:=by simp[interactive,I.ok.kind]
def EO(te:TE):TS:=fun D σ H=>te σ H fun _ H1=>D.nx σ H1
theorem xx(he:PE X e te)(hs:swapsWith e none pos.line X.env=pure false:=by rfl):PS X (.Expr e pos) (EO te):=by
 intro pins s σ H D I h
 exact wpAny_Expr_any (thn (he pins s σ H _ I h) fun v s1 ⟨x,H1,I1,r1,q1⟩=>⟨σ,H1,I1,q1⟩) I.quiet hs
def Gv(te:TE):TS:=fun D σ H=>te σ H D.rt
theorem sZ(he:PE X e te):PS X (.Return (some e) pos) (Gv te):=by
 intro pins s σ H D I h
 exact wpAny_Return_some (thn (he pins s σ H _ I h) fun v s1 ⟨x,H1,I1,r1,q1⟩=>⟨x,σ,H1,I1,r1,q1⟩)
def GA(c:TT)(t u:TS):TS:=fun D σ H=>c σ H fun b H1=>if b=true then t D σ H1 else u D σ H1
theorem Ah{c:Expr}{a b:List Stmt}{tc:TT}(hc:PT X c tc)(ha:PSs X a t)(hb:PSs X b u):PS X (.If c a b pos) (GA tc t u):=by
 intro pins s σ H D I h
 refine wpAny_If (thn (hc pins s σ H _ I h) fun d s1 zz=>?_)
 obtain⟨H1,I1,q1⟩:=zz
 cases d with
 | true=>exact ha pins s1 σ H1 D I1 q1
 | false=>exact hb pins s1 σ H1 D I1 q1
def Bu:TS:=fun _ _ _=>False
theorem td:PS X st Bu:=fun _ _ _ _ _ _ h=>h.elim
end
noncomputable abbrev TG:=V→St→Hp→(St→Hp→Prop)→Prop
noncomputable abbrev TGs:=List V→St→Hp→(St→Hp→Prop)→Prop
def PG(X:Cx)(target:Expr)(t:TG):Prop :=
 ∀(pins:List (Addr × Obj)) (s:Shared) (σ:St) (H:Hp) (v:V) (u:Value) (Q:St→Hp→Prop),Inv X pins σ H s→o8 v u→t v σ H Q →
  wpAny (model X.prog X.w) X.A (assign target X.env u) (fun _ s'=>∃ σ' H',Inv X pins σ' H' s'∧Q σ' H') X.xe s
def PGs(X:Cx)(ts:List Expr)(t:TGs):Prop :=
 ∀(pins:List (Addr × Obj)) (s:Shared) (σ:St) (H:Hp) (vs:List V) (us:List Value) (Q:St→Hp→Prop),Inv X pins σ H s→i9 vs us→t vs σ H Q →
  wpAny (model X.prog X.w) X.A (assignInOrder ((assignEach ts X.env).map (·.2)) us) (fun _ s'=>∃ σ' H',Inv X pins σ' H' s'∧Q σ' H') X.xe s
noncomputable abbrev DM:=V→V→V→Hp→(Hp→Prop)→Prop
def Gj(X:Cx)(t:DM):Prop :=
 ∀(pins:List (Addr × Obj)) (s:Shared) (σ:St) (H:Hp) (o i v:V) (ov iv u:Value) (Q:Hp→Prop),Inv X pins σ H s→o8 o ov→o8 i iv→o8 v u→t o i v H Q →
  wpAny (model X.prog X.w) X.A (setItem ov iv u) (fun _ s'=>∃ H',Inv X pins σ H' s'∧Q H') X.xe s
section
variable {X:Cx} {pos:Pos}
def Aw(i:Nat):TG:=fun v σ H Q=>Q (σ.set i (some v)) H
theorem xD{i:Nat}{x:Str}(hN:X.N.Nodup)(hi:X.N[i]? = some x)(hx:Loc X.env.scope x)(hf:X.fn x=true∨X.env.scope.names.lookup x=some .local:=by first|exact .inl rfl|exact .inr rfl|assumption):PG X (.Name x pos) (Aw i):=by
 intro pins s σ H v u Q I r h
 exact wpAny_assign_Name (J5 I hN hi hx r (fun s' I'=>⟨_,H,I',h⟩) hf)
def Hd:TGs:=fun vs σ H Q=>vs=[]∧Q σ H
def FE(t:TG)(u:TGs):TGs:=fun vs σ H Q=>∃ v r,vs=v :: r∧t v σ H fun σ' H'=>u r σ' H' Q
theorem xC:PGs X [] Hd:=by
 intro pins s σ H vs us Q I r h
 obtain⟨e,h⟩:=h
 subst e
 cases r
 exact assignInOrder_nil ⟨σ,H,I,h⟩
theorem tq{e:Expr}{es:List Expr}{t:TG}{u:TGs}(h1:PG X e t)(h2:PGs X es u)
  (hs:(assignEach (e :: es) X.env).map (·.2)=assign e X.env :: (assignEach es X.env).map (·.2):=by rfl):PGs X (e :: es) (FE t u):=by
 intro pins s σ H vs us Q I r h
 obtain⟨v,vr,e1,h⟩:=h
 subst e1
 cases r with
 | cons r rr =>
  rw[hs]
  refine assignInOrder_cons (thn (h1 pins s σ H _ _ _ I r h) fun _ s1 zz=>?_)
  obtain⟨σ1,H1,I1,q1⟩:=zz
  exact h2 pins s1 σ1 H1 _ _ Q I1 rr q1
def GZ(K:IT)(n:Nat)(t:TGs):TG:=fun v σ H Q=>∃ a xs,v = .ref a∧SqT K H a xs∧xs.length=n∧t xs σ H Q
theorem Ce{es:List Expr}{k:Nat}{t:TGs}{n:Nat}(hc:X.calm=true)(h:PGs X es t)
  (hn:(assignEach es X.env).length=n:=by rfl) (hst:(assignEach es X.env).findIdx? (·.1)=none:=by rfl):PG X (.Tuple es k pos) (GZ X.K n t):=by
 intro pins s σ H v u Q I r hw
 obtain⟨a,xs,e1,hq,hl,hw⟩:=hw
 subst e1
 cases r
 obtain⟨its,rv,ht,hz⟩:=I.tuple hq
 refine assign_Tuple_tuple (I.ok.hd hc) ht (by simp[hn,← hl,rv.length]) hst fun h' hx=>?_
 have I1:Inv X pins σ H { s with heap:=h' }:=I.kept (t':=s.toks) fun b o e=>hx b o (Jr (Jb e)) e
 exact h pins _ σ H xs _ Q I1 (by simpa using rv) hw
def Ha(to ti:TE)(t:DM):TG:=fun v σ H Q=>to σ H fun o H1=>ti σ H1 fun i H2=>t o i v H2 fun H3=>Q σ H3
theorem Cf{o i:Expr}{to ti:TE}{t:DM}(ho:PE X o to)(hi:PE X i ti)(hs:Gj X t)
  (ha:∀ v,assign (.Subscript o i pos) X.env v=(do
   let ov ← holding [v] (eval o X.env)
   let iv ← holding [v,ov] (eval i X.env)
   standAt pos
   holding [v,ov,iv] (setItem ov iv v)
   release [v,ov,iv] []):=by intro _;rfl):PG X (.Subscript o i pos) (Ha to ti t):=by
 intro pins s σ H v u Q I r h
 rw[ha]
 refine IU (wpAny_holding (thn (ho pins s σ H _ I h) fun ov s1 zz=>?_))
 obtain⟨x,H1,I1,r1,q1⟩:=zz
 refine IU (wpAny_holding (thn (hi pins s1 σ H1 _ I1 q1) fun iv s2 zz=>?_))
 obtain⟨y,H2,I2,r2,q2⟩:=zz
 refine IU (wpAny_standAt (IU (wpAny_holding (thn (hs pins s2 σ H2 x y v ov iv u _ I2 r1 r2 r q2) fun _ s3 zz=>?_))))
 obtain⟨H3,I3,q3⟩:=zz
 exact wpAny_release ⟨σ,H3,I3,q3⟩
def ET(te:TE)(g:TG):TS:=fun D σ H=>te σ H fun x H1=>g x σ H1 D.nx
theorem BZ{tg e:Expr}{te:TE}{g:TG}(he:PE X e te)(hg:PG X tg g)(hs:swapsWithSole [tg] e pos.line X.env=pure false:=by rfl)(hw:swappedStores [tg] e X.env=pure none:=by rfl)
  (h1:(assignEach [tg] X.env).map (·.2)=[assign tg X.env]:=by rfl):PS X (.Assign [tg] e pos) (ET te g):=by
 intro pins s σ H D I h
 refine wpAny_Assign_stores (thn (he pins s σ H _ I h) fun v s1 ⟨x,H1,I1,r1,q1⟩=>?_) hs hw
 rw[h1]
 exact thn (hg pins s1 σ H1 x v _ I1 r1 q1) fun _ s2 q=>q
theorem sY{i:Nat}{x:Str}{e:Expr}{te:TE}{pos':Pos}(hN:X.N.Nodup)(hi:X.N[i]? = some x)(hx:Loc X.env.scope x)(he:PE X e te)(hs:swapsWith e (some (.Name x pos')) pos.line X.env=pure false:=by rfl)(hf:X.fn x=true∨X.env.scope.names.lookup x=some .local:=by first|exact .inl rfl|exact .inr rfl|assumption) :
  PS X (.Assign [.Name x pos'] e pos) (ET te (Aw i)):=by
 intro pins s σ H D I h
 refine wpAny_Assign_Name (thn (he pins s σ H _ I h) fun v s1 ⟨y,H1,I1,r1,q1⟩=>?_) hs
 exact J5 I1 hN hi hx r1 (fun s2 I2=>⟨_,H1,I2,q1⟩) hf
def Gw(i j:Nat)(ta:TA):TS:=fun D σ H=>ta σ H fun vs H1=>∃ v w,vs=[v,w]∧D.nx ((σ.set i (some v)).set j (some w)) H1
theorem BW{i j:Nat}{x y:Str}{a b:Expr}{ta:TA}{px py pt:Pos}{kt k2 pt2}(hc:X.calm=true)(hN:X.N.Nodup)(hi:X.N[i]? = some x)(hj:X.N[j]? = some y)(hij:i≠j)
  (hx:X.env.scope.names.lookup x=some .local) (hy:X.env.scope.names.lookup y=some .local) (ha:PA X [a,b] ta)
  (hw:swappedStores [.Tuple [.Name x px,.Name y py] kt pt] (.Tuple [a,b] k2 pt2) X.env=pure (some [x,y]))
  (hs:swapsWithSole [.Tuple [.Name x px,.Name y py] kt pt] (.Tuple [a,b] k2 pt2) pos.line X.env=pure false:=by rfl) :
  PS X (.Assign [.Tuple [.Name x px,.Name y py] kt pt] (.Tuple [a,b] k2 pt2) pos) (Gw i j ta):=by
 intro pins s σ H D I h
 rw[exec_Assign_arm]
 refine IU (wpAny_standAt ?_)
 rw[hs]
 refine IU (Jf ?_)
 rw[if_neg (by decide)]
 refine IU (Tuple_ (thn (ha _ pins s σ H _ I h) fun us s1 zz=>?_))
 obtain⟨vs,H1,I1,r1,q1⟩:=zz
 obtain⟨v,w,e1,q1⟩:=q1
 subst e1
 obtain⟨u1,u2,rfl,rv,rw'⟩:∃ u1 u2,us=[u1,u2]∧o8 v u1∧o8 w u2:=by
  cases r1 with
  | cons p q =>
   cases q with
   | cons p' q' =>
    cases q'
    exact⟨_,_,rfl,p,p'⟩
 refine wpAny_newObj_type ?_ (by show 2≤sizeLine;decide)
 have I2:Inv X pins σ H1 { s1 with heap:=s1.heap.push { cls:=.type "tuple",data:=.seq [u1,u2].toArray } }:=I1.kept (t':=s1.toks) fun b o e=>IV _ e
 rw[hw]
 refine IU (Jf ?_)
 show wpAny (model X.prog X.w) X.A (do rule "assign.swapped-stores";let items ← unpackItems (.ref s1.heap.objs.size) 2 none;assignInOrder [fun v=>bindName X.env y v,fun v=>bindName X.env x v] items.reverse;pure Flow.next) _ _ _
 refine IU (wpAny_rule (IU (unpackItems_tuple (items:=#[u1,u2]) (I.ok.hd hc) (IsTup.new s1.heap _) fun h' hx'=>?_)))
 have I3:=I2.kept (h':=h') (t':=s1.toks) fun b o e=>hx' b o (Jr (Jb e)) e
 show wpAny _ _ (assignInOrder [fun v=>bindName X.env y v,fun v=>bindName X.env x v] [u2,u1] >>= fun _=>pure Flow.next) _ _ _
 refine IU (assignInOrder_cons (wpAny_bindName (J5 I3 hN hj (.inl hy) rw' (fun s2 I4=>?_) (.inr hy))))
 refine assignInOrder_cons (wpAny_bindName (J5 I4 hN hi (.inl hx) rv (fun s3 I5=>assignInOrder_nil (Jf ?_)) (.inr hx)))
 rw[List.set_comm _ _ (Ne.symm hij)]at I5
 exact⟨_,H1,I5,q1⟩
end
section
variable {X:Cx} {pos:Pos}
def Bs(c:TT)(tb:TS):TS:=fun D σ H=>∃ W:Nat→St→Hp→Prop,(∃ m,W m σ H)∧∀ m σ H,W m σ H →
 c σ H fun b H1=>if b=true then ∃ N:St→Hp→Prop,(∀ σ' H',N σ' H'→∃ m',m'<m∧W m' σ' H')∧tb { D with nx:=N,ct:=N,bk:=D.nx } σ H1 else D.nx σ H1
theorem sX{c:Expr}{body:List Stmt}{tc:TT}{tb:TS}(hp:PassesOwn (model X.prog X.w) X.A X.env X.xe)(hc:PT X c tc)(hb:PSs X body tb):PS X (.While c body [] pos) (Bs tc tb):=by
 intro pins s σ H D I h
 obtain⟨W,⟨m0,w0⟩,turn⟩:=h
 refine wpAny_While (codeAny_whileLoop (fun n s'=>∃ σ' H',Inv X pins σ' H' s'∧W n σ' H') ?_ m0 ⟨σ,H,I,w0⟩)
 rintro n s1 ⟨σ1,H1,I1,w1⟩
 refine wpAny_passesOwn hp (thn (hc pins s1 σ1 H1 _ I1 (turn n σ1 H1 w1)) fun b s2 zz=>?_)
 obtain⟨H2,I2,q2⟩:=zz
 cases b with
 | true =>
  obtain⟨N,hN,q2⟩:=q2
  rw[if_pos rfl]
  refine wpAny_passesOwn hp (thn (hb pins s2 σ1 H2 _ I2 q2) fun f s3 q3=>?_)
  cases f with
  | next =>
   obtain⟨σ3,H3,I3,n3⟩:=q3
   obtain⟨m',hm,w3⟩:=hN σ3 H3 n3
   exact⟨m',hm,σ3,H3,I3,w3⟩
  | cont =>
   obtain⟨σ3,H3,I3,n3⟩:=q3
   obtain⟨m',hm,w3⟩:=hN σ3 H3 n3
   exact⟨m',hm,σ3,H3,I3,w3⟩
  | brk=>exact q3
  | ret v=>exact q3
 | false =>
  rw[if_neg Jh]
  exact wpAny_execs_nil ⟨σ1,H2,I2,q2⟩
end
structure It where
 go:Nat→Hp→Prop
 yld:Nat→Hp→V→Hp→Prop
 stop:Nat→Hp→Prop
def T0(X:Cx)(pins:List (Addr × Obj))(H:Hp)(b:Addr):Prop :=
 H b=none∧b≠X.env.locals∧b∉X.fs∧(b∈X.ex∨X.s₀.heap.objs.size≤b)∧(∀ x c,X.env.cells.lookup x=some c→c≠b)∧∀ p∈X.pn++pins,p.1≠b
theorem Inv.fpOk{X:Cx}{pins:List (Addr × Obj)}{σ:St}{H H':Hp}{s:Shared}{b:Addr}(I:Inv X pins σ H s)(hb:s.heap.objs.size≤b)(hn:H' b=none):T0 X pins H' b:=by
 refine⟨hn,Ky (IX I.lt hb),I.nofs hb,.inr (Jk I.sz hb),fun x c e z=>?_,fun p hp z=>?_⟩
 ·obtain⟨v,q⟩:=I.cell x c e
  exact absurd (IX q.lt (by rw[z];exact hb)) (Kc _)
 ·exact absurd (IX (Jb (I.pin p hp).1) (by rw[z];exact hb)) (Kc _)
structure jq(P:Program)(w:World)(K:IT)(tg:Expr)(J:It)(fp:List Addr)(it:Addr)(tn:Nat→Heap→Prop):Prop where
 mem:it∈fp
 obj:∀ i h,tn i h→∀ b∈fp,∃ o,h.get? b=some o∧∀ v,o.data ≠ .cell v
 keep:∀ i h h',tn i h→(∀ b∈fp,∀ o,h.get? b=some o→h'.get? b=some o)→tn i h'
 item:∀(X:Cx),X.prog=P→X.w=w→X.K=K→X.calm=true→∀(i:Nat) (pins:List (Addr × Obj)) (s:Shared) (σ:St) (H:Hp) (E:Value→Shared→Prop),Inv X pins σ H s→(∀ b∈fp,T0 X pins H b)→tn i s.heap→J.go i H →
  wpAny (model P w) X.A (pyNext (.ref it)) (fun r s1=>∃ u,r=some u ∧
   wpAny (model P w) X.A (letOwnedTupleGo tg (.ref it) u) (fun _ s2=>∃ x H',Inv X pins σ H' s2∧o8 x u∧J.yld i H x H'∧tn (i+1) s2.heap∧∀ b∈fp,H' b=none) E s1) E s
 done:∀(X:Cx),X.prog=P→X.w=w→X.K=K→X.calm=true→∀(i:Nat) (pins:List (Addr × Obj)) (s:Shared) (σ:St) (H:Hp) (E:Value→Shared→Prop),Inv X pins σ H s→(∀ b∈fp,T0 X pins H b)→tn i s.heap→J.stop i H →
  wpAny (model P w) X.A (pyNext (.ref it)) (fun r s1=>r=none∧Inv X pins σ H s1) E s
 self:∀(A:Around) (i:Nat) (s:Shared) (Q:Value→Shared→Prop) (E:Value→Shared→Prop),tn i s.heap→Q (.ref it) s→wpAny (model P w) A (pyIter (.ref it)) Q E s
noncomputable abbrev TI:=St→Hp→(It→Hp→Prop)→Prop
def PIE(X:Cx)(pins:List (Addr × Obj))(σ:St)(tg:Expr)(R:It→Hp→Prop)(itv:Value)(s2:Shared):Prop :=
 ∃(it:Addr) (fp:List Addr) (tn:Nat→Heap→Prop) (J:It) (H':Hp),itv = .ref it∧Inv X pins σ H' s2∧jq X.prog X.w X.K tg J fp it tn∧tn 0 s2.heap∧(∀ b∈fp,T0 X pins H' b)∧R J H'
def PI(X:Cx)(tg iter:Expr)(wi:TI):Prop :=
 ∀(pins:List (Addr × Obj)) (s:Shared) (σ:St) (H:Hp) (R:It→Hp→Prop),Inv X pins σ H s→wi σ H R →
  wpAny (model X.prog X.w) X.A (eval iter X.env) (fun v s1=>wpAny (model X.prog X.w) X.A (pyIter v) (PIE X pins σ tg R) X.xe s1) X.xe s
theorem iV{M:Model}{A:Around}{E:Value→Shared→Prop}{s:Shared}{tg:Expr}{it:Addr}{u:Value}{o:Obj}{n:String}{vs:Array Value}{Q:Unit→Shared→Prop}(ho:s.heap.get? it=some o)(hc:o.cls = .type n)(hd:o.data = .fields vs)
  (hn:["enumerate","zip","dict_itemiterator","dict_reverseitemiterator","odict_iterator","itertools.zip_longest","itertools.pairwise"].contains n=false) (hQ:Q () s):wpAny M A (letOwnedTupleGo tg (.ref it) u) Q E s:=by
 unfold letOwnedTupleGo
 cases tg<;>first
  | exact Jf hQ
  | (cases u<;>first
    | exact Jf hQ
    | (refine IU (wpAny_load ho ?_);rw[hc,hd];show wpAny M A (if (["enumerate","zip","dict_itemiterator","dict_reverseitemiterator","odict_iterator","itertools.zip_longest","itertools.pairwise"].contains n && vs[0]? == some (rawInt _))=true then _ else _) Q E s;rw[if_neg (by intro h;rw[hn,Mx]at h;cases h)];exact Jf hQ))
noncomputable def Itl(K:IT)(a:Addr):It :=
 ⟨fun i H=>∃ xs x,SqL K H a xs∧xs[i]? = some x,fun i H x H'=>H'=H∧∀ xs,SqL K H a xs→xs[i]? = some x,fun i H=>∃ xs,SqL K H a xs∧xs.length≤i⟩
noncomputable def Itt(K:IT)(a:Addr):It :=
 ⟨fun i H=>∃ xs x,SqT K H a xs∧xs[i]? = some x,fun i H x H'=>H'=H∧∀ xs,SqT K H a xs→xs[i]? = some x,fun i H=>∃ xs,SqT K H a xs∧xs.length≤i⟩
noncomputable def Itr(lo:Int)(n:Nat):It:=⟨fun i _=>i<n,fun i H x H'=>H'=H∧x = .int (lo+i),fun i _=>n≤i⟩
theorem oA{P:Program}{w:World}{K:IT}{tg:Expr}(a it:Addr):jq P w K tg (Itl K a) [it] it (fun i h=>h.IsListIter it a i) where
 mem:=by simp
 obj:=fun i h st b hb=>by
  have e:b=it:=by simpa using hb
  subst e
  obtain⟨o,e,c,d⟩:=st
  exact⟨o,e,fun v z=>by rw[d]at z;cases z⟩
 keep:=fun i h h' st k=>st.at fun o e=>k it (by simp) o e
 item:=by
  intro X hP hw hK hc i pins s σ H E I hf st hg
  subst hP hw hK
  obtain⟨xs,x,hq,hx⟩:=hg
  obtain⟨its,rv,p,hz⟩:=I.list hq
  obtain⟨u,hu,ru⟩:=rv.get hx
  obtain⟨f0,f1,f2,f3,f4,f5⟩:=hf it (by simp)
  refine wpAny_pyNext_list_item st p.isList (x:=u) (by simpa using hu) fun h' st' sb=>?_
  have I1:Inv X pins σ H { s with heap:=h' }:=I.turned (t':=s.toks) (fun b o hb e=>(sb.2 b hb).trans e) f0 f1 f3 f4 f5
  obtain⟨o,e,c,d⟩:=id st'
  exact⟨u,rfl,iV (s:={ s with heap:=h' }) e c d (by decide) ⟨x,H,I1,ru,⟨rfl,fun ys hy=>by rw[I.list_inj hy hq];exact hx⟩,st',fun b hb=>(hf b hb).1⟩⟩
 done:=by
  intro X hP hw hK hc i pins s σ H E I hf st hg
  subst hP hw hK
  obtain⟨xs,hq,hx⟩:=hg
  obtain⟨its,rv,p,hz⟩:=I.list hq
  obtain⟨f0,f1,f2,f3,f4,f5⟩:=hf it (by simp)
  have hl:=rv.length
  exact wpAny_pyNext_list_end (I.ok.hd hc) st p.isList (by simp;omega) fun h' eb=>⟨rfl,I.turned (t':=s.toks) (fun b o hb e=>eb b o hb e) f0 f1 f3 f4 f5⟩
 self:=fun _ _ _ _ _ st h=>wpAny_pyIter_listiter st h
theorem jC{P:Program}{w:World}{K:IT}{tg:Expr}(a it:Addr):jq P w K tg (Itt K a) [it] it (fun i h=>h.IsTupleIter it a i) where
 mem:=by simp
 obj:=fun i h st b hb=>by
  have e:b=it:=by simpa using hb
  subst e
  obtain⟨o,e,c,d⟩:=st
  exact⟨o,e,fun v z=>by rw[d]at z;cases z⟩
 keep:=fun i h h' st k=>st.at fun o e=>k it (by simp) o e
 item:=by
  intro X hP hw hK hc i pins s σ H E I hf st hg
  subst hP hw hK
  obtain⟨xs,x,hq,hx⟩:=hg
  obtain⟨its,rv,p,hz⟩:=I.tuple hq
  obtain⟨u,hu,ru⟩:=rv.get hx
  obtain⟨f0,f1,f2,f3,f4,f5⟩:=hf it (by simp)
  refine wpAny_pyNext_tuple_item st (show s.heap.IsTuple a its.toArray from p) (x:=u) (by simpa using hu) fun h' st' sb=>?_
  have I1:Inv X pins σ H { s with heap:=h' }:=I.turned (t':=s.toks) (fun b o hb e=>(sb.2 b hb).trans e) f0 f1 f3 f4 f5
  obtain⟨o,e,c,d⟩:=id st'
  exact⟨u,rfl,iV (s:={ s with heap:=h' }) e c d (by decide) ⟨x,H,I1,ru,⟨rfl,fun ys hy=>by rw[I.tuple_inj hy hq];exact hx⟩,st',fun b hb=>(hf b hb).1⟩⟩
 done:=by
  intro X hP hw hK hc i pins s σ H E I hf st hg
  subst hP hw hK
  obtain⟨xs,hq,hx⟩:=hg
  obtain⟨its,rv,p,hz⟩:=I.tuple hq
  obtain⟨f0,f1,f2,f3,f4,f5⟩:=hf it (by simp)
  have hl:=rv.length
  exact wpAny_pyNext_tuple_end (I.ok.hd hc) st (show s.heap.IsTuple a its.toArray from p) (by simp;omega) fun h' eb=>⟨rfl,I.turned (t':=s.toks) (fun b o hb e=>eb b o hb e) f0 f1 f3 f4 f5⟩
 self:=fun _ _ _ _ _ st h=>wpAny_pyIter_tupleiter st h
theorem jD{P:Program}{w:World}{K:IT}{tg:Expr}(it:Addr)(lo:Int)(n:Nat):jq P w K tg (Itr lo n) [it] it (fun i h=>IsRangeIter h it (lo+(i:Nat)*1) ((n:Int) - (i:Nat)) 1) where
 mem:=by simp
 obj:=fun i h st b hb=>by
  have e:b=it:=by simpa using hb
  subst e
  exact⟨_,st,fun v z=>by
   have z':Data.fields _=Data.cell v:=z
   cases z'⟩
 keep:=fun i h h' st k=>k it (by simp) _ st
 item:=by
  intro X hP hw hK hc i pins s σ H E I hf st hg
  subst hP hw hK
  obtain⟨f0,f1,f2,f3,f4,f5⟩:=hf it (by simp)
  have W:=Walks.range (prog:=X.prog) (w:=X.w) (I.ok.hd hc) it lo 1 n
  refine W.item i s _ _ hg st fun v h' tk hv st' kk=>?_
  obtain⟨t,rfl⟩:=hv
  have I1:Inv X pins σ H { s with heap:=h',toks:=tk }:=I.turned (fun b o hb e=>kk b o (by simpa using hb) e) f0 f1 f3 f4 f5
  refine⟨_,rfl,iV (s:={ s with heap:=h',toks:=tk }) (n := "range_iterator") st' rfl rfl (by decide) ⟨.int (lo+i),H,I1,⟨t,?_⟩,⟨rfl,rfl⟩,st',fun b hb=>(hf b hb).1⟩⟩
  rw[Int.mul_one]
 done:=by
  intro X hP hw hK hc i pins s σ H E I hf st hg
  subst hP hw hK
  obtain⟨f0,f1,f2,f3,f4,f5⟩:=hf it (by simp)
  exact wpAny_pyNext_range_end (I.ok.hd hc) st (by have:n≤i:=hg;omega) fun h' eb=>⟨rfl,I.turned (t':=s.toks) (fun b o hb e=>eb b o hb e) f0 f1 f3 f4 f5⟩
 self:=fun _ _ _ _ _ st h=>wpAny_pyIter_rangeiter st h
section
variable {X:Cx} {tg:Expr}
theorem sV{pins:List (Addr × Obj)}{σ:St}{H:Hp}{s:Shared}{R:It→Hp→Prop}{E:Value→Shared→Prop}{lo hi:Int}{t u v:Tok}{tk:Nat}(I:Inv X pins σ H s)(h1:-(2 ^ 62)≤lo)(h2:lo<2 ^ 62)(h3:-(2 ^ 62)≤hi)(h4:hi<2 ^ 62)
  (q:R (Itr lo (hi - lo).toNat) H):wpAny (model X.prog X.w) X.A (pyIter (.ref s.heap.objs.size)) (PIE X pins σ tg R) E { s with heap:=s.heap.push { cls:=.type "range",data:=.fields #[.int lo t,.int hi u,.int 1 v] },toks:=tk }:=by
 refine wpAny_pyIter_range (IsRange.new ..) (small_one h1 h2 h3 h4) ?_
 have I1:Inv X pins σ H { s with heap:=s.heap.push { cls:=.type "range",data:=.fields #[.int lo t,.int hi u,.int 1 v] },toks:=tk }:=I.kept fun b o e=>IV _ e
 refine⟨(s.heap.push { cls:=.type "range",data:=.fields #[.int lo t,.int hi u,.int 1 v] }).objs.size,[(s.heap.push { cls:=.type "range",data:=.fields #[.int lo t,.int hi u,.int 1 v] }).objs.size],_,_,H,rfl,
  I1.kept (t':=tk) fun b o e=>IV _ e,jD _ lo (hi - lo).toNat,?_,fun b hb=>?_,q⟩
 ·have e1:lo+((0:Nat):Int)*1=lo:=by simp
  have e2:(((hi - lo).toNat:Nat):Int) - ((0:Nat):Int)=Builtin.Range.rangeSize lo hi 1:=by rw[rangeSize_one];split<;>omega
  show IsRangeIter _ _ (lo+((0:Nat):Int)*1) ((((hi - lo).toNat:Nat):Int) - ((0:Nat):Int)) 1
  rw[e1,e2]
  exact Je _ rfl
 ·have e:b=(s.heap.push { cls:=.type "range",data:=.fields #[.int lo t,.int hi u,.int 1 v] }).objs.size:=by simpa using hb
  subst e
  exact I1.fpOk (Ja _) (I1.hok.fresh (Ja _))
def Fy(ta:TA):TI:=fun σ H R=>ta σ H fun vs H1=>∃ j:Int,vs=[.int j]∧-(2 ^ 62)≤j∧j<2 ^ 62∧R (Itr 0 j.toNat) H1
theorem oW{a:Expr}{ta:TA}{p pos:Pos}(hg:Gl X "range")(hm:X.mg "range" = none)(ha:PA X [a] ta)(hs:starEach [a] X.env=[(false,eval a X.env)]:=by rfl):PI X tg (.Call (.Name "range" p) [a] [] pos) (Fy ta):=by
 intro pins s σ H R I h
 refine Call_ (X8 I hg hm boot_range (PyProof.Rows.callWith_type1 (thn (ha pos pins s σ H _ I h) fun us s1 ⟨vs,H1,I1,r1,q1⟩=>?_) hs rfl))
 obtain⟨j,e,q1,q2,q⟩:=q1
 subst e
 cases r1 with
 | cons r rr =>
  cases rr
  obtain⟨t,rfl⟩:=r
  exact call_range_1 (sV I1 (by omega) (by omega) q1 q2 (by simpa using q))
def GC(wi:TI)(g:TG)(tb:TS):TS:=fun D σ H=>wi σ H fun J H1=>∃ W:Nat→Nat→St→Hp→Prop,(∃ m,W 0 m σ H1)∧∀ i m σ H,W i m σ H →
 (J.stop i H∧D.nx σ H)∨(J.go i H∧∃ N:St→Hp→Prop,(∀ σ' H',N σ' H'→∃ m',m'<m∧W (i+1) m' σ' H')∧∀ x H',J.yld i H x H'→g x σ H' fun σ2 H2=>tb { D with nx:=N,ct:=N,bk:=D.nx } σ2 H2)
noncomputable def fk(fp:List Addr)(h:Heap):List (Addr × Obj):=fp.filterMap fun b=>(h.get? b).map fun o=>(b,o)
theorem C6{fp:List Addr}{h:Heap}{b:Addr}{o:Obj}(hb:b∈fp)(e:h.get? b=some o):(b,o)∈fk fp h:=KQ.mpr ⟨b,hb,by rw[e];rfl⟩
theorem oZ{fp:List Addr}{h:Heap}{p:Addr × Obj}(hp:p∈fk fp h):p.1∈fp∧h.get? p.1=some p.2:=by
 obtain⟨b,hb,e⟩:=KQ.mp hp
 cases q:h.get? b with
 | none=>rw[q]at e;cases e
 | some o =>
  rw[q]at e
  have e':(b,o)=p:=Option.some.inj e
  subst e'
  exact⟨hb,q⟩
theorem Inv.pinned{pins:List (Addr × Obj)}{σ:St}{H:Hp}{s:Shared}{fp:List Addr}(I:Inv X pins σ H s)(hf:∀ b∈fp,T0 X pins H b)(ho:∀ b∈fp,∃ o,s.heap.get? b=some o∧∀ v,o.data ≠ .cell v):Inv X (pins++fk fp s.heap) σ H s :=
 I.pins_of fun p hp=>(JF.mp hp).elim (fun z=>I.pin p (Jn _ z)) fun z=>by
  obtain⟨hb,e⟩:=oZ z
  obtain⟨f0,f1,f2,_⟩:=hf p.1 hb
  obtain⟨o,e',d⟩:=ho p.1 hb
  rw[e]at e';cases e'
  exact⟨e,f0,f1,f2,d⟩
theorem Inv.unpinned{pins pl:List (Addr × Obj)}{σ:St}{H:Hp}{s:Shared}(I:Inv X (pins++pl) σ H s):Inv X pins σ H s:=I.pins_of fun p hp=>I.pin p (Jn _ (Ko _ hp))
theorem BX{iter:Expr}{body:List Stmt}{wi:TI}{g:TG}{tb:TS}{pos:Pos}(hp:PassesOwn (model X.prog X.w) X.A X.env X.xe)(hc:X.calm=true)(hi:PI X tg iter wi)(hg:PG X tg g)(hb:PSs X body tb)
  (hs:∀ x,foldedSetIterable iter X.env x=pure x:=by intro _;rfl):PS X (.For tg iter body [] pos) (GC wi g tb):=by
 intro pins s σ H D I h
 refine wpAny_For (thn (hi pins s σ H _ I h) fun v s1 h1=>thn h1 fun itv s2 h2=>?_) hs
 obtain⟨it,fp,tn,J,H2,e,I2,T,st2,f2,W,⟨m0,w0⟩,turn⟩:=h2
 subst e
 have stat:∀{H':Hp},(∀ b∈fp,H' b=none)→∀ b∈fp,T0 X pins H' b:=fun hn b hb=>⟨hn b hb,(f2 b hb).2⟩
 refine codeAny_forLoop_any (fun n s'=>∃ i σ' H',Inv X pins σ' H' s'∧tn i s'.heap∧(∀ b∈fp,H' b=none)∧W i n σ' H') ?_ m0 ⟨0,σ,H2,I2,st2,fun b hb=>(f2 b hb).1,w0⟩
 rintro n s3 ⟨i,σ3,H3,I3,st3,fr3,w3⟩
 rcases turn i n σ3 H3 w3 with⟨stop,qn⟩|⟨go,N,hN,step⟩
 ·refine wpAny_passesOwn hp (thn (T.done X rfl rfl rfl hc i pins s3 σ3 H3 X.xe I3 (stat fr3) st3 stop) fun r s4 zz=>?_)
  obtain⟨hr,I4⟩:=zz
  subst hr
  exact wpAny_execs_nil ⟨σ3,H3,I4,qn⟩
 ·refine wpAny_passesOwn hp (thn (T.item X rfl rfl rfl hc i pins s3 σ3 H3 X.xe I3 (stat fr3) st3 go) fun r s4 zz=>?_)
  obtain⟨u,hr,h4⟩:=zz
  subst hr
  refine wpAny_passesOwn hp (thn h4 fun _ s5 zz=>?_)
  obtain⟨x,H5,I5,r5,y5,st5,fr5⟩:=zz
  have I5':=I5.pinned (stat fr5) (T.obj _ _ st5)
  refine wpAny_passesOwn hp (thn (hg _ s5 σ3 H5 x u _ I5' r5 (step x H5 y5)) fun _ s6 zz=>?_)
  obtain⟨σ6,H6,I6,q6⟩:=zz
  refine wpAny_passesOwn hp (thn (hb _ s6 σ6 H6 _ I6 q6) fun f s7 q7=>?_)
  have again:∀{σ7:St} {H7:Hp},Inv X (pins++fk fp s5.heap) σ7 H7 s7→N σ7 H7→∃ m,m<n∧∃ i σ' H',Inv X pins σ' H' s7∧tn i s7.heap∧(∀ b∈fp,H' b=none)∧W i m σ' H':=fun{σ7 H7} I7 n7=>by
   obtain⟨m',hm,w7⟩:=hN σ7 H7 n7
   refine⟨m',hm,i+1,σ7,H7,I7.unpinned,T.keep _ _ _ st5 fun b hb o e=>(I7.pin (b,o) (Jn _ (Jn _ (C6 hb e)))).1,fun b hb=>?_,w7⟩
   obtain⟨o,e,d⟩:=T.obj _ _ st5 b hb
   exact(I7.pin (b,o) (Jn _ (Jn _ (C6 hb e)))).2.1
  cases f with
  | next=>obtain⟨σ7,H7,I7,n7⟩:=q7;exact again I7 n7
  | cont=>obtain⟨σ7,H7,I7,n7⟩:=q7;exact again I7 n7
  | brk=>obtain⟨σ7,H7,I7,q7⟩:=q7;exact⟨σ7,H7,I7.unpinned,q7⟩
  | ret v=>obtain⟨x7,σ7,H7,I7,r7,q7⟩:=q7;exact⟨x7,σ7,H7,I7.unpinned,r7,q7⟩
end
noncomputable abbrev R2:=V→V→Hp→VK→Prop
def OpR(X:Cx)(f:Value→Value→Sem Value)(r:R2):Prop :=
 ∀(pins:List (Addr × Obj)) (s:Shared) (σ:St) (H:Hp) (x y:V) (v u:Value) (Q:VK),Inv X pins σ H s→o8 x v→o8 y u→r x y H Q →
  wpAny (model X.prog X.w) X.A (f v u) (EP X pins σ Q) X.xe s
def UnR(X:Cx)(f:Value→Sem Value)(r:V→Hp→VK→Prop):Prop :=
 ∀(pins:List (Addr × Obj)) (s:Shared) (σ:St) (H:Hp) (x:V) (v:Value) (Q:VK),Inv X pins σ H s→o8 x v→r x H Q →
  wpAny (model X.prog X.w) X.A (f v) (EP X pins σ Q) X.xe s
def u8(X:Cx)(f:Value)(r:List V→Hp→VK→Prop):Prop :=
 ∀(pins:List (Addr × Obj)) (s:Shared) (σ:St) (H:Hp) (xs:List V) (us:List Value) (Q:VK),Inv X pins σ H s→i9 xs us→r xs H Q →
  wpAny (model X.prog X.w) X.A (call f us) (EP X pins σ Q) X.xe s
def tOp(r:R2)(ta tb:TE):TE:=fun σ H Q=>ta σ H fun x H1=>tb σ H1 fun y H2=>r x y H2 Q
def tUn(r:V→Hp→VK→Prop)(ta:TE):TE:=fun σ H Q=>ta σ H fun x H1=>r x H1 Q
def rI(C:Int→Int→Prop)(g:Int→Int→V):R2:=fun x y H Q=>∃ i j,x = .int i∧y = .int j∧C i j∧Q (g i j) H
def rI0(g:Int→Int→V):R2:=fun x y H Q=>∃ i j,x = .int i∧y = .int j∧Q (g i j) H
noncomputable def rU(g:Int→V):V→Hp→VK→Prop:=fun x H Q=>∃ i,x = .int i∧Q (g i) H
section
variable {X:Cx} {a b c:Expr} {ta tb tc:TE} {pos:Pos}
theorem yM(ha:PE X a ta)(hb:PE X b tb){pins:List (Addr × Obj)}{s:Shared}{σ:St}{H:Hp}{R:V→V→Hp→Prop}(I:Inv X pins σ H s)
  (h:ta σ H fun x H1=>tb σ H1 fun y H2=>R x y H2) {Q:Value→Shared→Prop} {f:Value→Value→Sem Value}
  (hf:∀ v u s2 x y H2,Inv X pins σ H2 s2→o8 x v→o8 y u→R x y H2→wpAny (model X.prog X.w) X.A (f v u) Q X.xe s2) :
  wpAny (model X.prog X.w) X.A (eval a X.env) (fun v s₁=>wpAny (model X.prog X.w) X.A (eval b X.env) (fun u s₂=>wpAny (model X.prog X.w) X.A (f v u) Q X.xe s₂) X.xe s₁) X.xe s:=by
 refine thn (ha pins s σ H _ I h) fun v s1 zz=>?_
 obtain⟨x,H1,I1,r1,q1⟩:=zz
 refine thn (hb pins s1 σ H1 _ I1 q1) fun u s2 zz=>?_
 obtain⟨y,H2,I2,r2,q2⟩:=zz
 exact hf v u s2 x y H2 I2 r1 r2 q2
theorem Ai{op:Operator}{r:R2}(ho:OpR X (binaryOp op) r)(ha:PE X a ta)(hb:PE X b tb):PE X (.BinOp a op b pos) (tOp r ta tb):=by
 intro pins s σ H Q I h
 exact wpAny_BinOp (yM ha hb I h fun v u s2 x y H2 I2 rx ry q=>ho pins s2 σ H2 x y v u Q I2 rx ry q)
theorem Ff{op:UnaryOp}{r:V→Hp→VK→Prop}(ho:UnR X (unaryOp op) r)(ha:PE X a ta):PE X (.UnaryOp op a pos) (tUn r ta):=by
 intro pins s σ H Q I h
 exact UnaryOp_ (thn (ha pins s σ H _ I h) fun v s1 ⟨x,H1,I1,r1,q1⟩=>ho pins s1 σ H1 x v Q I1 r1 q1)
theorem opI{f:Value→Value→Sem Value}{C:Int→Int→Prop}{g:Int→Int→Int}
  (rule:∀(i j:Int) (t u:Tok) (s:Shared) (Q:Value→Shared→Prop) (E:Value→Shared→Prop),C i j→Q (.int (g i j) s.toks) { s with toks:=s.toks+1 }→wpAny (model X.prog X.w) X.A (f (.int i t) (.int j u)) Q E s) :
  OpR X f (rI C fun i j=>.int (g i j)):=by
 intro pins s σ H x y v u Q I rx ry h
 obtain⟨i,j,rfl,rfl,hc,q⟩:=h
 obtain⟨t,rfl⟩:=rx
 obtain⟨t',rfl⟩:=ry
 exact rule i j t t' s _ _ hc ⟨.int (g i j),H,I.tok _,⟨_,rfl⟩,q⟩
theorem Fm{f:Value→Value→Sem Value}{g:Int→Int→Int}
  (rule:∀(i j:Int) (t u:Tok) (s:Shared) (Q:Value→Shared→Prop) (E:Value→Shared→Prop),Q (.int (g i j) s.toks) { s with toks:=s.toks+1 }→wpAny (model X.prog X.w) X.A (f (.int i t) (.int j u)) Q E s) :
  OpR X f (rI0 fun i j=>.int (g i j)):=by
 intro pins s σ H x y v u Q I rx ry h
 obtain⟨i,j,rfl,rfl,q⟩:=h
 obtain⟨t,rfl⟩:=rx
 obtain⟨t',rfl⟩:=ry
 exact rule i j t t' s _ _ ⟨.int (g i j),H,I.tok _,⟨_,rfl⟩,q⟩
theorem Cz{f:Value→Value→Sem Value}{g:Int→Int→Bool}
  (rule:∀(i j:Int) (t u:Tok) (s:Shared) (Q:Value→Shared→Prop) (E:Value→Shared→Prop),Q (.bool (g i j)) s→wpAny (model X.prog X.w) X.A (f (.int i t) (.int j u)) Q E s) :
  OpR X f (rI0 fun i j=>.bl (g i j)):=by
 intro pins s σ H x y v u Q I rx ry h
 obtain⟨i,j,rfl,rfl,q⟩:=h
 obtain⟨t,rfl⟩:=rx
 obtain⟨t',rfl⟩:=ry
 exact rule i j t t' s _ _ ⟨.bl (g i j),H,I,rfl,q⟩
def vK(i j:Int):Prop:=0≤j∧j≤1000000∧i.natAbs<2 ^ 64
theorem Cy:OpR X (binaryOp .Add) (rI0 fun i j=>.int (i+j)):=Fm fun _ _ _ _ _ _ _ q=>add_int q
theorem Ct:OpR X (binaryOp .Sub) (rI0 fun i j=>.int (i - j)):=Fm fun _ _ _ _ _ _ _ q=>sub_int q
theorem Cw:OpR X (binaryOp .Mod) (rI (fun _ j=>0<j) fun i j=>.int (i % j)):=opI fun i j _ _ _ _ _ hc q=>by
 have h1:(0:Int)<j:=hc
 exact mod_int' (by omega) (by rw[Int.fmod_eq_emod_of_nonneg i (by omega)];exact q)
theorem Cv:OpR X (binaryOp .Pow) (rI vK fun i j=>.int (i ^ j.toNat)):=opI fun _ _ _ _ _ _ _ hc q=>pow_int_small hc.1 hc.2.1 hc.2.2 q
theorem unI{f:Value→Sem Value}{g:Int→Int}
  (rule:∀(i:Int) (t:Tok) (s:Shared) (Q:Value→Shared→Prop) (E:Value→Shared→Prop),Q (.int (g i) s.toks) { s with toks:=s.toks+1 }→wpAny (model X.prog X.w) X.A (f (.int i t)) Q E s) :
  UnR X f (rU fun i=>.int (g i)):=by
 intro pins s σ H x v Q I rx h
 obtain⟨i,rfl,q⟩:=h
 obtain⟨t,rfl⟩:=rx
 exact rule i t s _ _ ⟨.int (g i),H,I.tok _,⟨_,rfl⟩,q⟩
theorem Bp:UnR X (unaryOp .USub) (rU fun i=>.int (-i)):=unI fun _ _ _ _ _ q=>neg_int q
end
noncomputable def EY:V→V→Bool
 | .non,.non=>true|.non,.int _=>true|.int _,.non=>true|.non,.bl _=>true|.bl _,.non=>true|.non,.str _=>true|.str _,.non=>true
 | .int _,.int _=>true|.bl _,.bl _=>true|.str _,.str _=>true|.byt _,.byt _=>true
 | .int _,.str _=>true|.str _,.int _=>true|.bl _,.str _=>true|.str _,.bl _=>true
 | _,_=>false
def rEq:R2:=fun x y H Q=>EY x y=true∧Q (.bl (decide (x=y))) H
def rNe:R2:=fun x y H Q=>EY x y=true∧Q (.bl (!decide (x=y))) H
theorem nR{i j:Int}:decide (V.int i=V.int j)=(i == j):=by
 rw[Ki]
 simp
theorem uK{i j:Bool}:decide (V.bl i=V.bl j)=(i == j):=by
 rw[Ki]
 simp
theorem nQ{i j:Str}:decide (V.str i=V.str j)=(i == j):=by
 rw[Ki]
 simp
theorem nS{i j:Array UInt8}:decide (V.byt i=V.byt j)=(i.toList == j.toList):=by
 rw[Ki]
 cases i
 cases j
 simp
section
variable {X:Cx} {a b c:Expr} {ta tb tc:TE} {pos:Pos}
theorem o7{pins:List (Addr × Obj)}{σ:St}{H:Hp}{s:Shared}{Q:VK}{k k':Bool}(I:Inv X pins σ H s)(q:Q (.bl k) H)(e:k=k'):EP X pins σ Q (.bool k') s:=by
 subst e
 exact⟨.bl k,H,I,rfl,q⟩
theorem Am:OpR X (compareOp .Eq) rEq:=by
 intro pins s σ H x y v u Q I rx ry h
 obtain⟨hs,q⟩:=h
 cases x with
 | non =>
  cases rx
  cases y with
  | non=>cases ry;exact PySem.EqNone.eq_none_none (o7 I q (by simp))
  | bl j=>cases ry;exact PySem.EqNone.eq_none_bool (o7 I q (by simp))
  | int j=>obtain⟨t',rfl⟩:=ry;exact PySem.EqNone.eq_none_int (o7 I q (by simp))
  | str j=>obtain⟨t',rfl⟩:=ry;exact PySem.EqNone.eq_none_str (o7 I q (by simp))
  | _=>exact absurd (show false=true from hs) Jh
 | bl i =>
  cases rx
  cases y with
  | non=>cases ry;exact PySem.EqNone.eq_bool_none (o7 I q (by simp))
  | bl j=>cases ry;exact eq_bool (o7 I q uK)
  | str j=>obtain⟨t',rfl⟩:=ry;exact PySem.EqMixed.eq_bool_str (o7 I q (by simp))
  | _=>exact absurd (show false=true from hs) Jh
 | int i =>
  obtain⟨t,rfl⟩:=rx
  cases y with
  | non=>cases ry;exact PySem.EqNone.eq_int_none (o7 I q (by simp))
  | int j=>obtain⟨t',rfl⟩:=ry;exact eq_int (o7 I q nR)
  | str j=>obtain⟨t',rfl⟩:=ry;exact PySem.EqMixed.eq_int_str (o7 I q (by simp))
  | _=>exact absurd (show false=true from hs) Jh
 | str i =>
  obtain⟨t,rfl⟩:=rx
  cases y with
  | non=>cases ry;exact PySem.EqNone.eq_str_none (o7 I q (by simp))
  | bl j=>cases ry;exact PySem.EqMixed.eq_str_bool (o7 I q (by simp))
  | int j=>obtain⟨t',rfl⟩:=ry;exact PySem.EqMixed.eq_str_int (o7 I q (by simp))
  | str j=>obtain⟨t',rfl⟩:=ry;exact eq_str (o7 I q nQ)
  | _=>exact absurd (show false=true from hs) Jh
 | byt i =>
  obtain⟨t,rfl⟩:=rx
  cases y with
  | byt j=>obtain⟨t',rfl⟩:=ry;exact PySem.W.eq_bytes (o7 I q nS)
  | _=>exact absurd (show false=true from hs) Jh
 | _=>cases y<;>exact absurd (show false=true from hs) Jh
theorem Al:OpR X (compareOp .NotEq) rNe:=by
 intro pins s σ H x y v u Q I rx ry h
 obtain⟨hs,q⟩:=h
 cases x with
 | non =>
  cases rx
  cases y with
  | non=>cases ry;exact PySem.EqNone.ne_none_none (o7 I q (by simp))
  | bl j=>cases ry;exact PySem.EqNone.ne_none_bool (o7 I q (by simp))
  | int j=>obtain⟨t',rfl⟩:=ry;exact PySem.EqNone.ne_none_int (o7 I q (by simp))
  | str j=>obtain⟨t',rfl⟩:=ry;exact PySem.EqNone.ne_none_str (o7 I q (by simp))
  | _=>exact absurd (show false=true from hs) Jh
 | bl i =>
  cases rx
  cases y with
  | non=>cases ry;exact PySem.EqNone.ne_bool_none (o7 I q (by simp))
  | bl j=>cases ry;exact ne_bool (o7 I q (congrArg not uK))
  | str j=>obtain⟨t',rfl⟩:=ry;exact PySem.EqMixed.ne_bool_str (o7 I q (by simp))
  | _=>exact absurd (show false=true from hs) Jh
 | int i =>
  obtain⟨t,rfl⟩:=rx
  cases y with
  | non=>cases ry;exact PySem.EqNone.ne_int_none (o7 I q (by simp))
  | int j=>obtain⟨t',rfl⟩:=ry;exact ne_int (o7 I q (congrArg not nR))
  | str j=>obtain⟨t',rfl⟩:=ry;exact PySem.EqMixed.ne_int_str (o7 I q (by simp))
  | _=>exact absurd (show false=true from hs) Jh
 | str i =>
  obtain⟨t,rfl⟩:=rx
  cases y with
  | non=>cases ry;exact PySem.EqNone.ne_str_none (o7 I q (by simp))
  | bl j=>cases ry;exact PySem.EqMixed.ne_str_bool (o7 I q (by simp))
  | int j=>obtain⟨t',rfl⟩:=ry;exact PySem.EqMixed.ne_str_int (o7 I q (by simp))
  | str j=>obtain⟨t',rfl⟩:=ry;exact ne_str (o7 I q (congrArg not nQ))
  | _=>exact absurd (show false=true from hs) Jh
 | byt i =>
  obtain⟨t,rfl⟩:=rx
  cases y with
  | byt j=>obtain⟨t',rfl⟩:=ry;exact PySem.W.ne_bytes (o7 I q (congrArg not nS))
  | _=>exact absurd (show false=true from hs) Jh
 | _=>cases y<;>exact absurd (show false=true from hs) Jh
theorem Fi:OpR X (compareOp .Lt) (rI0 fun i j=>.bl (decide (i<j))):=Cz fun _ _ _ _ _ _ _ q=>lt_int q
theorem Fj:OpR X (compareOp .Gt) (rI0 fun i j=>.bl (decide (j<i))):=Cz fun _ _ _ _ _ _ _ q=>gt_int q
theorem Fl:OpR X (compareOp .GtE) (rI0 fun i j=>.bl (decide (j≤i))):=Cz fun _ _ _ _ _ _ _ q=>ge_int q
theorem fo:OpR X (compareOp .NotIn) (fun x y H Q=>∃ i j,x = .str i∧y = .str j∧Q (.bl (!(!(Builtin.Str.occurrences j i 0 j.length 1).isEmpty))) H):=by
 intro pins s σ H x y v u Q I rx ry h
 obtain⟨i,j,rfl,rfl,q⟩:=h
 obtain⟨t,rfl⟩:=rx
 obtain⟨t',rfl⟩:=ry
 exact notIn_str (o7 I q rfl)
noncomputable def Fw:HO→Bool
 | .lst _=>true
 | .ins _ _ _=>true
 | _=>false
theorem X7{pins:List (Addr × Obj)}{s:Shared}{σ:St}{H:Hp}{a:Addr}{o:HO}(I:Inv X pins σ H s)(h:H a=some o)(p:Fw o=true):∃ ob,s.heap.get? a=some ob∧ob.cls ≠ .type "tuple" := by
 cases o with
 | lst xs =>
  obtain⟨_,its,n,_,e⟩:xs.length≤sizeLine∧∃(its:List Value) (n:Nat),i9 xs its∧s.heap.get? a=some { cls:=.type "list",data:=.seq its.toArray n }:=I.hok a _ h
  exact⟨_,e,(by show Value.type "list" ≠ .type "tuple";decide +kernel)⟩
 | ins C dx fs =>
  have x:=I.hok a _ h
  obtain⟨_,_,_,e,_⟩:=x
  exact⟨_,e,(by show Value.ref C ≠ .type "tuple";exact fun z=>by cases z)⟩
 | _=>exact absurd (show false=true from p) Jh
theorem OpR.or{f:Value→Value→Sem Value}{r r':R2}(h:OpR X f r)(h':OpR X f r'):OpR X f (fun x y H Q=>r x y H Q∨r' x y H Q):=by
 intro pins s σ H x y v u Q I rx ry q
 rcases q with q|q
 ·exact h pins s σ H x y v u Q I rx ry q
 ·exact h' pins s σ H x y v u Q I rx ry q
theorem tP(b:Expr){op:CmpOp}(h:op ≠ .In:=by decide)(h2:op ≠ .NotIn:=by decide):behindInMarks op b=false:=by
 have e1:(op == CmpOp.In)=false:=by cases op<;>first|rfl|exact absurd rfl h
 have e2:(op == CmpOp.NotIn)=false:=by cases op<;>first|rfl|exact absurd rfl h2
 cases b<;>simp[behindInMarks,e1,e2]
theorem xH{op:CmpOp}{r:R2}(ho:OpR X (compareOp op) r)(ha:PE X a ta)(hb:PE X b tb)(hm:behindInMarks op b=false):PE X (.Compare a [op] [b] pos) (tOp r ta tb):=by
 intro pins s σ H Q I h
 exact wpAny_Compare1 (yM ha hb I h fun v u s2 x y H2 I2 rx ry q=>ho pins s2 σ H2 x y v u Q I2 rx ry q) hm
def EI(t:TE):TT:=fun σ H Q=>t σ H fun x H'=>∃ k,x = .bl k∧Q k H'
theorem mZ{op:CmpOp}{r:R2}(ho:OpR X (compareOp op) r)(ha:PE X a ta)(hb:PE X b tb)(hm:behindInMarks op b=false):PT X (.Compare a [op] [b] pos) (EI (tOp r ta tb)):=by
 intro pins s σ H Q I h
 refine wpAny_isTrue_Compare1 (thn (ha pins s σ H _ I h) fun v s1 ⟨x,H1,I1,r1,q1⟩=>thn (hb pins s1 σ H1 _ I1 q1) fun u s2 ⟨y,H2,I2,r2,q2⟩ =>
  thn (ho pins s2 σ H2 x y v u _ I2 r1 r2 q2) fun c s3 ⟨z,H3,I3,r3,k,e,q3⟩=>?_) hm
 subst e
 cases r3
 exact wpAny_truthy_bool ⟨H3,I3,q3⟩
theorem cy:(sizeLine:Nat)<2 ^ 63:=by rw[sizeLine_eq];decide
theorem jY:OpR X (binaryOp .Add) (fun x y H Q=>∃ i j,x = .str i∧y = .str j∧i.length+j.length≤sizeLine∧Q (.str (i++j)) H):=by
 intro pins s σ H x y v u Q I rx ry h
 obtain⟨i,j,rfl,rfl,hz,q⟩:=h
 obtain⟨t,rfl⟩:=rx
 obtain⟨t',rfl⟩:=ry
 exact add_str (fun t' tk=>⟨.str (i++j),H,I.tok _,⟨_,rfl⟩,q⟩) hz
def jt(b:Expr):Prop:=∀ o i,subscripted b false o i=operate [o,i] (getItem o i)
theorem ip(ha:PE X a ta)(hb:PE X b tb)(hs:jt b) :
  PE X (.Subscript a b pos) (tOp (fun x y H Q=>∃ z i c,x = .str z∧y = .int i∧0≤i∧i<2 ^ 63∧i<z.length∧z.cps[i.toNat]? = some c∧Q (.str ⟨#[c]⟩) H) ta tb):=by
 intro pins s σ H Q I h
 refine Subscript_ (yM ha hb I h fun v u s2 x y H2 I2 rx ry q=>?_)
 obtain⟨z,i,c,rfl,rfl,h0,h63,h1,hc,q⟩:=q
 obtain⟨t,rfl⟩:=rx
 obtain⟨t',rfl⟩:=ry
 have e:seqIndex? i z.length=some i.toNat:=PySem.StrLaws.seqIndex_nonneg h0 h1
 exact tail_any (typeIs_str s2 z t) slot_str_getitem.lookup (getItem_str (c:=c) (by
  have e1:decide (i < -(2 ^ 63:Int))=false:=decide_eq_false (by omega)
  have e2:decide (i≥2 ^ 63)=false:=decide_eq_false (by omega)
  rw[e1,e2]<;>rfl) (by rw[e];exact hc) ⟨.str ⟨#[c]⟩,H2,I2.tok _,⟨_,rfl⟩,q⟩) (hs _ _)
theorem J4{x:V}{us:List Value}(r:i9 [x] us):∃ u,us=[u]∧o8 x u:=by
 cases r with
 | cons r1 r2=>cases r2;exact⟨_,rfl,r1⟩
theorem gP{x y:V}{us:List Value}(r:i9 [x,y] us):∃ u w',us=[u,w']∧o8 x u∧o8 y w':=by
 cases r with
 | cons r1 r2 =>
  cases r2 with
  | cons r3 r4=>cases r4;exact⟨_,_,rfl,r1,r3⟩
theorem vg:u8 X (.builtin "abs") (fun xs H Q=>∃ i,xs=[.int i]∧Q (.int (if i<0 then -i else i)) H):=by
 intro pins s σ H xs us Q I r h
 obtain⟨i,rfl,q⟩:=h
 obtain⟨u,rfl,t,rfl⟩:=J4 r
 exact call_abs_int fun u tk=>⟨.int (if i<0 then -i else i),H,I.tok _,⟨_,rfl⟩,q⟩
theorem pO(hc:X.calm=true):u8 X (.builtin "max") (fun xs H Q=>∃ i j,xs=[.int i,.int j]∧Q (.int (if j > i then j else i)) H):=by
 intro pins s σ H xs us Q I r h
 obtain⟨i,j,rfl,q⟩:=h
 obtain⟨u,w',rfl,⟨t,rfl⟩,⟨t',rfl⟩⟩:=gP r
 refine max_two_ints (I.ok.hd hc) fun h' tk k=>⟨_,H,I.kept k,?_,q⟩
 by_cases hj:j > i
 ·rw[if_pos hj,if_pos hj];exact⟨_,rfl⟩
 ·rw[if_neg hj,if_neg hj];exact⟨_,rfl⟩
end
structure kD(h:Heap)(x dx C:Addr)(mA:Str→Option Value):Prop where
 obj:h.get? x=some (PySem.W.instObj C dx)
 ns:h.Ns1 dx mA
 ne:dx≠x
theorem pf{h:Heap}{dx:Addr}{mA:Str→Option Value}(n:h.Ns1 dx mA):∃ od,h.get? dx=some od∧∀ name,PySem.W.lookIn name od=some (mA name):=by
 obtain⟨o,es,ep,ho,hd,hk,_,hm⟩:=n
 refine⟨o,ho,fun name=>?_⟩
 have e:=hm name
 unfold nsFind findBy at e
 rw[← Array.find?_toList]at e
 unfold PySem.W.lookIn
 rw[hd]
 dsimp only
 split
 ·rename_i y q
  rw[q]at e
  exact congrArg some e
 ·rename_i q
  rw[q]at e
  have a:es.toList.any (·.refKey)=false:=by
   rw[List.any_eq_false]
   intro y hy
   obtain⟨z,t,hkey⟩:=hk y (Array.mem_toList_iff.mp hy)
   simp[DictEntry.refKey,hkey]
  have a':¬ es.toList.any (·.refKey)=true:=by rw[a];exact Jh
  rw[if_neg a']
  exact congrArg some e
theorem kD.look{h:Heap}{x dx C:Addr}{mA:Str→Option Value}(I:kD h x dx C mA):∃ od,PySem.W.InstAt h x (PySem.W.instObj C dx) C (some od)∧∀ name,PySem.W.lookIn name od=some (mA name) :=
 let ⟨od,ho,hl⟩:=pf I.ns
 ⟨od,⟨I.obj,rfl,rfl,ho⟩,hl⟩
section
variable {prog:Program} {w:World} {A:Around} {E:Value→Shared→Prop} {s:Shared} {K:IT} {x dx C f:Addr} {mA:Str→Option Value} {name:Str} {v:Value}
theorem yn{expr:Bool}{Q:Value→Shared→Prop}(X:K.In s.heap)(I:kD s.heap x dx C mA)(hg:PySem.W.plainGet K C name=true)(hh:PySem.W.hasDictIn K C=true)
  (ha:PySem.W.findIn K (.ref C) name=some none) (hv:mA name=some v) (hv':PySem.W.handedIn v=true) (h:Q v { s with toks:=s.toks+1 }) :
  wpAny (model prog w) A (getAttr (.ref x) name expr) Q E s:=by
 obtain⟨od,J,hl⟩:=I.look
 exact PySem.W.get_value X J (PySem.W.plainGet_of hg).1 (PySem.W.findObj_own hh ha rfl (by rw[hl,hv])) hv' h
theorem ur{pl:Sem Bool}{Q:Value × List Value→Shared→Prop}(X:K.In s.heap)(I:kD s.heap x dx C mA)(hg:PySem.W.plainGet K C name=true)
  (hf:PySem.W.findIn K (.ref C) name=some (some (.ref f))) (ht:PySem.W.isFn K (.ref f)=true) (hv:mA name=none) (h:Q (.ref f,[.ref x]) s) :
  wpAny (model prog w) A (getMethod (.ref x) name pl) Q E s:=by
 obtain⟨od,J,hl⟩:=I.look
 exact PySem.W.method_fn X J (PySem.W.plainGet_of hg).1 (PySem.W.plainGet_of hg).2 hf (beq_iff_eq.mp ht) (by show(PySem.W.lookIn name od).map (·.isSome)=some false;rw[hl,hv];rfl) h
theorem xl{ns:List Str}{Q:Unit→Shared→Prop}(X:K.In s.heap)(I:kD s.heap x dx C mA)
  (hs:PySem.W.findIn K (.ref C) "__setattr__" = some (some (.builtin "object.__setattr__"))) (hp:PySem.W.plainOver K C=true) (ht:PySem.W.takerIn K C name=some none) (hh:PySem.W.hasDictIn K C=true)
  (hw:PySem.Within mA ns) (hsz:ns.length≤sizeLine)
  (h:∀ h',kD h' x dx C (fun y=>if y=name then some v else mA y)→Heap.SameBut dx s.heap h'→Q () { s with heap:=h',toks:=s.toks+2 }) :
  wpAny (model prog w) A (setAttr (.ref x) name v) Q E s:=by
 obtain⟨od,J,hl⟩:=I.look
 refine PySem.W.set_plain X J hs (PySem.W.osa_open (s:={ s with toks:=s.toks+1 }) (r:=none) X J hp ht fun b=>?_)
 obtain⟨cd,hc,hd'⟩:=PySem.W.any_some hh
 have hx:s.heap.get? x=some ⟨.ref C,some dx,.plain,#[]⟩:=I.obj
 refine IU (Jf (IU (IU (wpAny_loadPart hx (IU (PySem.W.Looks.here (s:={ s with toks:=s.toks+1 }) (PySem.W.looks_clsIn X hc) ?_))))))
 rw[hd']
 refine Jf (a:=some dx) (IU (Jf (IU ?_)))
 refine wpAny_nsSet1 (s:={ s with toks:=s.toks+1 }) I.ns fun h' hn2 hs2=>?_
 obtain⟨oD,esD,epD,hoD,hdD,hcD⟩:=hn2.count (PySem.Within.cons name v hw)
 refine IU (wpAny_lookBehind hoD (by rw[hdD];exact pastItsLine_dict (Jk hcD (by rw[Jv];omega))) ?_)
 exact Jf (h _ ⟨(hs2.2 _ (Ne.symm I.ne)).trans I.obj,hn2,I.ne⟩ hs2)
theorem tV{R:Result→Shared→Prop}{vs:List Value}{kw:List (Str × Value)}(X:K.In s.heap)(hm:PySem.W.makesIn K C=true)
  (hi:PySem.W.findIn K (.ref C) "__init__" = some (some (.ref f))) (hf:PySem.W.typeIn K (.ref f)=some (.type "function"))
  (h:codeAny (model prog w) (A.under (.builtin "type.__call__" ⟨.ref C :: vs,kw⟩)) (.call (.ref f) ⟨.ref (s.heap.objs.size+1) :: vs,kw⟩) (PySem.W.InitBack (s.heap.objs.size+1) R)
   { s with heap:=(s.heap.push PySem.W.emptyDict).push (PySem.W.instObj C s.heap.objs.size) }) :
  codeAny (model prog w) A (.call (.ref C) ⟨vs,kw⟩) R s:=by
 obtain⟨hh,g,d,t,os⟩:=s
 exact PySem.W.make_core (PySem.W.makes_of X hm) (PySem.W.looks_findIn X hi) (fun self=>PySem.W.bind_fn X self hf) (.inl rfl) h
end
noncomputable def K9(f:Str)(v:V):List (Str × V)→List (Str × V)
 | []=>[(f,v)]
 | (g,x) :: r=>if g=f then(g,v) :: r else(g,x) :: K9 f v r
theorem ai(f g:Str)(v:V):∀ fs:List (Str × V),(K9 f v fs).lookup g=if g=f then some v else fs.lookup g
 | []=>by
  show Kd g [(f,v)]=_
  by_cases h:g=f
  ·have hb:(g == f)=true:=beq_iff_eq.mpr h
   simp only[Kd,hb,if_pos h]
  ·have hb:(g == f)=false:=beq_eq_false_iff_ne.mpr h
   simp only[Kd,hb,if_neg h]
 | (k,x) :: r=>by
  have ih:=ai f g v r
  rw[show K9 f v ((k,x) :: r)=(if k=f then(k,v) :: r else(k,x) :: K9 f v r)from rfl]
  by_cases hk:k=f
  ·rw[if_pos hk]
   by_cases h:g=k
   ·have hb:(g == k)=true:=beq_iff_eq.mpr h
    simp only[Kd,hb,if_pos (h.trans hk)]
   ·have hb:(g == k)=false:=beq_eq_false_iff_ne.mpr h
    simp only[Kd,hb,if_neg (fun e:g=f=>h (e.trans hk.symm))]
  ·rw[if_neg hk]
   by_cases h:g=k
   ·have hb:(g == k)=true:=beq_iff_eq.mpr h
    simp only[Kd,hb,if_neg (fun e:g=f=>hk (h.symm.trans e))]
   ·have hb:(g == k)=false:=beq_eq_false_iff_ne.mpr h
    simp only[Kd,hb]
    exact ih
theorem X9(f:Str)(v:V):∀ fs:List (Str × V),f∈(K9 f v fs).map (·.1)∧∀ g,g∈fs.map (·.1)→g∈(K9 f v fs).map (·.1)
 | []=>⟨by simp[K9],fun g h=>by simp at h⟩
 | (k,x) :: r=>by
  obtain⟨i1,i2⟩:=X9 f v r
  rw[show K9 f v ((k,x) :: r)=(if k=f then(k,v) :: r else(k,x) :: K9 f v r)from rfl]
  by_cases hk:k=f
  ·rw[if_pos hk]
   subst hk
   exact⟨by simp,fun g h=>by simpa using h⟩
  ·rw[if_neg hk]
   refine⟨?_,fun g h=>?_⟩
   ·rw[IY]
    exact Jc _ i1
   ·rw[IY]at h ⊢
    rcases Jj.mp h with e|e
    ·exact Jj.mpr (.inl e)
    ·exact Jc _ (i2 g e)
theorem aj(f:Str)(v:V):∀ fs:List (Str × V),(K9 f v fs).length≤fs.length+1
 | []=>by simp[K9]
 | (k,x) :: r=>by
  have ih:=aj f v r
  rw[show K9 f v ((k,x) :: r)=(if k=f then(k,v) :: r else(k,x) :: K9 f v r)from rfl]
  by_cases hk:k=f
  ·rw[if_pos hk,Jv,Jv];omega
  ·rw[if_neg hk,Jv,Jv];omega
theorem dm.some_of{v:V}{o:Option Value}(r:dm (some v) o):∃ u,o=some u∧o8 v u:=by
 cases o with
 | none=>exact(show False from r).elim
 | some u=>exact⟨u,rfl,r⟩
theorem dm.none_of{o:Option Value}(r:dm none o):o=none:=by
 cases o with
 | none=>rfl
 | some u=>exact(show False from r).elim
theorem pB{v:V}{u:Value}(r:o8 v u):PySem.W.handedIn u=true:=by
 cases v with
 | non=>cases(show u=Value.none from r);rfl
 | bl b=>cases(show u=Value.bool b from r);rfl
 | int i=>obtain⟨t,e⟩:=(show ∃ t,u=Value.int i t from r);cases e;rfl
 | str x=>obtain⟨t,e⟩:=(show ∃ t,u=Value.str x t from r);cases e;rfl
 | byt b=>obtain⟨t,e⟩:=(show ∃ t,u=Value.bytes b t from r);cases e;rfl
 | flt b=>obtain⟨t,e⟩:=(show ∃ t,u=Value.float b t from r);cases e;rfl
 | ref a=>cases(show u=Value.ref a from r);rfl
 | ty n=>cases(show u=Value.type n from r);rfl
section
variable {P:Program} {w:World} {H H':Hp} {h h':Heap} {a C dx:Addr} {fs fs':List (Str × V)}
theorem aU(hok:HOk P w H h)(e:H a=some (.ins C dx fs)):∃ mA,kD h a dx C mA∧(∀ f,dm (fs.lookup f) (mA f))∧PySem.Within mA (fs.map (·.1))∧fs.length≤1000∧H dx=some (.own a):=by
 obtain⟨d,z,ne,ob,mA,n,r,q⟩:=(show A1 P w H h a (.ins C dx fs)from hok a _ e)
 exact⟨mA,⟨ob,n,ne⟩,r,q,z,d⟩
end
structure Cls(K:IT)(C:Addr):Prop where
 pg:PySem.W.plainGet K C Str.empty=true
 hd:PySem.W.hasDictIn K C=true
 po:PySem.W.plainOver K C=true
 sa:PySem.W.findIn K (.ref C) "__setattr__" = some (some (.builtin "object.__setattr__"))
theorem Cls.get{K:IT}{C:Addr}(c:Cls K C)(f:Str):PySem.W.plainGet K C f=true:=c.pg
def S8(K:IT)(C:Addr)(f:Str):Prop:=PySem.W.findIn K (.ref C) f=some none
theorem S8.taker{K:IT}{C:Addr}{f:Str}(n:S8 K C f):PySem.W.takerIn K C f=some none:=by
 unfold PySem.W.takerIn
 rw[show PySem.W.findIn K (.ref C) f=some none from n]
 rfl
structure vE(K:IT)(C:Addr)(m:Str)(f:Addr):Prop where
 at_:PySem.W.findIn K (.ref C) m=some (some (.ref f))
 fn:PySem.W.isFn K (.ref f)=true
 kp:PySem.W.keepIn K (.ref f)=true
section
variable {X:Cx} {pins:List (Addr × Obj)} {σ:St} {H:Hp} {s:Shared} {a C dx:Addr} {fs:List (Str × V)} {f:Str} {v:V} {A:Around} {E:Value→Shared→Prop}
theorem ku{b:Bool}{Q:Value→Shared→Prop}(I:Inv X pins σ H s)(e:H a=some (.ins C dx fs))(c:Cls X.K C)(n:S8 X.K C f)(l:fs.lookup f=some v)
  (h:∀ u s',Inv X pins σ H s'→o8 v u→Q u s'):wpAny (model X.prog X.w) A (getAttr (.ref a) f b) Q E s:=by
 obtain⟨mA,O,r,_,_,_⟩:=aU I.hok e
 obtain⟨u,hu,ru⟩:=dm.some_of (v:=v) (o:=mA f) (by rw[← l];exact r f)
 exact yn I.kIn O (c.get f) c.hd n hu (pB ru) (h u _ (I.tok _) ru)
theorem cD{m:Str}{g:Addr}{pl:Sem Bool}{Q:Value × List Value→Shared→Prop}(I:Inv X pins σ H s)(e:H a=some (.ins C dx fs))(c:Cls X.K C)(k:vE X.K C m g)(l:fs.lookup m=none)
  (h:Q (.ref g,[.ref a]) s):wpAny (model X.prog X.w) A (getMethod (.ref a) m pl) Q E s:=by
 obtain⟨mA,O,r,_,_,_⟩:=aU I.hok e
 have hn:mA m=none:=dm.none_of (by rw[← l];exact r m)
 exact ur I.kIn O (c.get m) k.at_ k.fn hn h
theorem jI{y:V}{u:Value}{Q:Unit→Shared→Prop}(I:Inv X pins σ H s)(e:H a=some (.ins C dx fs))(c:Cls X.K C)(n:S8 X.K C f)(hl:fs.length<1000)(ry:o8 y u)
  (h:∀ s',Inv X pins σ (upd H a (.ins C dx (K9 f y fs))) s'→Q () s'):wpAny (model X.prog X.w) A (setAttr (.ref a) f u) Q E s:=by
 obtain⟨mA,O,r,wi,_,ho⟩:=aU I.hok e
 have hz:(fs.map (·.1)).length≤sizeLine:=by rw[IW,sizeLine_eq];omega
 refine xl I.kIn O c.sa c.po n.taker c.hd wi hz fun h' O' sb=>h _ ?_
 have hd:∃ o,h'.get? dx=some o:=let ⟨o,_,_,e',_⟩:=O'.ns;⟨o,e'⟩
 refine I.write (x:=a) (e:=dx) (by rw[e];exact True.intro) (.inr ho) (fun b q hb z=>(sb.2 b hb).trans z) hd ?_
 refine⟨by rw[i3 O.ne];exact ho,?_,O.ne,O'.obj,_,O'.ns,fun g=>?_,fun g hg=>?_⟩
 ·have:=aj f y fs;omega
 ·show dm ((K9 f y fs).lookup g) (if g=f then some u else mA g)
  rw[ai]
  by_cases q:g=f
  ·rw[if_pos q,if_pos q];exact ry
  ·rw[if_neg q,if_neg q];exact r g
 ·by_cases q:g=f
  ·rw[q];exact(X9 f y fs).1
  ·refine(X9 f y fs).2 g (wi g fun z=>hg ?_)
   show(if g=f then some u else mA g)=none
   rw[if_neg q];exact z
theorem Inv.made(I:Inv X pins σ H s):Inv X pins σ (upd (upd H s.heap.objs.size (.own (s.heap.objs.size+1))) (s.heap.objs.size+1) (.ins C s.heap.objs.size []))
  { s with heap:=(s.heap.push PySem.W.emptyDict).push (PySem.W.instObj C s.heap.objs.size) }:=by
 have e1:(s.heap.push PySem.W.emptyDict).get? s.heap.objs.size=some PySem.W.emptyDict:=Je s.heap rfl
 have e2:((s.heap.push PySem.W.emptyDict).push (PySem.W.instObj C s.heap.objs.size)).get? (s.heap.objs.size+1)=some (PySem.W.instObj C s.heap.objs.size):=by
  have:=Je (s.heap.push PySem.W.emptyDict) (o:=PySem.W.instObj C s.heap.objs.size) rfl
  rwa [JR]at this
 have e3:(s.heap.push PySem.W.emptyDict).Ns s.heap.objs.size (fun _=>none):=⟨PySem.W.emptyDict,#[],_,e1,rfl,(fun e he=>absurd he (by simp)),fun _=>rfl⟩
 have I1:=I.laid (a:=s.heap.objs.size) (o:=.own (s.heap.objs.size+1)) (h':=s.heap.push PySem.W.emptyDict) (t':=s.toks) (fun b u q=>IV _ q) (Ja _) ⟨_,e1⟩
 refine I1.laid (a:=s.heap.objs.size+1) (o:=.ins C s.heap.objs.size []) (t':=s.toks) (fun b u q=>IV _ q) (Lo (JR _ _)) ?_
 have ne:s.heap.objs.size≠s.heap.objs.size+1:=Jr (Kz _)
 refine⟨by rw[i3 ne,j4],Jx _,ne,e2,fun _=>none,(Heap.Ns1.of_empty e3).at fun o q=>IV _ q,fun _=>True.intro,fun y hy=>absurd rfl hy⟩
theorem yN{prog:Program}{w:World}{env:Env}{e:Expr}{f:Str}{pos:Pos}{s:Shared}{Q:Value→Shared→Prop}(hb:attributeBase e f env (eval e env)=eval e env)
  (h:wpAny (model prog w) A (eval e env) (fun o s₁=>wpAny (model prog w) A (getAttr o f true) Q E s₁) E s):wpAny (model prog w) A (eval (.Attribute e f pos) env) Q E s :=
 Attribute_any_ h (by rw[arm_eval_Attribute,hb])
end
def GD(K:IT)(ta:TE)(f:Str):TE:=fun σ H Q=>ta σ H fun x H1=>∃ a C dx fs v,x = .ref a∧H1 a=some (.ins C dx fs)∧Cls K C∧S8 K C f∧fs.lookup f=some v∧Q v H1
def GH(K:IT)(ta tv:TE)(f:Str):TS:=fun D σ H=>tv σ H fun y H1=>ta σ H1 fun x H2=>∃ a C dx fs,x = .ref a∧H2 a=some (.ins C dx fs)∧Cls K C∧S8 K C f∧fs.length<1000 ∧
 D.nx σ (upd H2 a (.ins C dx (K9 f y fs)))
section
variable {X:Cx} {o e value:Expr} {f:Str} {pos pos' tpos:Pos} {ta tv:TE}
theorem Co(he:PE X e ta)(hb:attributeBase e f X.env (eval e X.env)=eval e X.env):PE X (.Attribute e f pos) (GD X.K ta f):=by
 intro pins s σ H Q I h
 refine yN hb (thn (he pins s σ H _ I h) fun u s1 zz=>?_)
 obtain⟨x,H1,I1,rx,a,C,dx,fs,v,ex,ea,c,n,l,q⟩:=zz
 subst ex
 obtain rfl:u=Value.ref a:=rx
 exact ku I1 ea c n l fun u' s2 I2 ru=>⟨v,H1,I2,ru,q⟩
theorem BY(ha:PE X o ta)(hv:PE X value tv)(hs:swapsWith value (some (.Attribute o f pos')) pos.line X.env=pure false):PS X (.Assign [.Attribute o f pos'] value pos) (GH X.K ta tv f):=by
 intro pins s σ H D I h
 refine plainObj_wpAny_Assign_Attribute (thn (hv pins s σ H _ I h) fun u s1 ⟨y,H1,I1,ry,q⟩=>thn (ha pins s1 σ H1 _ I1 q) fun ov s2 ⟨x,H2,I2,rx,a,C,dx,fs,ex,ea,c,n,l,q2⟩=>?_) hs
 subst ex
 obtain rfl:ov=Value.ref a:=rx
 exact jI I2 ea c n l ry fun s3 I3=>⟨σ,_,I3,q2⟩
end
section
variable {X:Cx} {pins:List (Addr × Obj)} {σ:St} {H:Hp} {s:Shared} {A:Around} {E:Value→Shared→Prop} {Q:Value→Shared→Prop} {c:Value} {b:Bool}
inductive ay (K:IT) (H:Hp):V→Value→Prop where
 | non:ay K H .non (.type "NoneType")
 | bl (x:Bool):ay K H (.bl x) (.type "bool")
 | int (i:Int):ay K H (.int i) (.type "int")
 | str (x:Str):ay K H (.str x) (.type "str")
 | flt (x:UInt64):ay K H (.flt x) (.type "float")
 | lst {a:Addr} {xs:List V} (e:H a=some (.lst xs)):ay K H (.ref a) (.type "list")
 | frz {a:Addr} {o:Obj} {xs:List V} (e:H a=some (.frz o (.lst xs))):ay K H (.ref a) (.type "list")
 | tup {a:Addr} {xs:List V} (e:H a=some (.tup xs)):ay K H (.ref a) (.type "tuple")
 | dK {a:Addr} {kvs:List (Key × V)} (e:H a=some (.dK kvs)):ay K H (.ref a) (.type "dict")
 | dT {a:Addr} {kvs:List (List Key × V)} (e:H a=some (.dT kvs)):ay K H (.ref a) (.type "dict")
 | ins {a C dx:Addr} {fs:List (Str × V)} (e:H a=some (.ins C dx fs)) (cl:Cls K C) (ha:PySem.W.findIn K (.ref C) "__class__" = some (some (.builtin "object.__class__")))
   (hn:PySem.W.specialIn K (.builtin "object.__class__") "__get__" = some (some (.builtin "getset_descriptor.__get__"))) (htk:PySem.W.takesIn K (.builtin "object.__class__")=some true)
   (hm:PySem.W.mroIn K C (.type "object")=some true):ay K H (.ref a) (.ref C)
theorem J7{x:V}{u t:Value}(I:Inv X pins σ H s)(rx:o8 x u)(ty:ay X.K H x t)(e:PySem.W.kitOne X.K t c=some b)(h:∀ tk,Q (.bool b) { s with toks:=tk }) :
  wpAny (model X.prog X.w) A (call (.builtin "isinstance") [u,c]) Q E s:=by
 cases ty with
 | non=>cases(show u=Value.none from rx);exact PySem.W.kia_one PySem.W.kitx_none I.kIn True.intro e (fun z=>nomatch z) h
 | bl y=>cases(show u=Value.bool y from rx);exact PySem.W.kia_one PySem.W.kitx_bool I.kIn True.intro e (fun z=>nomatch z) h
 | int i=>obtain⟨t,q⟩:=(show ∃ t,u=Value.int i t from rx);cases q;exact PySem.W.kia_one PySem.W.kitx_int I.kIn True.intro e (fun z=>nomatch z) h
 | str y=>obtain⟨t,q⟩:=(show ∃ t,u=Value.str y t from rx);cases q;exact PySem.W.kia_one PySem.W.kitx_str I.kIn True.intro e (fun z=>nomatch z) h
 | flt y=>obtain⟨t,q⟩:=(show ∃ t,u=Value.float y t from rx);cases q;exact PySem.W.kia_one PySem.W.kitx_float I.kIn True.intro e (fun z=>nomatch z) h
 | @lst a xs ea =>
  cases(show u=Value.ref a from rx)
  obtain⟨_,_,n,_,h1⟩:=(show A1 X.prog X.w H s.heap a (.lst xs)from I.hok a _ ea)
  exact PySem.W.kia_one PySem.W.kitx_list I.kIn ⟨_,h1,rfl⟩ e (fun z=>nomatch z) h
 | @frz a ob xs ea =>
  cases(show u=Value.ref a from rx)
  obtain⟨_,_,_,n,_,h1⟩:=(show A1 X.prog X.w H s.heap a (.frz ob (.lst xs))from I.hok a _ ea)
  exact PySem.W.kia_one PySem.W.kitx_list I.kIn ⟨_,h1,rfl⟩ e (fun z=>nomatch z) h
 | @tup a xs ea =>
  cases(show u=Value.ref a from rx)
  obtain⟨_,_,_,p⟩:=(show A1 X.prog X.w H s.heap a (.tup xs)from I.hok a _ ea)
  obtain⟨o,h1,h2,_⟩:=p
  exact PySem.W.kia_one PySem.W.kitx_tuple I.kIn ⟨o,h1,h2⟩ e (fun z=>nomatch z) h
 | @dK a kvs ea =>
  cases(show u=Value.ref a from rx)
  obtain⟨_,_,vs,_,p⟩:=(show A1 X.prog X.w H s.heap a (.dK kvs)from I.hok a _ ea)
  obtain⟨o,es,ep,h1,h2,_⟩:=p
  exact PySem.W.kia_one PySem.W.kitx_dict I.kIn ⟨o,h1,h2.1⟩ e (fun z=>nomatch z) h
 | @dT a kvs ea =>
  cases(show u=Value.ref a from rx)
  obtain⟨_,_,xs,_,o,es,ep,h1,h2,_⟩:=(show A1 X.prog X.w H s.heap a (.dT kvs)from I.hok a _ ea)
  exact PySem.W.kia_one PySem.W.kitx_dict I.kIn ⟨o,h1,h2.1⟩ e (fun z=>nomatch z) h
 | @ins a C dx fs ea cl ha hn htk hm =>
  cases(show u=Value.ref a from rx)
  obtain⟨mA,O,_⟩:=aU I.hok ea
  obtain⟨od,J,_⟩:=O.look
  exact PySem.W.kia_one (PySem.W.kitx_own (cl.get _) cl.hd ha hn htk hm) I.kIn J e (fun z=>nomatch z) h
end
structure z4(k:Nat)(A:Around):Prop where
 hd:A.handled=none
 dp:A.depth+3*k+5<recursionLimit
 un:A.units+16*k+200<cLine
theorem z4.mono{j k:Nat}{A:Around}(r:z4 k A)(h:j≤k):z4 j A:=⟨r.hd,by have:=r.dp;omega,by have:=r.un;omega⟩
theorem z4.deeper{k:Nat}{A:Around}(r:z4 (k+1) A)(env:Env):z4 k (A.deeper env) :=
 ⟨r.hd,by have:=r.dp;show A.depth+1+3*k+5<_;omega,by have:=r.un;show A.units+3+16*k+200<_;omega⟩
theorem z4.in1{k:Nat}{A:Around}(r:z4 (k+1) A):z4 k A.in1 :=
 ⟨r.hd,by have:=r.dp;show A.depth+3*k+5<_;omega,by have:=r.un;show A.units+1+16*k+200<_;omega⟩
theorem ke{A:Around}{C:Addr}{us:List Value}{kw:List (Str × Value)}:(A.under (.builtin "type.__call__" ⟨.ref C :: us,kw⟩)).depth=A.depth+1:=by
 first|rfl|simp[Around.under,Code.weight,Code.isCreation,Code.isGuard,Code.isCaller,Code.frames,Code.isFrame,guardIds]
theorem kd{A:Around}{C:Addr}{us:List Value}{kw:List (Str × Value)}:(A.under (.builtin "type.__call__" ⟨.ref C :: us,kw⟩)).units=A.units+1:=by
 first|rfl|simp[Around.under,Code.cUnits,Code.frames,Code.isFrame]
theorem z4.make{k:Nat}{A:Around}(r:z4 (k+1) A)(C:Addr)(us:List Value)(kw:List (Str × Value)):z4 k (A.under (.builtin "type.__call__" ⟨.ref C :: us,kw⟩)) :=
 ⟨r.hd,by have:=r.dp;rw[ke];omega,by have:=r.un;rw[kd];omega⟩
theorem z4.depth{k:Nat}{A:Around}(r:z4 k A):A.depth<recursionLimit:=by have:=r.dp;omega
theorem z4.units{k:Nat}{A:Around}(r:z4 k A):A.units+64<cLine:=by have:=r.un;omega
def Bt:TA:=fun _ H Q=>Q [] H
def ER(ta:TE)(tr:TA):TA:=fun σ H Q=>ta σ H fun x H1=>tr σ H1 fun xs H2=>Q (x :: xs) H2
section
variable {X:Cx} {e:Expr} {es:List Expr} {te:TE} {t:TA} {pos:Pos}
theorem L5:PA X [] Bt:=fun _ _ _ _ H Q I h=>Calls.spliced_nil ⟨[],H,I,.nil,h⟩
theorem A8(ha:PE X e te)(hr:PA X es t)(hs:starEach (e :: es) X.env=(false,eval e X.env) :: starEach es X.env:=by rfl):PA X (e :: es) (ER te t):=by
 intro pos pins s σ H Q I h
 rw[hs]
 show wpAny _ _ (spliced ((false,eval e X.env) :: backTo pos (starEach es X.env))) _ _ s
 refine Calls.spliced_cons (thn (ha pins s σ H _ I h) fun u s1 zz=>?_)
 obtain⟨x,H1,I1,r1,q1⟩:=zz
 exact thn (hr pos pins s1 σ H1 _ I1 q1) fun us s2 ⟨xs,H2,I2,r2,q2⟩=>⟨x :: xs,H2,I2,.cons r1 r2,q2⟩
def Gs(t:TA):TE:=fun σ H Q=>t σ H fun xs H1=>xs.length≤sizeLine∧∀ p,H1 p=none→Q (.ref p) (upd H1 p (.tup xs))
def Gz(t:TA):TE:=fun σ H Q=>t σ H fun xs H1=>xs.length≤sizeLine∧∀ p,H1 p=none→Q (.ref p) (upd H1 p (.lst xs))
theorem jW{x1}(h:PA X es t):PE X (.Tuple es x1 pos) (Gs t):=by
 intro pins s σ H Q I hq
 refine wpAny_Tuple_spliced (thn (h pos pins s σ H _ I hq) fun us s1 ⟨xs,H1,I1,r,z,q⟩=>⟨by rw[← r.length];exact z,?_⟩)
 have hf:H1 s1.heap.objs.size=none:=I1.hok.fresh (Ja _)
 refine⟨.ref s1.heap.objs.size,upd H1 s1.heap.objs.size (.tup xs),I1.laid (t':=s1.toks) (fun b u e=>IV _ e) (Ja _) ?_,rfl,q _ hf⟩
 exact⟨z,us,r,⟨_,Je _ rfl,rfl,_,rfl⟩⟩
theorem jX(h:PA X es t):PE X (.List es pos) (Gz t):=by
 intro pins s σ H Q I hq
 refine wpAny_List_spliced (thn (h pos pins s σ H _ I hq) fun us s1 ⟨xs,H1,I1,r,z,q⟩=>⟨by rw[← r.length];exact z,?_⟩)
 have hf:H1 s1.heap.objs.size=none:=I1.hok.fresh (Ja _)
 refine⟨.ref s1.heap.objs.size,upd H1 s1.heap.objs.size (.lst xs),I1.laid (t':=s1.toks) (fun b u e=>IV _ e) (Ja _) ?_,rfl,q _ hf⟩
 exact⟨z,us,0,r,Je _ rfl⟩
end
noncomputable abbrev Sp:=List V→Hp→VK→XK→Prop
noncomputable abbrev CXT:=List Env→Hp→Shared→XK→Value→Shared→Prop
structure dn(P:Program)(w:World)(K:IT)(mg:Str→Option Value)(base:Heap)(A:Around)(outer:List Env)(s:Shared)(H:Hp):Prop where
 frames:A.frames=some outer
 mod:Mod K mg base
 bs:∀ b o,base.get? b=some o→s.heap.get? b=some o∧H b=none
 bsz:base.objs.size≤s.heap.objs.size
 funs:s.heap.FunFrames base outer
 frf:∀ b∈frs outer,H b=none
 hok:HOk P w H s.heap
 bare:AllBare s.gens
def CE(outer:List Env)(P:Program)(w:World)(H:Hp)(s:Shared)(Q:VK)(u:Value)(s':Shared):Prop :=
 ∃ v H',s'.os=s.os∧AllBare s'.gens∧Un (frs outer) [] H H' s.heap s'.heap∧HOk P w H' s'.heap∧o8 v u∧Q v H'
def CR(CX:CXT)(outer:List Env)(P:Program)(w:World)(H:Hp)(s:Shared)(Q:VK)(E:XK)(r:Result)(s':Shared):Prop :=
 match r with
 | .ok (.ret u)=>CE outer P w H s Q u s'
 | .ok _=>False
 | .error e=>CX outer H s E e s'
structure E8(P:Program)(w:World)(K:IT)(mg:Str→Option Value)(base:Heap)(CX:CXT)(k:Nat)(f:Addr)(fd:FuncData)(ps:List Str)(sp:Sp):Prop where
 len:∀ vs H Q E,sp vs H Q E→vs.length=ps.length
 run:∀(A:Around) (outer:List Env) (s:Shared) (H:Hp) (args:Args) (us:List Value) (vs:List V) (Q:VK) (E:XK),z4 k A→dn P w K mg base A outer s H→BindsTo s fd args (ps.zip us)→i9 vs us→sp vs H Q E →
  codeAny (model P w) A (.call (.ref f) args) (CR CX outer P w H s Q E) s
theorem E8.mono{P:Program}{w:World}{K:IT}{mg:Str→Option Value}{base:Heap}{CX:CXT}{j k:Nat}{f:Addr}{fd:FuncData}{ps:List Str}{sp:Sp}(F:E8 P w K mg base CX j f fd ps sp)(h:j≤k) :
  E8 P w K mg base CX k f fd ps sp:=⟨F.len,fun A outer s H args us vs Q E hr=>F.run A outer s H args us vs Q E (hr.mono h)⟩
theorem E8.imp{P:Program}{w:World}{K:IT}{mg:Str→Option Value}{base:Heap}{CX:CXT}{k:Nat}{f:Addr}{fd:FuncData}{ps:List Str}{sp sp':Sp}(F:E8 P w K mg base CX k f fd ps sp)
  (h:∀ vs H Q E,sp' vs H Q E→sp vs H Q E):E8 P w K mg base CX k f fd ps sp' :=
 ⟨fun vs H Q E q=>F.len vs H Q E (h _ _ _ _ q),fun A outer s H args us vs Q E hr he hb hv hs=>F.run A outer s H args us vs Q E hr he hb hv (h _ _ _ _ hs)⟩
theorem dn.make{P:Program}{w:World}{K:IT}{mg:Str→Option Value}{base:Heap}{A:Around}{outer:List Env}{s:Shared}{H:Hp}(e:dn P w K mg base A outer s H)(C:Addr)(us:List Value)(kw:List (Str × Value)) :
  dn P w K mg base (A.under (.builtin "type.__call__" ⟨.ref C :: us,kw⟩)) outer s H:=⟨by first|exact e.frames|(simpa[Around.under,Code.envs,Code.isFrame,pushEnvs]using e.frames),e.mod,e.bs,e.bsz,e.funs,e.frf,e.hok,e.bare⟩
theorem dn.in1{P:Program}{w:World}{K:IT}{mg:Str→Option Value}{base:Heap}{A:Around}{outer:List Env}{s:Shared}{H:Hp}(e:dn P w K mg base A outer s H) :
  dn P w K mg base A.in1 outer s H:=⟨e.frames,e.mod,e.bs,e.bsz,e.funs,e.frf,e.hok,e.bare⟩
section
variable {X:Cx} {pins:List (Addr × Obj)} {σ:St} {H:Hp} {s s':Shared}
theorem Inv.env0(I:Inv X pins σ H s):dn X.prog X.w X.K X.mg X.base X.A X.stack s H :=
 ⟨I.ok.frames,I.ok.mod,I.bs,Jk I.ok.bsz I.sz,I.stack,I.stkFree,I.hok,I.bare⟩
theorem Inv.after{Q:VK}{u:Value}(I:Inv X pins σ H s)(h:CE X.stack X.prog X.w H s Q u s'):EP X pins σ Q u s':=by
 obtain⟨v,H',os,bare,un,hok,r,q⟩:=h
 obtain⟨hh,g,d,t,os'⟩:=s'
 obtain rfl:os'=s.os:=os
 exact⟨v,H',I.call (h':=hh) (g':=g) (d':=d) (t':=t) (ch:=[]) un hok bare (fun b z=>absurd z (by simp)),r,q⟩
end
def ES(sp:Sp)(dvs:List V)(E:XK)(t:TA):TE:=fun σ H Q=>t σ H fun vs H1=>sp (vs++dvs) H1 Q E
def Ac(C:Addr)(m:Str)(sp:Sp)(dvs:List V)(E:XK)(ta:TE)(t:TA):TE:=fun σ H Q=>ta σ H fun x H1=>∃ a dx fs,x = .ref a∧H1 a=some (.ins C dx fs)∧fs.lookup m=none ∧
 t σ H1 fun vs H2=>sp (x :: (vs++dvs)) H2 Q E
def EM(C:Addr)(sp:Sp)(dvs:List V)(E:XK)(t:TA):TE:=fun σ H Q=>t σ H fun vs H1=>∀ x dx,H1 x=none→H1 dx=none→dx≠x →
 sp (.ref x :: (vs++dvs)) (upd (upd H1 dx (.own x)) x (.ins C dx [])) (fun v H2=>v = .non∧Q (.ref x) H2) E
def G3(K:IT)(fd:FuncData)(ps:List Str)(ds:List Value):Prop :=
 ∀(s:Shared) (us:List Value),K.In s.heap→(us++ds).length=ps.length→BindsTo s fd ⟨us,[]⟩ (ps.zip (us++ds))
theorem G3.all{K:IT}{fd:FuncData}{ps:List Str}(h:∀ us:List Value,us.length=ps.length→bindArgs fd ⟨us,[]⟩=pure (ps.zip us)):G3 K fd ps []:=fun s us _ hl=>by
 rw[Jy]at hl ⊢
 exact .of_eq (h us hl)
def O8(CX:CXT)(X:Cx)(E:XK):Prop:=∀(pins:List (Addr × Obj)) (σ:St) (H:Hp) (s:Shared) (e:Value) (s':Shared),Inv X pins σ H s→CX X.stack H s E e s'→X.xe e s'
section
variable {X:Cx} {CX:CXT} {k:Nat} {f C:Addr} {fd:FuncData} {ps:List Str} {sp:Sp} {dvs:List V} {ds:List Value} {E:XK} {x m:Str} {p pos apos:Pos} {e o:Expr} {es:List Expr} {ta:TE} {t:TA}
theorem sI{pins:List (Addr × Obj)}{σ:St}{H:Hp}{s:Shared}{Q:VK}{us:List Value}{vs:List V}(F:E8 X.prog X.w X.K X.mg X.base CX k f fd ps sp)(hr:z4 k X.A)(hb:G3 X.K fd ps ds)(hd:i9 dvs ds)(hx:O8 CX X E)
  (I:Inv X pins σ H s) (r:i9 vs us) (h:sp (vs++dvs) H Q E):wpAny (model X.prog X.w) X.A (call (.ref f) us) (EP X pins σ Q) X.xe s:=by
 have r2:i9 (vs++dvs) (us++ds):=r.append hd
 have hl:(us++ds).length=ps.length:=by rw[← r2.length];exact F.len _ _ _ _ h
 refine wpAny_call (codeAny_mono (F.run X.A X.stack s H ⟨us,[]⟩ (us++ds) (vs++dvs) Q E hr I.env0 (hb s us I.kIn hl) r2 h) fun r s' hq=>?_)
 cases r with
 | error e=>exact hx pins σ H s e s' I hq
 | ok fl =>
  cases fl with
  | ret u=>exact I.after hq
  | next=>exact False.elim hq
  | brk=>exact False.elim hq
  | cont=>exact False.elim hq
theorem ni(F:E8 X.prog X.w X.K X.mg X.base CX k f fd ps sp)(hr:z4 k X.A)(hg:Gl X x)(hm:X.mg x=some (.ref f))(hk:PySem.W.keepIn X.K (.ref f)=true)(hb:G3 X.K fd ps ds)(hd:i9 dvs ds)(hx:O8 CX X E)
  (ha:PA X (e :: es) t) (hdb:(x == ("__debug__" : Str))=false:=by decide) (he:starEach (e :: es) X.env=(false,eval e X.env) :: starEach es X.env:=by rfl) (hpl:(backTo pos (starEach es X.env)).any (·.1)=false:=by rfl) :
  PE X (.Call (.Name x p) (e :: es) [] pos) (ES sp dvs E t):=by
 intro pins s σ H Q I h
 refine wpAny_Call_Name_kw (P4 I hg hm ?_ hdb)
 refine PySem.W.callWith_K (h₀:=X.base) I.ok.mod.kin hk (thn (ha pos pins s σ H _ I h) fun us s1 ⟨vs,H1,I1,r,q⟩=>⟨I1.kIn,?_⟩) he hpl
 exact sI F hr hb hd hx I1 r q
theorem tu{pl:Sem Bool}(he:PE X o ta)(c:Cls X.K C)(hm:vE X.K C m f)(F:E8 X.prog X.w X.K X.mg X.base CX k f fd ps sp)(hr:z4 k X.A)(hb:G3 X.K fd ps ds)(hd:i9 dvs ds)(hx:O8 CX X E)
  (ht:eval (.Call (.Attribute o m apos) [] [] pos) X.env=(do
   let ov ← eval o X.env
   standAt apos.atName
   let (f,first) ← holding [ov] (getMethod ov m pl)
   callWith pos f first (backTo pos (starEach [] X.env)) (backToKw pos (keywordEach [] X.env))):=by rfl) :
  PE X (.Call (.Attribute o m apos) [] [] pos) (Ac C m sp dvs E ta Bt):=by
 intro pins s σ H Q I h
 refine PySem.W.methodCall_KW (pl:=pl) (thn (he pins s σ H _ I h) fun u s1 ⟨x,H1,I1,rx,a,dx,fs,ex,ea,l,q⟩=>?_) ht
 subst ex
 obtain rfl:u=Value.ref a:=rx
 refine cD I1 ea c hm l ?_
 exact PySem.W.callWith_K0 (first:=[.ref a]) I1.kIn hm.kp (sI (us:=[.ref a]) (vs:=[.ref a]) F hr hb hd hx I1 (.cons rfl .nil) q)
structure Mk(K:IT)(C f:Addr):Prop where
 makes:PySem.W.makesIn K C=true
 init:PySem.W.findIn K (.ref C) "__init__" = some (some (.ref f))
 fn:PySem.W.isFn K (.ref f)=true
 kp:PySem.W.keepIn K (.ref C)=true
theorem sH{pins:List (Addr × Obj)}{σ:St}{H:Hp}{s:Shared}{Q:VK}{us:List Value}{vs:List V}(M:Mk X.K C f)(F:E8 X.prog X.w X.K X.mg X.base CX k f fd ps sp)(hr:z4 (k+1) X.A)(hb:G3 X.K fd ps ds)(hd:i9 dvs ds)
  (hx:O8 CX X E) (I:Inv X pins σ H s) (r:i9 vs us)
  (h:∀ x dx,H x=none→H dx=none→dx≠x→sp (.ref x :: (vs++dvs)) (upd (upd H dx (.own x)) x (.ins C dx [])) (fun v H2=>v = .non∧Q (.ref x) H2) E) :
  wpAny (model X.prog X.w) X.A (call (.ref C) us) (EP X pins σ Q) X.xe s:=by
 have hq:=h (s.heap.objs.size+1) s.heap.objs.size (I.hok.fresh (Nat.le_succ _)) (I.hok.fresh (Ja _)) (Jr (Kz _))
 have I2:=Inv.made (C:=C) I
 have r2:i9 (V.ref (s.heap.objs.size+1) :: (vs++dvs)) (Value.ref (s.heap.objs.size+1) :: (us++ds)):=.cons rfl (r.append hd)
 have hl:(Value.ref (s.heap.objs.size+1) :: us++ds).length=ps.length:=by
  have e:=r2.length
  rw[F.len _ _ _ _ hq]at e
  exact e.symm
 refine wpAny_call (tV (f:=f) I.kIn M.makes M.init (beq_iff_eq.mp M.fn) (codeAny_mono (F.run _ X.stack _ _ ⟨Value.ref (s.heap.objs.size+1) :: us,[]⟩ (Value.ref (s.heap.objs.size+1) :: (us++ds)) _ _ E (hr.make C us [])
  (I2.env0.make C us []) (hb _ (Value.ref (s.heap.objs.size+1) :: us) I2.kIn hl) r2 hq) fun r s' hq'=>?_))
 cases r with
 | error e=>exact hx pins σ _ _ e s' I2 hq'
 | ok fl =>
  cases fl with
  | ret u =>
   obtain⟨v,H',I3,rv,ev,q3⟩:=I2.after hq'
   subst ev
   exact⟨rv,⟨V.ref (s.heap.objs.size+1),H',I3,rfl,q3⟩⟩
  | next=>exact False.elim hq'
  | brk=>exact False.elim hq'
  | cont=>exact False.elim hq'
theorem tw(M:Mk X.K C f)(F:E8 X.prog X.w X.K X.mg X.base CX k f fd ps sp)(hr:z4 (k+1) X.A)(hg:Gl X x)(hm:X.mg x=some (.ref C))(hb:G3 X.K fd ps ds)(hd:i9 dvs ds)(hx:O8 CX X E)
  (hdb:(x == ("__debug__" : Str))=false:=by decide):PE X (.Call (.Name x p) [] [] pos) (EM C sp dvs E Bt):=by
 intro pins s σ H Q I h
 refine wpAny_Call_Name_kw (P4 I hg hm ?_ hdb)
 exact PySem.W.callWith_K0 I.kIn M.kp (sH (us:=[]) M F hr hb hd hx I .nil h)
end
section
variable {X:Cx} {CX:CXT} {k:Nat} {f C:Addr} {fd:FuncData} {ps ks:List Str} {sp:Sp} {E:XK} {x m:Str} {p pos apos kpos:Pos} {e o:Expr} {es:List Expr} {kws:List Keyword} {te ta:TE} {t tk:TA} {nm:Option Str}
variable {g:List Value→List Value→List Value} {gV:List V→List V→List V}
end
structure i4(N P:List Str)(sc:Scope):Prop where
 kind:sc.kind = .function
 co:sc.isCoroutine=false
 gen:sc.isGenerator=false
 nd:N.Nodup
 pre:N.take P.length=P
 par:∀ x∈P,sc.names.lookup x=some .local∨sc.names.lookup x=some .cell
 nofree:∀ y∈sc.names,y.2 ≠ .free
theorem eo{kindOf:Str→Option NameKind}{x:Str}:∀{binds:List (Str × Value)} {m:Str→Option Value},(∀ v,(x,v)∉binds)→bindL kindOf binds m x=m x
 | [],_,_=>rfl
 | (n,v) :: r,m,h=>by
  unfold bindL
  rw[eo fun w hw=>h w (Jc _ hw)]
  split
  ·have:x≠n:=by rintro rfl;exact h v IZ
   simp[this]
  ·rfl
theorem eu{kindOf:Str→Option NameKind}{x:Str}:∀{binds:List (Str × Value)} {m:Str→Option Value},(∀ v,(x,v)∉binds)→bindC kindOf binds m x=m x
 | [],_,_=>rfl
 | (n,v) :: r,m,h=>by
  unfold bindC
  rw[eu fun w hw=>h w (Jc _ hw)]
  split
  ·rfl
  ·have:x≠n:=by rintro rfl;exact h v IZ
   simp[this]
theorem et{kindOf:Str→Option NameKind}{x:Str}{v:Value}:∀{P:List Str} {vs:List Value} {i:Nat} {m:Str→Option Value},P.Nodup→P[i]? = some x→vs[i]? = some v→kindOf x=some .local →
  bindL kindOf (P.zip vs) m x=some v
 | [],_,_,_,_,h,_,_=>by simp at h
 | _ :: _,[],_,_,_,_,h,_=>by simp at h
 | p :: P,w :: vs,0,m,nd,h1,h2,hk=>by
  simp at h1 h2;subst h1;subst h2
  show bindL kindOf ((p,w) :: P.zip vs) m p=_
  unfold bindL
  rw[eo fun v hv=>(KH.mp nd).1 (Lp hv).1,if_pos hk]
  simp
 | p :: P,w :: vs,i+1,m,nd,h1,h2,hk=>by
  show bindL kindOf ((p,w) :: P.zip vs) m x=_
  unfold bindL
  exact et (i:=i) (KH.mp nd).2 (by simpa using h1) (by simpa using h2) hk
theorem ez{kindOf:Str→Option NameKind}{x:Str}{v:Value}:∀{P:List Str} {vs:List Value} {i:Nat} {m:Str→Option Value},P.Nodup→P[i]? = some x→vs[i]? = some v→kindOf x≠some .local →
  bindC kindOf (P.zip vs) m x=some v
 | [],_,_,_,_,h,_,_=>by simp at h
 | _ :: _,[],_,_,_,_,h,_=>by simp at h
 | p :: P,w :: vs,0,m,nd,h1,h2,hk=>by
  simp at h1 h2;subst h1;subst h2
  show bindC kindOf ((p,w) :: P.zip vs) m p=_
  unfold bindC
  rw[eu fun v hv=>(KH.mp nd).1 (Lp hv).1,if_neg hk]
  simp
 | p :: P,w :: vs,i+1,m,nd,h1,h2,hk=>by
  show bindC kindOf ((p,w) :: P.zip vs) m x=_
  unfold bindC
  exact ez (i:=i) (KH.mp nd).2 (by simpa using h1) (by simpa using h2) hk
noncomputable def start(N:List Str)(vs:List V):St:=vs.map some++Jo (N.length - vs.length) none
noncomputable def D1(CX:CXT)(P:Program)(w:World)(K:IT)(mg:Str→Option Value)(base:Heap)(N:List Str)(qual:Str)(scope:Scope)(f:Addr)(cd:Value)(A:Around)(outer:List Env)(s:Shared)(H:Hp)(E:XK):Cx where
 prog:=P
 w:=w
 K:=K
 mg:=mg
 base:=base
 A:=A.deeper (envOfC qual scope s.heap.objs.size f cd)
 N:=N
 s₀:=s
 H₀:=H
 env:=envOfC qual scope s.heap.objs.size f cd
 outer:=outer
 stack:=envOfC qual scope s.heap.objs.size f cd :: outer
 ex:=[]
 calm:=true
 fn:=fun _=>true
 pn:=[]
 xe:=fun e s'=>wpAny (model P w) (A.deeper (envOfC qual scope s.heap.objs.size f cd)) (leaving (envOfC qual scope s.heap.objs.size f cd) e) (fun _ s''=>CX outer H s E e s'') (fun e' s''=>CX outer H s E e' s'') s'
theorem ji{sc:Scope}{n:Nat}{x:Str}(h:sc.names.lookup x=some .cell):∃ c,(cellsFrom n sc.names []).lookup x=some c:=by
 have q:=PySem.W.cellsFrom_some sc.names n [] (.inl h)
 exact Kr.mp q
theorem pw{CX:CXT}{P:Program}{w:World}{K:IT}{mg:Str→Option Value}{base:Heap}{N ps:List Str}{qual:Str}{scope:Scope}{f:Addr}{cd:Value}{A:Around}{outer:List Env}{s s1:Shared}{H:Hp}{E:XK}{us:List Value}{vs:List V}
  (S:i4 N ps scope) (hd:A.handled=none) (e0:dn P w K mg base A outer s H) (hl:vs.length=ps.length) (r:i9 vs us)
  (x:InCallC s s.heap.objs.size (bindL (envOfC qual scope s.heap.objs.size f cd).kindOf (ps.zip us) fun _=>none) (cellsFrom (s.heap.objs.size+1) scope.names []) (bindC (envOfC qual scope s.heap.objs.size f cd).kindOf (ps.zip us) fun _=>none) s1) :
  Inv (D1 CX P w K mg base N qual scope f cd A outer s H E) [] (start N vs) H s1:=by
 have hpl:ps.length≤N.length:=by have:=congrArg Kj S.pre;rw[Jw]at this;omega
 obtain⟨h1,tk,rfl,hk⟩:=x.done
 have noA:∀ b:Addr,b∉(D1 CX P w K mg base N qual scope f cd A outer s H E).ex:=fun b z=>absurd (show b∈([]:List Addr)from z) (by simp)
 refine⟨⟨e0.mod,S.kind,rfl,rfl,Ja _,fun y z c h1 h2=>?_,fun y hy=>?_,fun y c _ h=>?_,fun _=>hd,Around.frames_deeper e0.frames,.inr ⟨rfl,rfl⟩,fun b z=>absurd z (noA b),e0.bs,e0.bsz,fun b _ _=>noA b,fun b z=>absurd z (noA b),e0.funs,e0.frf⟩,
  rfl,e0.bare,Un.kept hk,⟨_,x.toInCall.ns,fun i y v h1 h2 h3=>?_⟩,fun y c h=>⟨_,x.cell y c h⟩,e0.hok.fresh (Ja _),fun y c h=>?_,fun p hp=>absurd (show p∈([]:List (Addr × Obj))from hp) (by simp),e0.hok.kept hk,?_⟩
 ·exact name_of_addr x.apart (PySem.mem_of_lookup h1) (PySem.mem_of_lookup h2)
 ·have hy:scope.names.lookup y=some .cell∨scope.names.lookup y=some .free:=hy
  rcases hy with hy|hy
  ·exact ji hy
  ·exact absurd rfl (S.nofree _ (PySem.mem_of_lookup hy))
 ·exact LX (x.above y c (PySem.mem_of_lookup h))
 ·have hi:i<vs.length:=by
   unfold start at h2
   by_cases hi:i<vs.length
   ·exact hi
   ·rw[List.getElem?_append_right (by simpa using hi)]at h2
    rw[JM]at h2
    split at h2<;>cases h2
  have ha:vs[i]? = some v:=by
   unfold start at h2
   rw[List.getElem?_append_left (by simpa using hi),Ju]at h2
   cases e:vs[i]? with
   | none=>rw[e]at h2;cases h2
   | some a=>rw[e]at h2;cases h2;rfl
  obtain⟨u,hu,rv⟩:=r.get ha
  have hp:ps[i]? = some y:=by
   rw[← S.pre,List.getElem?_take_of_lt (by omega)];exact h1
  have ndP:ps.Nodup:=by rw[← S.pre];exact S.nd.sublist (List.take_sublist _ _)
  refine⟨u,rv,?_⟩
  rcases S.par y (JC hp)with k|k
  ·exact .inl ⟨k,et ndP hp hu k⟩
  ·obtain⟨c,e⟩:=ji (n:=s.heap.objs.size+1) k
   refine .inr ⟨.inl k,c,e,?_⟩
   have q:=x.cell y c e
   rw[ez ndP hp hu (by show scope.names.lookup y≠_;rw[k];decide)]at q
   exact q
 ·exact e0.hok.fresh (LX (x.above y c (PySem.mem_of_lookup h)))
 ·unfold start
  show _=N.length
  rw[Jp,IW,Kk]
  omega
theorem nG{CX:CXT}{P:Program}{w:World}{K:IT}{mg:Str→Option Value}{base:Heap}{k:Nat}{f:Addr}{name qual:Str}{params:Arguments}{body:List Stmt}{scope:Scope}{dV kV doc pm cdv ct oc:Value}{an od:Option Addr}
  {osl:Array (Option Value)} {N ps:List Str} {sp:Sp} (lk:K.lookup f=some ⟨oc,od,.func (PySem.W.fnOf name qual params body scope dV kV doc pm an cdv ct),osl⟩) (hcd:PySem.W.codeIn K cdv qual=true) (S:i4 N ps scope)
  (len:∀ vs H Q E,sp vs H Q E→vs.length=ps.length)
  (hbody:∀(A:Around) (outer:List Env) (s:Shared) (H:Hp) (vs:List V) (Q:VK) (E:XK),z4 k (A.deeper (envOfC qual scope s.heap.objs.size f cdv))→sp vs H Q E →
   ∃ t,PSs (D1 CX P w K mg base N qual scope f cdv A outer s H E) body t∧t { nx:=fun _ H'=>Q .non H',rt:=Q } (start N vs) H) :
  E8 P w K mg base CX (k+1) f (PySem.W.fnOf name qual params body scope dV kV doc pm an cdv ct) ps sp:=by
 refine⟨len,fun A outer s H args us vs Q E hr e0 hb r hsp=>?_⟩
 have hl:=len _ _ _ _ hsp
 have KX:K.In s.heap:=e0.mod.kin.keeps fun b o e=>(e0.bs b o e).1
 have lim:s.heap.NoLimit:=e0.mod.nolimit.keeps fun b o e=>(e0.bs b o e).1
 have hkind:∀ y∈ps.zip us,scope.names.lookup y.1=some .local∨(scope.names.lookup y.1=some .cell∧((cellsFrom (s.heap.objs.size+1) scope.names []).lookup y.1).isSome=true):=fun⟨n,v⟩ hy=>by
  rcases S.par n (Lp hy).1 with q|q
  ·exact .inl q
  ·exact .inr ⟨q,PySem.W.cellsFrom_some _ _ _ (.inl q)⟩
 refine codeAny_call_function hr.depth (KX _ _ lk) rfl S.co S.gen rfl (PySem.W.codeRec_of KX hcd) (hb _ _ _ _ ?_)
 refine wpAny_newFunctionEnv_cells S.kind hkind fun env he s1 x=>?_
 subst he
 refine⟨lim.keeps x.toInCall.keep,codeAny_func ?_⟩
 obtain⟨t,ht,hq⟩:=hbody A outer s H vs Q E (hr.deeper _) hsp
 have I:Inv (D1 CX P w K mg base N qual scope f cdv A outer s H E) [] (start N vs) H s1:=pw S hr.hd e0 hl r x
 refine wpAny_mono (ht [] s1 (start N vs) H _ I hq) (fun fl s' hs=>?_) fun e s' hs=>hs
 have fin:∀{σ':St} {H':Hp} {v:V} {u:Value},Inv (D1 CX P w K mg base N qual scope f cdv A outer s H E) [] σ' H' s'→o8 v u→Q v H'→CE outer P w H s Q u s' :=
  fun{σ' H' v u} J rv q=>⟨v,H',J.os,J.bare,J.base,J.hok,rv,q⟩
 cases fl with
 | ret u =>
  obtain⟨v,σ',H',J,rv,q⟩:=hs
  exact fin J rv q
 | next =>
  obtain⟨σ',H',J,q⟩:=hs
  exact fin (v:=V.non) (u:=Value.none) J rfl q
 | brk =>
  obtain⟨_,_,_,q⟩:=hs
  exact False.elim q
 | cont =>
  obtain⟨_,_,_,q⟩:=hs
  exact False.elim q
section
variable {X:Cx} {x:Str} {p pos:Pos} {e:Expr} {es:List Expr} {t:TA} {id T:String} {r:List V→Hp→VK→Prop}
def tCB(r:List V→Hp→VK→Prop)(t:TA):TE:=fun σ H Q=>t σ H fun vs H1=>r vs H1 Q
theorem U7(hc:u8 X (.builtin id) r)(hg:Gl X x)(hm:X.mg x=none)(hv:bootBuiltins x=some (.builtin id))(ha:PA X (e :: es) t)(hn:x ≠ "__name__" := by decide)(hdb:(x == ("__debug__" : Str))=false:=by decide)
  (he:starEach (e :: es) X.env=(false,eval e X.env) :: starEach es X.env:=by rfl) (hpl:(backTo pos (starEach es X.env)).any (·.1)=false:=by rfl):PE X (.Call (.Name x p) (e :: es) [] pos) (tCB r t):=by
 intro pins s σ H Q I h
 refine wpAny_Call_Name_kw (X8 I hg hm hv ?_ hn hdb)
 exact PyProof.Rows.callWith_builtin1 (thn (ha pos pins s σ H _ I h) fun us s1 ⟨vs,H1,I1,r1,q1⟩=>hc pins s1 σ H1 vs us Q I1 r1 q1) he hpl
theorem dW(hc:u8 X (.type T) r)(hg:Gl X x)(hm:X.mg x=none)(hv:bootBuiltins x=some (.type T))(ha:PA X (e :: es) t)(hn:x ≠ "__name__" := by decide)(hdb:(x == ("__debug__" : Str))=false:=by decide)
  (he:starEach (e :: es) X.env=(false,eval e X.env) :: starEach es X.env:=by rfl) (hpl:(backTo pos (starEach es X.env)).any (·.1)=false:=by rfl):PE X (.Call (.Name x p) (e :: es) [] pos) (tCB r t):=by
 intro pins s σ H Q I h
 refine wpAny_Call_Name_kw (X8 I hg hm hv ?_ hn hdb)
 exact PyProof.Rows.callWith_type1 (thn (ha pos pins s σ H _ I h) fun us s1 ⟨vs,H1,I1,r1,q1⟩=>hc pins s1 σ H1 vs us Q I1 r1 q1) he hpl
end
end L2
namespace HT
open PySem PyProof.Rows
section
open PySem.SeqAt
open PySem.AutoSeq1 (wpAny_loadPart')
open PySem.MeetsSeq PySem.MeetsSeq2 PySem.MeetsSeq3
end
section
variable {prog:Program} {w:World} {A:Around} {E:Value→Shared→Prop} {s:Shared}
noncomputable def sIx(n d:Nat):Option Int→Nat
 | none=>d
 | some v=>if v<0 then(v+(n:Int)).toNat else min v.toNat n
theorem sr(n d:Nat):sIx n d none=d:=rfl
theorem xm(n d k:Nat):sIx n d (some (k:Int))=min k n:=by
 show(if (k:Int)<0 then((k:Int)+(n:Int)).toNat else min (k:Int).toNat n)=min k n
 rw[if_neg (by omega),Ka]
theorem BH(n d:Nat)(hd:d≤n)(o:Option Int):sIx n d o≤n:=by
 cases o with
 | none=>exact hd
 | some v =>
  show(if v<0 then(v+(n:Int)).toNat else min v.toNat n)≤n
  by_cases hv:v<0
  ·rw[if_pos hv];omega
  ·rw[if_neg hv];exact Lf _ _
theorem nW(v:Int)(n d:Nat):(if v<0 then max (v+(n:Int)) 0 else min v (n:Int))=((sIx n d (some v):Nat):Int):=by
 show(if v<0 then max (v+(n:Int)) 0 else min v (n:Int))=(((if v<0 then(v+(n:Int)).toNat else min v.toNat n):Nat):Int)
 by_cases hv:v<0
 ·simp only[if_pos hv];omega
 ·simp only[if_neg hv];omega
theorem kC(lo hi:Option Int)(n:Nat):Builtin.Slice.sliceAdjust lo hi 1 (n:Int)=(((sIx n 0 lo:Nat):Int),((sIx n n hi:Nat):Int)):=by
 have h1:¬ ((1:Int)<0):=by omega
 unfold Builtin.Slice.sliceAdjust
 simp only[h1,if_false]
 refine Prod.ext ?_ ?_
 ·cases lo with
  | none=>rfl
  | some v=>exact nW v n 0
 ·cases hi with
  | none=>rfl
  | some v=>exact nW v n n
theorem jV(i j:Nat):Builtin.Slice.slicePlaces (i:Int) (j:Int) 1=j - i:=by
 unfold Builtin.Slice.slicePlaces
 have h1:(1:Int) > 0:=by omega
 simp only[h1,if_true,Int.ediv_one]
 split<;>omega
theorem bP{v:Value}{o:Option Int}{Q:Option Int→Shared→Prop}(p:IsPart v o)(h:Q o s):wpAny (model prog w) A (Builtin.Slice.slicePartIndex v) Q E s:=by
 cases p with
 | none=>exact slicePart_none h
 | int i t=>exact slicePart_int h
theorem W7{sl:Addr}{vl vu:Value}{lo hi:Option Int}{n:Nat}{Q:Int × Int × Nat→Shared→Prop}(hs:s.heap.IsSliceOf sl vl vu .none)(pl:IsPart vl lo)(pu:IsPart vu hi)
  (h:Q (((sIx n 0 lo:Nat):Int),1,sIx n n hi - sIx n 0 lo) s):wpAny (model prog w) A (Builtin.Slice.sliceApplied (.ref sl) (pure (n:Int))) Q E s:=by
 obtain⟨os,hos,hcs,hds⟩:=id hs
 unfold Builtin.Slice.sliceApplied Builtin.Slice.sliceFields
 refine IU (IU (wpAny_field hos hds (x:=vl) rfl (IU (wpAny_field hos hds (x:=vu) rfl (IU (wpAny_field hos hds (x:=.none) rfl (Jf ?_)))))))
 refine IU (slicePart_none ?_)
 show wpAny _ _ (if ((1:Int) == 0)=true then _ else _) _ _ s
 rw[if_neg (by decide)]
 refine IU (bP pl (IU (bP pu (IU (Jf ?_)))))
 show wpAny _ _ (match Builtin.Slice.sliceAdjust lo hi 1 (n:Int)with|(lo,hi)=>pure (lo,(1:Int),Builtin.Slice.slicePlaces lo hi 1)) _ _ s
 rw[kC lo hi n]
 show wpAny _ _ (pure (((sIx n 0 lo:Nat):Int),(1:Int),Builtin.Slice.slicePlaces ((sIx n 0 lo:Nat):Int) ((sIx n n hi:Nat):Int) 1)) _ _ s
 rw[jV]
 exact Jf h
theorem tm(xs:Array Value)(i k:Nat):((JZ k).filterMap fun(m:Nat)=>xs[((i:Int)+(m:Int)*1).toNat]?).toArray=((xs.toList.drop i).take k).toArray:=by
 have e:(fun(m:Nat)=>xs[((i:Int)+(m:Int)*1).toNat]?)=fun m=>xs[i+m]?:=by
  funext m
  have:((i:Int)+(m:Int)*1).toNat=i+m:=by omega
  rw[this]
 rw[e]
 have:=pick_run xs i k
 rw[List.filterMap_map]at this
 have e2:((fun x=>xs[x]?) ∘ fun x=>i+x)=fun m=>xs[i+m]?:=rfl
 rw[e2]at this
 rw[this]
theorem V1{t sl:Addr}{items:Array Value}{vl vu:Value}{lo hi:Option Int}{Q:Value→Shared→Prop}(ht:IsTup s.heap t items)(hs:s.heap.IsSliceOf sl vl vu .none)(pl:IsPart vl lo)(pu:IsPart vu hi)
  (hw:¬ (sIx items.size 0 lo=0∧sIx items.size items.size hi=items.size))
  (h:Q (.ref s.heap.objs.size) { s with heap:=s.heap.push { cls:=.type "tuple",data:=.seq ((items.toList.drop (sIx items.size 0 lo)).take (sIx items.size items.size hi - sIx items.size 0 lo)).toArray } })
  (hsz:items.size≤sizeLine):wpAny (model prog w) A (getItem (.ref t) (.ref sl)) Q E s:=by
 have htake:sizeOk (.seq ((items.toList.drop (sIx items.size 0 lo)).take (sIx items.size items.size hi - sIx items.size 0 lo)).toArray):=by
  show((items.toList.drop (sIx items.size 0 lo)).take (sIx items.size items.size hi - sIx items.size 0 lo)).toArray.size≤sizeLine
  rw[Jg,Jw,JB,Array.length_toList]
  omega
 have hj:sIx items.size items.size hi≤items.size:=BH _ _ (Ja _) hi
 obtain⟨os,hos,hcs,hds⟩:=id hs
 have hTs:s.TypeIs (.ref sl) "slice" := ⟨os,hos,hcs⟩
 unfold getItem
 try with_reducible refine wpAny_holding ?_
 first|refine IU (Jf ?_)|skip
 refine IU (wpAny_sequenceKey ht.typeIs (by decide) ?_)
 refine IU (wpAny_callSpecial?_slot (name:=Str.ofString "__getitem__") ht.typeIs PyProof.Rows.slot_tuple_getitem
  (wpAny_call_entry PyProof.Rows.slot_tuple_getitem ht.typeIs entry_tuple_getitem ?_ (args_tuple_getitem _ _)))
 show wpAny _ _ (Builtin.Tuple.tupleItemsOf (.ref t) >>= _) _ _ s
 refine IU (tupleItemsOf_ ht ?_)
 refine IU (wpAny_typeOf hTs ?_)
 rw[if_pos (by decide)]
 refine IU (W7 hs pl pu ?_)
 have hno:¬ ((((sIx items.size 0 lo:Nat):Int) == 0 && (1:Int) == 1 && (sIx items.size items.size hi - sIx items.size 0 lo) == items.size)=true):=by
  intro q
  rw[JH,JH]at q
  have q1:((sIx items.size 0 lo:Nat):Int)=0:=eq_of_beq q.1.1
  have q2:sIx items.size items.size hi - sIx items.size 0 lo=items.size:=eq_of_beq q.2
  exact hw ⟨by omega,by omega⟩
 show wpAny _ _ (if (((sIx items.size 0 lo:Nat):Int) == 0 && (1:Int) == 1 && (sIx items.size items.size hi - sIx items.size 0 lo) == items.size)=true then _ else _) _ _ s
 rw[if_neg hno,tm]
 first
  | exact IU (m:=Builtin.Tuple.tupleExact _) (wpAny_newObj_type (Jf ⟨_,rfl,Jf h⟩) htake)
  | exact IU (m:=Builtin.Tuple.tupleExact _) (wpAny_newObj_type (IU (Jf (Jf ⟨_,rfl,Jf h⟩))) htake)
  | exact IU (IU (m:=Builtin.Tuple.tupleExact _) (wpAny_newObj_type (Jf (Jf ⟨_,rfl,Jf h⟩)) htake))
  | exact IU (IU (m:=Builtin.Tuple.tupleExact _) (wpAny_newObj_type (Jf ⟨_,rfl,Jf h⟩) htake))
end
end HT
namespace L2
open PySem PySem.Spec PyProof.Rows
noncomputable abbrev TO:=St→Hp→(Option Int→Hp→Prop)→Prop
def PO(X:Cx)(e:Option Expr)(t:TO):Prop :=
 ∀(pins:List (Addr × Obj)) (s:Shared) (σ:St) (H:Hp) (Q:Option Int→Hp→Prop),Inv X pins σ H s→t σ H Q →
  wpAny (model X.prog X.w) X.A (evalPart e X.env) (fun u s'=>∃ o H',Inv X pins σ H' s'∧IsPart u o∧Q o H') X.xe s
def xh:TO:=fun _ H Q=>Q none H
def EJ(t:TE):TO:=fun σ H Q=>t σ H fun x H1=>∃ i,x = .int i∧Q (some i) H1
section
variable {X:Cx} {e:Expr} {te:TE} {lo hi:Option Expr} {tl th:TO} {pos p2:Pos}
theorem xA:PO X none xh:=by
 intro pins s σ H Q I h
 rw[evalPart_none]
 exact Jf ⟨none,H,I,.none,h⟩
theorem xy(h:PE X e te):PO X (some e) (EJ te):=by
 intro pins s σ H Q I hw
 rw[evalPart_some]
 refine thn (h pins s σ H _ I hw) fun u s1 zz=>?_
 obtain⟨x,H1,I1,r1,q1⟩:=zz
 obtain⟨i,rfl,q⟩:=q1
 obtain⟨t,rfl⟩:=r1
 exact⟨some i,H1,I1,.int i t,q⟩
def SlR(X:Cx)(r:V→Option Int→Option Int→Hp→VK→Prop):Prop :=
 ∀(pins:List (Addr × Obj)) (s:Shared) (σ:St) (H:Hp) (x:V) (v vl vu:Value) (lo hi:Option Int) (sl:Addr) (Q:VK),Inv X pins σ H s→o8 x v→s.heap.IsSliceOf sl vl vu .none→IsPart vl lo→IsPart vu hi→r x lo hi H Q →
  ∃ T id,typeLookup (.type T) "__getitem__" = pure (some (.builtin id))∧s.TypeIs v T∧wpAny (model X.prog X.w) X.A (getItem v (.ref sl)) (EP X pins σ Q) X.xe s
theorem SlR.or{r r':V→Option Int→Option Int→Hp→VK→Prop}(h:SlR X r)(h':SlR X r'):SlR X (fun x lo hi H Q=>r x lo hi H Q∨r' x lo hi H Q):=by
 intro pins s σ H x v vl vu lo hi sl Q I rx hs pl pu q
 rcases q with q|q
 ·exact h pins s σ H x v vl vu lo hi sl Q I rx hs pl pu q
 ·exact h' pins s σ H x v vl vu lo hi sl Q I rx hs pl pu q
def tSl(r:V→Option Int→Option Int→Hp→VK→Prop)(te:TE)(tl th:TO):TE:=fun σ H Q=>te σ H fun x H1=>tl σ H1 fun l H2=>th σ H2 fun u H3=>r x l u H3 Q
theorem ik{r:V→Option Int→Option Int→Hp→VK→Prop}(hr:SlR X r)(he:PE X e te)(hl:PO X lo tl)(hu:PO X hi th):PE X (.Subscript e (.Slice lo hi none p2) pos) (tSl r te tl th):=by
 intro pins s σ H Q I h
 refine Subscript_ (thn (he pins s σ H _ I h) fun v s1 zz=>?_)
 obtain⟨x,H1,I1,r1,q1⟩:=zz
 refine wpAny_Slice (thn (hl pins s1 σ H1 _ I1 q1) fun vl s2 ⟨l,H2,I2,pl,q2⟩=>thn (hu pins s2 σ H2 _ I2 q2) fun vu s3 zz=>?_)
 obtain⟨u,H3,I3,pu,q3⟩:=zz
 rw[evalPart_none]
 refine Jf ?_
 have I4:Inv X pins σ H3 { s3 with heap:=s3.heap.push { cls:=.type "slice",data:=.fields #[vl,vu,.none] } }:=I3.kept (t':=s3.toks) fun b ob q=>IV _ q
 obtain⟨T,id,hT,ht,hg⟩:=hr pins { s3 with heap:=s3.heap.push { cls:=.type "slice",data:=.fields #[vl,vu,.none] } } σ H3 x v vl vu l u s3.heap.objs.size Q I4 r1 (Heap.IsSliceOf.new ..) pl pu q3
 show wpAny (model X.prog X.w) X.A (subscriptTail e (.Slice lo hi none p2) v (.ref s3.heap.objs.size)) (EP X pins σ Q) X.xe { s3 with heap:=s3.heap.push { cls:=.type "slice",data:=.fields #[vl,vu,.none] } }
 exact tail_any (ops:=[.ref s3.heap.objs.size,v]) ht hT hg (by with_unfolding_all rfl)
noncomputable def jb(xs:List V)(lo hi:Option Int):List V:=(xs.drop (HT.sIx xs.length 0 lo)).take (HT.sIx xs.length xs.length hi - HT.sIx xs.length 0 lo)
theorem ak(xs:List V)(lo hi:Option Int):(jb xs lo hi).length≤xs.length:=by
 unfold jb
 rw[Jw,JB]
 omega
noncomputable def GI(K:IT):V→Option Int→Option Int→Hp→VK→Prop:=fun x lo hi H Q=>∃ a xs,x = .ref a∧SqT K H a xs ∧
 ¬ (HT.sIx xs.length 0 lo=0∧HT.sIx xs.length xs.length hi=xs.length)∧∀ p,H p=none→Q (.ref p) (upd H p (.tup (jb xs lo hi)))
theorem By:SlR X (GI X.K):=by
 intro pins s σ H x v vl vu lo hi sl Q I rx hs pl pu h
 obtain⟨a,xs,rfl,hx,hw,q⟩:=h
 cases rx
 obtain⟨its,r,ht,hz⟩:=I.tuple hx
 have hlen:its.toArray.size=xs.length:=by rw[Jg];exact r.length.symm
 refine⟨"tuple",_,PyProof.Rows.slot_tuple_getitem.lookup,ht.typeIs,?_⟩
 refine HT.V1 ht hs pl pu (by rw[hlen];exact hw) ?_ (by rw[hlen];exact hz)
 rw[hlen]
 refine⟨.ref s.heap.objs.size,_,I.laid (t':=s.toks) (o:=.tup (jb xs lo hi)) (fun b ob q=>IV _ q) (Ja _) ?_,rfl,q _ (I.hok.fresh (Ja _))⟩
 exact⟨Jk (ak xs lo hi) hz,_,(r.drop (HT.sIx xs.length 0 lo)).take (HT.sIx xs.length xs.length hi - HT.sIx xs.length 0 lo),IsTup.new _ _⟩
end
noncomputable def ixN(n:Nat)(i:Int):Option Nat:=if 0≤i then(if i<n then some i.toNat else none)else if -(n:Int)≤i then some (i+n).toNat else none
noncomputable def atI{α:Type}(xs:List α)(i:Int):Option α:=(ixN xs.length i).bind fun j=>xs[j]?
theorem nB{n:Nat}{i:Int}{j:Nat}(h:ixN n i=some j):seqIndex? i n=some j∧j<n∧-(n:Int)≤i∧i<n:=by
 unfold ixN at h
 by_cases h0:0≤i
 ·rw[if_pos h0]at h
  by_cases h1:i<n
  ·rw[if_pos h1]at h
   have e:i.toNat=j:=Option.some.inj h
   exact⟨by rw[seqIndex_of h0 h1,e],by omega,by omega,h1⟩
  ·rw[if_neg h1]at h;cases h
 ·rw[if_neg h0]at h
  by_cases h1:-(n:Int)≤i
  ·rw[if_pos h1]at h
   have e:(i+n).toNat=j:=Option.some.inj h
   exact⟨by rw[seqIndex_neg (by omega) h1,e],by omega,h1,by omega⟩
  ·rw[if_neg h1]at h;cases h
theorem om{α:Type}{xs:List α}{i:Int}{v:α}(h:atI xs i=some v):∃ j,seqIndex? i xs.length=some j∧xs[j]? = some v∧j<xs.length∧-(xs.length:Int)≤i∧i<xs.length:=by
 unfold atI at h
 cases e:ixN xs.length i with
 | none=>rw[e]at h;cases h
 | some j =>
  rw[e]at h
  obtain⟨h1,h2,h3,h4⟩:=nB e
  exact⟨j,h1,h,h2,h3,h4⟩
theorem D5{α:Type}{xs:List α}{j:Nat}{v:α}(h:xs[j]? = some v):atI xs (j:Int)=some v:=by
 have hj:j<xs.length:=(Jm.mp h).1
 have e:ixN xs.length (j:Int)=some j:=by
  unfold ixN
  rw[if_pos (by omega),if_pos (by omega)];simp
 unfold atI;rw[e];exact h
theorem jl{α:Type}(xs:List α)(v:α):atI (xs++[v]) (-1)=some v:=by
 have hl:(xs++[v]).length=xs.length+1:=by simp
 have e:ixN (xs++[v]).length (-1)=some xs.length:=by
  unfold ixN
  rw[hl,if_neg (by decide),if_pos (by omega)]
  congr 1
  omega
 unfold atI
 rw[e]
 show(xs++[v])[xs.length]? = some v
 simp
def bc(b:Expr):Prop:=∀ o i,subscripted b false o i=operate [o,i] (getItem o i)
def IxR(X:Cx)(r:R2):Prop :=
 ∀(value slice:Expr) (pins:List (Addr × Obj)) (s:Shared) (σ:St) (H:Hp) (x y:V) (v u:Value) (Q:VK),Inv X pins σ H s→o8 x v→o8 y u→r x y H Q →
  subscripted slice false v u=operate [v,u] (getItem v u)→wpAny (model X.prog X.w) X.A (subscriptTail value slice v u) (EP X pins σ Q) X.xe s
def MtR(X:Cx)(id:String)(r:V→List V→Hp→VK→Prop):Prop :=
 ∀(pins:List (Addr × Obj)) (s:Shared) (σ:St) (H:Hp) (x:V) (xs:List V) (v:Value) (us:List Value) (Q:VK),Inv X pins σ H s→o8 x v→i9 xs us→r x xs H Q →
  wpAny (model X.prog X.w) X.A (call (.builtin id) (v :: us)) (EP X pins σ Q) X.xe s
section
variable {X:Cx} {a b:Expr} {ta tb:TE} {pos:Pos}
theorem IxR.or{r r':R2}(h:IxR X r)(h':IxR X r'):IxR X (fun x y H Q=>r x y H Q∨r' x y H Q):=by
 intro value slice pins s σ H x y v u Q I rx ry q hs
 rcases q with q|q
 ·exact h value slice pins s σ H x y v u Q I rx ry q hs
 ·exact h' value slice pins s σ H x y v u Q I rx ry q hs
theorem MtR.or{id:String}{r r':V→List V→Hp→VK→Prop}(h:MtR X id r)(h':MtR X id r'):MtR X id (fun x xs H Q=>r x xs H Q∨r' x xs H Q):=by
 intro pins s σ H x xs v us Q I rx rs q
 rcases q with q|q
 ·exact h pins s σ H x xs v us Q I rx rs q
 ·exact h' pins s σ H x xs v us Q I rx rs q
theorem Aj{r:R2}(hr:IxR X r)(ha:PE X a ta)(hb:PE X b tb)(hs:bc b):PE X (.Subscript a b pos) (tOp r ta tb):=by
 intro pins s σ H Q I h
 exact Subscript_ (yM ha hb I h fun v u s2 x y H2 I2 rx ry q=>hr a b pins s2 σ H2 x y v u Q I2 rx ry q (hs _ _))
def GN(K:IT):R2:=fun x y H Q=>∃ p xs i v,x = .ref p∧y = .int i∧SqL K H p xs∧atI xs i=some v∧Q v H
def GL(K:IT):R2:=fun x y H Q=>∃ p xs i v,x = .ref p∧y = .int i∧SqT K H p xs∧atI xs i=some v∧Q v H
theorem yg:IxR X (GN X.K):=by
 intro value slice pins s σ H x y v u Q I rx ry h hs
 obtain⟨p,xs,i,z,rfl,rfl,hq,he,q⟩:=h
 cases rx
 obtain⟨t,rfl⟩:=ry
 obtain⟨its,r,pl,hz⟩:=I.list hq
 obtain⟨j,h1,h2,h3,h4,h5⟩:=om he
 obtain⟨w,ew,rw'⟩:=r.get h2
 have hl:=r.length
 have hn:=cy
 have fin:EP X pins σ Q w s:=⟨z,H,I,rw',q⟩
 by_cases h0:0≤i
 ·have hj:i.toNat=j:=by
   rw[seqIndex_of h0 h5]at h1
   exact Option.some.inj h1
  exact item_listR pl.isList h0 (by omega) (by rw[hj];simpa using ew) fin hs
 ·have hj:(i+(its.toArray.size:Int)).toNat=j:=by
   rw[seqIndex_neg (by omega) h4]at h1
   rw[Jg,← hl]
   exact Option.some.inj h1
  exact subscriptTail_builtinR (x:=w) pl.isList.typeIs slot_list_getitem.lookup
   (wpAny_getItem_list_neg (Q:=fun r s'=>r=w∧EP X pins σ Q r s') pl.isList (by omega) (by rw[Jg]<;>omega) (by omega) (by rw[hj];simpa using ew) ⟨rfl,fin⟩) hs
theorem CW:IxR X (GL X.K):=by
 intro value slice pins s σ H x y v u Q I rx ry h hs
 obtain⟨p,xs,i,z,rfl,rfl,hq,he,q⟩:=h
 cases rx
 obtain⟨t,rfl⟩:=ry
 obtain⟨its,r,pl,hz⟩:=I.tuple hq
 obtain⟨j,h1,h2,h3,h4,h5⟩:=om he
 obtain⟨w,ew,rw'⟩:=r.get h2
 have hl:=r.length
 have hn:=cy
 have fin:EP X pins σ Q w s:=⟨z,H,I,rw',q⟩
 exact subscriptTail_builtinR (x:=w) pl.typeIs slot_tuple_getitem.lookup
  (getItem_tuple (j:=j) (Q:=fun r s'=>r=w∧EP X pins σ Q r s') pl (by omega) (by omega) (by rw[Jg,← hl];exact h1) (by simpa using ew) ⟨rfl,fin⟩) hs
theorem kc(its:List Value)(n j:Nat)(u:Value):Obj.mapSeq (·.setIfInBounds j u) { cls:=.type "list",data:=.seq its.toArray n } = { cls:=.type "list",data:=.seq (its.set j u).toArray n }:=by
 simp[Obj.mapSeq]
theorem Inv.lst{pins:List (Addr × Obj)}{σ:St}{H:Hp}{s:Shared}{p:Addr}{xs:List V}(I:Inv X pins σ H s)(h:H p=some (.lst xs)) :
  ∃(its:List Value) (n:Nat),i9 xs its∧s.heap.get? p=some { cls:=.type "list",data:=.seq its.toArray n }∧xs.length≤sizeLine:=by
 obtain⟨z,its,n,r,e⟩:=I.hok p _ h
 exact⟨its,n,r,e,z⟩
theorem Inv.lstUpd{pins:List (Addr × Obj)}{σ:St}{H:Hp}{s:Shared}{p:Addr}{xs ys:List V}{its its':List Value}{n n':Nat}{f:Obj→Obj}(I:Inv X pins σ H s)(h:H p=some (.lst xs))
  (ho:s.heap.get? p=some { cls:=.type "list",data:=.seq its.toArray n }) (hf:f { cls:=.type "list",data:=.seq its.toArray n } = { cls:=.type "list",data:=.seq its'.toArray n' }) (r:i9 ys its') (hz:ys.length≤sizeLine) (t:Nat) :
  Inv X pins σ (upd H p (.lst ys)) { s with heap:=s.heap.update p f,toks:=t }:=by
 have e:(s.heap.update p f).get? p=some { cls:=.type "list",data:=.seq its'.toArray n' }:=by
  rw[Lq f ho (by rw[hf]<;>rfl),hf]
 refine I.write (x:=p) (e:=p) (by rw[h];trivial) (.inl rfl) (fun b u hb q=>(Lj _ _ (Ne.symm hb)).trans q) ⟨_,e⟩ ?_
 exact⟨hz,its',n',r,e⟩
noncomputable def Fc:V→V→V→Hp→(Hp→Prop)→Prop:=fun o i v H Q=>∃ p xs k j,o = .ref p∧i = .int k∧H p=some (.lst xs)∧ixN xs.length k=some j∧Q (upd H p (.lst (xs.set j v)))
theorem rV:Gj X Fc:=by
 intro pins s σ H o i v ov iv u Q I ro ri rv h
 obtain⟨p,xs,k,j,rfl,rfl,hp,hj,q⟩:=h
 cases ro
 obtain⟨t,rfl⟩:=ri
 obtain⟨its,n,r,ho,hz⟩:=I.lst hp
 obtain⟨h1,h2,h3,h4⟩:=nB hj
 have hl:=r.length
 have hn:=cy
 have I':Inv X pins σ (upd H p (.lst (xs.set j v))) { s with heap:=s.heap.update p (Obj.mapSeq (·.setIfInBounds j u)) } :=
  I.lstUpd hp ho (kc its n j u) (r.set rv j) (by rw[List.length_set];exact hz) s.toks
 by_cases h0:0≤k
 ·have hk:k.toNat=j:=by
   rw[seqIndex_of h0 h4]at h1
   exact Option.some.inj h1
  exact PySem.W.ki_setAt ho h0 (by omega) (by rw[Jg,← hl];exact h4) (by rw[hk];exact⟨_,I',q⟩)
 ·have hk:(k+(its.toArray.size:Int)).toNat=j:=by
   rw[seqIndex_neg (by omega) h3]at h1
   rw[Jg,← hl]
   exact Option.some.inj h1
  exact PySem.W.ki_setBack ho (by omega) (by rw[Jg,← hl];exact h3) (by omega) (by rw[hk];exact⟨_,I',q⟩)
theorem eK(lo hi:Option Int)(n:Nat):(sliceBounds lo hi none n).1=((HT.sIx n 0 lo:Nat):Int)∧(sliceBounds lo hi none n).2.1=((HT.sIx n n hi:Nat):Int)∧(sliceBounds lo hi none n).2.2=1:=by
 refine⟨?_,?_,rfl⟩
 ·cases lo with
  | none=>simp[sliceBounds,HT.sIx]
  | some i =>
   simp only[sliceBounds,HT.sIx,Mc,show(1:Int) > 0 by decide,if_true]
   by_cases h:i<0
   ·simp only[h,if_true]<;>omega
   ·simp only[h,if_false]<;>omega
 ·cases hi with
  | none=>simp[sliceBounds,HT.sIx]
  | some i =>
   simp only[sliceBounds,HT.sIx,Mc,show(1:Int) > 0 by decide,if_true]
   by_cases h:i<0
   ·simp only[h,if_true]<;>omega
   ·simp only[h,if_false]<;>omega
theorem cO(its:List Value)(lo hi:Option Int):slicePick its.toArray lo hi none=((its.drop (HT.sIx its.length 0 lo)).take (HT.sIx its.length its.length hi - HT.sIx its.length 0 lo)).toArray:=by
 obtain⟨h1,h2,h3⟩:=eK lo hi its.toArray.size
 unfold slicePick
 rw[h1,h2,h3]
 simp only[sliceRange_one,pick_run,Jg]<;>rfl
noncomputable def GJ(K:IT):V→Option Int→Option Int→Hp→VK→Prop:=fun x lo hi H Q=>∃ a xs,x = .ref a∧SqL K H a xs∧∀ p,H p=none→Q (.ref p) (upd H p (.lst (jb xs lo hi)))
theorem xj:SlR X (GJ X.K):=by
 intro pins s σ H x v vl vu lo hi sl Q I rx hs pl pu h
 obtain⟨a,xs,rfl,hx,q⟩:=h
 cases rx
 obtain⟨its,r,ht,hz⟩:=I.list hx
 have hlen:=r.length
 refine⟨"list",_,slot_list_getitem.lookup,ht.isList.typeIs,?_⟩
 refine wpAny_getItem_list_slice ht.isList hs pl pu .none (by simp) ?_ (by rw[Jg]<;>omega)
 rw[cO,← hlen]
 refine⟨.ref s.heap.objs.size,_,I.laid (t':=s.toks) (o:=.lst (jb xs lo hi)) (fun b ob q=>IV _ q) (Ja _) ?_,rfl,q _ (I.hok.fresh (Ja _))⟩
 exact⟨Jk (ak xs lo hi) hz,_,0,(r.drop (HT.sIx xs.length 0 lo)).take (HT.sIx xs.length xs.length hi - HT.sIx xs.length 0 lo),Je _ rfl⟩
noncomputable def Q6:V→Bool
 | .non=>true
 | .bl _=>true
 | .int _=>true
 | .str _=>true
 | _=>false
noncomputable def eqV:V→V→Bool
 | .non,.non=>true
 | .bl a,.bl b=>a == b
 | .bl a,.int b=>(if a then 1 else 0) == b
 | .int a,.bl b=>a == (if b then 1 else 0)
 | .int a,.int b=>a == b
 | .str a,.str b=>a == b
 | _,_=>false
theorem Dm{A:Around}{s:Shared}{y x:V}{u v:Value}(ry:o8 y u)(rx:o8 x v)(fy:Q6 y=true)(fx:Q6 x=true):SeqAt.EqAt A s u v (eqV y x):=by
 cases y with
 | non =>
  cases ry
  cases x with
  | non=>cases rx;exact SeqAt.EqAt.same _
  | bl b=>cases rx;exact SeqAt.EqAt.none_bool b
  | int b=>obtain⟨t,rfl⟩:=rx;exact SeqAt.EqAt.none_int b t
  | str b=>obtain⟨t,rfl⟩:=rx;exact SeqAt.EqAt.none_str b t
  | _=>exact absurd (show false=true from fx) Jh
 | bl a =>
  cases ry
  cases x with
  | non=>cases rx;exact SeqAt.EqAt.bool_none a
  | bl b=>cases rx;exact SeqAt.EqAt.bool_bool a b
  | int b=>obtain⟨t,rfl⟩:=rx;exact SeqAt.EqAt.bool_int a b t
  | str b=>obtain⟨t,rfl⟩:=rx;exact SeqAt.EqAt.bool_str a b t
  | _=>exact absurd (show false=true from fx) Jh
 | int a =>
  obtain⟨t',rfl⟩:=ry
  cases x with
  | non=>cases rx;exact SeqAt.EqAt.int_none a t'
  | bl b=>cases rx;exact SeqAt.EqAt.int_bool a t' b
  | int b=>obtain⟨t,rfl⟩:=rx;exact SeqAt.EqAt.int_int a t' b t
  | str b=>obtain⟨t,rfl⟩:=rx;exact SeqAt.EqAt.int_str a t' b t
  | _=>exact absurd (show false=true from fx) Jh
 | str a =>
  obtain⟨t',rfl⟩:=ry
  cases x with
  | non=>cases rx;exact SeqAt.EqAt.str_none a t'
  | bl b=>cases rx;exact SeqAt.EqAt.str_bool a t' b
  | int b=>obtain⟨t,rfl⟩:=rx;exact SeqAt.EqAt.str_int a t' b t
  | str b=>obtain⟨t,rfl⟩:=rx;exact SeqAt.EqAt.str_str a t' b t
  | _=>exact absurd (show false=true from fx) Jh
 | _=>exact absurd (show false=true from fy) Jh
noncomputable def eqU(x:V)(u:Value):Bool:=match u with
 | .none=>eqV .non x
 | .bool b=>eqV (.bl b) x
 | .int i _=>eqV (.int i) x
 | .str z _=>eqV (.str z) x
 | _=>false
theorem uD{x y:V}{u:Value}(r:o8 y u)(f:Q6 y=true):eqU x u=eqV y x:=by
 cases y with
 | non=>cases r;rfl
 | bl b=>cases r;rfl
 | int i=>obtain⟨t,rfl⟩:=r;rfl
 | str z=>obtain⟨t,rfl⟩:=r;rfl
 | _=>exact absurd (show false=true from f) Jh
theorem V8{x:V}:∀{xs:List V} {us:List Value},i9 xs us→xs.all Q6=true→us.any (eqU x)=xs.any fun y=>eqV y x
 | _,_,.nil,_=>rfl
 | y :: xs,u :: us,.cons r t,f=>by
  rw[Ld,JH]at f
  rw[LM,LM,uD r f.1,V8 t f.2]
theorem O4{A:Around}{s:Shared}{x:V}{v:Value}(rx:o8 x v)(fx:Q6 x=true):∀{xs:List V} {us:List Value},i9 xs us→xs.all Q6=true→∀ u∈us,SeqAt.EqAt A s u v (eqU x u)
 | _,_,.nil,_=>fun u hu=>by cases hu
 | y :: xs,u :: us,.cons r t,f=>fun u' hu=>by
  rw[Ld,JH]at f
  rcases Jj.mp hu with rfl|hu
  ·rw[uD r f.1];exact Dm r rx f.1 fx
  ·exact O4 rx fx t f.2 u' hu
noncomputable def inV(x:V)(xs:List V):Bool:=xs.any fun y=>eqV y x
def rIn(K:IT)(neg:Bool):R2:=fun x y H Q=>∃ p xs,y = .ref p∧(SqL K H p xs∨SqT K H p xs)∧Q6 x=true∧xs.all Q6=true∧Q (.bl (if neg then !inV x xs else inV x xs)) H
theorem oX:OpR X (compareOp .In) (rIn X.K false):=by
 intro pins s σ H x y v u Q I rx ry h
 obtain⟨p,xs,rfl,hq,fx,fs,q⟩:=h
 cases ry
 rcases hq with hq|hq
 ·obtain⟨its,r,pl,hz⟩:=I.list hq
  refine SeqAt.in_listAt (eqU x) pl.isList (fun w hw=>O4 rx fx r fs w (by simpa using hw)) ⟨.bl _,H,I,rfl,?_⟩
  rw[show its.toArray.any (eqU x)=its.any (eqU x)by simp,V8 r fs]
  exact q
 ·obtain⟨its,r,pl,hz⟩:=I.tuple hq
  refine SeqAt.in_tupleAt (eqU x) pl (fun w hw=>O4 rx fx r fs w (by simpa using hw)) ⟨.bl _,H,I,rfl,?_⟩
  rw[show its.toArray.any (eqU x)=its.any (eqU x)by simp,V8 r fs]
  exact q
theorem fq:OpR X (compareOp .NotIn) (rIn X.K true):=by
 intro pins s σ H x y v u Q I rx ry h
 obtain⟨p,xs,rfl,hq,fx,fs,q⟩:=h
 cases ry
 rcases hq with hq|hq
 ·obtain⟨its,r,pl,hz⟩:=I.list hq
  refine SeqAt.notIn_listAt (eqU x) pl.isList (fun w hw=>O4 rx fx r fs w (by simpa using hw)) ⟨.bl _,H,I,rfl,?_⟩
  rw[show its.toArray.any (eqU x)=its.any (eqU x)by simp,V8 r fs]
  exact q
 ·obtain⟨its,r,pl,hz⟩:=I.tuple hq
  refine SeqAt.notIn_tupleAt (eqU x) pl (fun w hw=>O4 rx fx r fs w (by simpa using hw)) ⟨.bl _,H,I,rfl,?_⟩
  rw[show its.toArray.any (eqU x)=its.any (eqU x)by simp,V8 r fs]
  exact q
theorem gg:u8 X (.builtin "len") (fun xs H Q=>∃ p ys,xs=[.ref p]∧(SqL X.K H p ys∨SqT X.K H p ys)∧Q (.int ys.length) H):=by
 intro pins s σ H xs us Q I r h
 obtain⟨p,ys,rfl,hq,q⟩:=h
 obtain⟨u,rfl,rx⟩:=J4 r
 cases rx
 have hn:=cy
 rcases hq with hq|hq
 ·obtain⟨its,r',pl,hz⟩:=I.list hq
  have hlen:=r'.length
  exact Calls.call_len_list pl.isList (by simp only[Jg]<;>omega) ⟨.int ys.length,H,I.tok _,⟨s.toks+1,by rw[Jg,hlen]⟩,q⟩
 ·obtain⟨its,r',pl,hz⟩:=I.tuple hq
  have hlen:=r'.length
  exact len_tuple pl (by simp only[Jg]<;>omega) ⟨.int ys.length,H,I.tok _,⟨s.toks+1,by rw[Jg,hlen]⟩,q⟩
theorem gf:u8 X (.builtin "len") (fun xs H Q=>∃ z,xs=[.str z]∧z.length≤sizeLine∧Q (.int z.length) H):=by
 intro pins s σ H xs us Q I r h
 obtain⟨z,rfl,hz,q⟩:=h
 obtain⟨u,rfl,t,rfl⟩:=J4 r
 have hn:=cy
 exact len_str (by omega) ⟨.int z.length,H,I.tok _,⟨_,rfl⟩,q⟩
theorem u8.or{f:Value}{r r':List V→Hp→VK→Prop}(h:u8 X f r)(h':u8 X f r'):u8 X f (fun xs H Q=>r xs H Q∨r' xs H Q):=by
 intro pins s σ H xs us Q I rs q
 rcases q with q|q
 ·exact h pins s σ H xs us Q I rs q
 ·exact h' pins s σ H xs us Q I rs q
theorem fZ:u8 X (.type "list") (fun xs H Q=>∃ p ys,xs=[.ref p]∧(SqL X.K H p ys∨SqT X.K H p ys)∧∀ l,H l=none→Q (.ref l) (upd H l (.lst ys))):=by
 intro pins s σ H xs us Q I r h
 obtain⟨p,ys,rfl,hq,q⟩:=h
 obtain⟨u,rfl,rx⟩:=J4 r
 cases rx
 have fin:∀(its:List Value),i9 ys its→ys.length≤sizeLine→∀(h':Heap) (c':Nat),(∀ b o',s.heap.get? b=some o'→h'.get? b=some o') →
   h'.get? s.heap.objs.size=some { cls:=.type "list",dict:=none,data:=.seq its.toArray c',slots:=#[] }→EP X pins σ Q (.ref s.heap.objs.size) { s with heap:=h' }:=fun its r' hz h' c' kp e =>
  ⟨.ref s.heap.objs.size,_,I.laid (t':=s.toks) kp (Ja _) (show A1 X.prog X.w _ h' _ (.lst ys)from⟨hz,its,c',r',e⟩),rfl,q _ (I.hok.fresh (Ja _))⟩
 rcases hq with hq|hq
 ·obtain⟨its,r',pl,hz⟩:=I.list hq
  have hlen:=r'.length
  obtain⟨o,ho,hc,n,hd⟩:=pl.isList
  exact call_list_seq p (.inl rfl) ho hc hd (fun h' c' kp e=>fin its r' hz h' c' kp e) (by simp only[Jg]<;>omega)
 ·obtain⟨its,r',pl,hz⟩:=I.tuple hq
  have hlen:=r'.length
  obtain⟨o,ho,hc,n,hd⟩:=pl
  exact call_list_seq p (.inr rfl) ho hc hd (fun h' c' kp e=>fin its r' hz h' c' kp e) (by simp only[Jg]<;>omega)
def tyV(K:IT)(T:String)(x:V)(H:Hp):Prop:=match x with
 | .str _=>T = "str"
 | .int _=>T = "int"
 | .ref p=>(T = "list" ∧ ∃ xs,SqL K H p xs)∨(T = "tuple" ∧ ∃ o,K.lookup p=some o∧o.cls = .type "tuple" ∧ o.dict=none) ∨
   (T = "dict" ∧ ((∃ kvs,H p=some (.dK kvs)) ∨ ∃ kvs,H p=some (.dT kvs)))∨(T = "set" ∧ ∃ S n,H p=some (.set S n))
 | _=>False
theorem rC{pins:List (Addr × Obj)}{σ:St}{H:Hp}{s:Shared}{T:String}{x:V}{v:Value}(I:Inv X pins σ H s)(r:o8 x v)(ty:tyV X.K T x H) :
  s.TypeIs v T∧∀ a,v = .ref a→∃ ob,s.heap.get? a=some ob∧ob.dict=none:=by
 cases x with
 | str z =>
  obtain⟨t,rfl⟩:=r
  cases(show T = "str" from ty)
  exact⟨typeIs_str s z t,fun _ e=>nomatch e⟩
 | int i =>
  obtain⟨t,rfl⟩:=r
  cases(show T = "int" from ty)
  exact⟨typeIs_int s i t,fun _ e=>nomatch e⟩
 | ref p =>
  cases r
  rcases ty with⟨rfl,xs,hq⟩|⟨rfl,o,hk,hc,hd⟩|⟨rfl,hk⟩|⟨rfl,S,n,hk⟩
  ·obtain⟨its,_,pl,_⟩:=I.list hq
   refine⟨pl.isList.typeIs,fun a e=>?_⟩
   cases e
   obtain⟨o,n,e,c,hd,_⟩:=pl
   exact⟨o,e,hd⟩
  ·refine⟨⟨o,I.kIn p o hk,hc⟩,fun a e=>?_⟩
   cases e
   exact⟨o,I.kIn _ o hk,hd⟩
  ·have z:∃ o,s.heap.get? p=some o∧o.ExactDict:=by
    rcases hk with⟨kvs,hk⟩|⟨kvs,hk⟩
    ·obtain⟨_,_,_,_,o,_,_,e,ex,_⟩:=I.hok p _ hk
     exact⟨o,e,ex⟩
    ·obtain⟨_,_,_,_,o,_,_,e,ex,_⟩:=I.hok p _ hk
     exact⟨o,e,ex⟩
   obtain⟨o,e,ex⟩:=z
   refine⟨⟨o,e,ex.1⟩,fun a e2=>?_⟩
   cases e2
   exact⟨o,e,ex.2.1⟩
  ·obtain⟨o,_,_,_,e,ex,_⟩:=I.hok p _ hk
   refine⟨⟨o,e,ex.1⟩,fun a e2=>?_⟩
   cases e2
   exact⟨o,e,ex.2.1⟩
 | _=>exact False.elim ty
def GF(K:IT)(T:String)(r:V→List V→Hp→VK→Prop)(to:TE):TE:=fun σ H Q=>to σ H fun x H1=>tyV K T x H1∧r x [] H1 Q
def tBM(K:IT)(T:String)(r:V→List V→Hp→VK→Prop)(to:TE)(t:TA):TE:=fun σ H Q=>to σ H fun x H1=>tyV K T x H1∧t σ H1 fun xs H2=>r x xs H2 Q
variable {o e:Expr} {es:List Expr} {to:TE} {t:TA} {name:Str} {apos cpos:Pos} {T id:String} {r:V→List V→Hp→VK→Prop}
theorem Cp(pa:PlainAttrs T)(slot:Slot T name id)(hty:typeOf (.builtin id)=pure (.type "method_descriptor"))(hm:MtR X id r)(ho:PE X o to)
  (hbase:attributeBase o name X.env (eval o X.env)=eval o X.env:=by rfl) (hline:(apos.endLine == cpos.line)=true:=by rfl):PE X (.Call (.Attribute o name apos) [] [] cpos) (GF X.K T r to):=by
 intro pins s σ H Q I h
 refine wpAny_Call_method0_late hbase hline (thn (ho pins s σ H _ I h) fun v s1 zz=>?_)
 obtain⟨x,H1,I1,r1,ty,q1⟩:=zz
 obtain⟨h1,h2⟩:=rC I1 r1 ty
 exact⟨T,id,pa,slot,hty,h1,h2,Calls.callWith_builtin rfl (PySem.evalArgs_none (hm pins s1 σ H1 x [] v [] Q I1 r1 .nil q1))⟩
theorem ir(pa:PlainAttrs T)(slot:Slot T name id)(hty:typeOf (.builtin id)=pure (.type "method_descriptor"))(hm:MtR X id r)(ho:PE X o to)(ha:PA X (e :: es) t)
  (hbase:attributeBase o name X.env (eval o X.env)=eval o X.env:=by rfl)
  (hfew:((backTo cpos (starEach (e :: es) X.env)).all (fun x=>!x.1) && (backToKw cpos (keywordEach [] X.env)).all (fun x=>x.1.isSome)
   && decide ((e :: es).length+([]:List Keyword).length+(if ([]:List Keyword).isEmpty then 0 else 1)<30))=true:=by rfl)
  (hline:(apos.endLine == cpos.line)=true:=by rfl) (hs:starEach (e :: es) X.env=(false,eval e X.env) :: starEach es X.env:=by rfl) (hplain:(backTo cpos (starEach es X.env)).any (·.1)=false:=by rfl) :
  PE X (.Call (.Attribute o name apos) (e :: es) [] cpos) (tBM X.K T r to t):=by
 intro pins s σ H Q I h
 refine wpAny_Call_method_late hbase hfew hline rfl (thn (ho pins s σ H _ I h) fun v s1 zz=>?_)
 obtain⟨x,H1,I1,r1,ty,q1⟩:=zz
 obtain⟨h1,h2⟩:=rC I1 r1 ty
 refine⟨T,id,pa,slot,hty,h1,h2,?_⟩
 have hA:=ha cpos pins s1 σ H1 _ I1 q1
 rw[hs]at hA ⊢
 refine Calls.callWith_builtin (by show(false || (backTo cpos (starEach es X.env)).any (·.1))=false;rw[hplain]<;>rfl) (Calls.evalArgs_plain ?_)
 exact thn hA fun us s2 ⟨vs,H2,I2,r2,q2⟩=>hm pins s2 σ H2 x vs v us Q I2 r1 r2 q2
end
def MtM(X:Cx)(id:String)(r:V→List V→Hp→VK→Prop):Prop :=
 ∀(pins:List (Addr × Obj)) (s:Shared) (σ:St) (H:Hp) (x:V) (xs:List V) (v:Value) (us:List Value) (Q:VK),Inv X pins σ H s→o8 x v→i9 xs us→r x xs H Q →
  wpAny (model X.prog X.w) X.A (call (.builtin id) (v :: us)) (EP X pins σ Q) X.xe s
theorem i9.one{x:V}{us:List Value}(h:i9 [x] us):∃ u,us=[u]∧o8 x u:=by
 cases h with|cons r t=>cases t;exact⟨_,rfl,r⟩
theorem i9.two{x y:V}{us:List Value}(h:i9 [x,y] us):∃ u v,us=[u,v]∧o8 x u∧o8 y v:=by
 cases h with|cons r t=>cases t with|cons q t2=>cases t2;exact⟨_,_,rfl,r,q⟩
theorem i9.zero:∀{us:List Value},i9 [] us→us=[]
 | _,.nil=>rfl
theorem i9.dropLast{xs:List V}{us:List Value}(h:i9 xs us):i9 xs.dropLast us.dropLast:=by
 induction h with
 | nil=>exact .nil
 | cons r t ih =>
  cases t with
  | nil=>exact .nil
  | cons q t'=>exact .cons r ih
theorem i9.eraseIdx:∀{xs:List V} {us:List Value} (i:Nat),i9 xs us→i9 (xs.eraseIdx i) (us.eraseIdx i)
 | _,_,_,.nil=>.nil
 | _,_,0,.cons _ t=>t
 | _,_,i+1,.cons r t=>.cons r (i9.eraseIdx i t)
theorem i9.reverse{xs:List V}{us:List Value}(h:i9 xs us):i9 xs.reverse us.reverse:=by
 induction h with
 | nil=>exact .nil
 | cons r t ih=>rw[La,La];exact i9.append ih (.cons r .nil)
theorem i9.rep{xs:List V}{us:List Value}(h:i9 xs us):∀ k:Nat,i9 (Jo k xs).flatten (Jo k us).flatten
 | 0=>.nil
 | k+1=>by
  rw[JQ,JQ,Kb,Kb]
  exact i9.append h (i9.rep h k)
theorem ky{α:Type}(l:List α):l.eraseIdx (l.length - 1)=l.dropLast:=by
 induction l with
 | nil=>rfl
 | cons a r ih =>
  cases r with
  | nil=>rfl
  | cons b r =>
   have e:(a :: b :: r).length - 1=((b :: r).length - 1)+1:=by
    have h1:(a :: b :: r).length=r.length+2:=rfl
    have h2:(b :: r).length=r.length+1:=rfl
    omega
   rw[e,List.eraseIdx_cons_succ,ih]
   all_goals rfl
theorem el(its:List Value):∀(k:Nat) (acc:List Value),
  MD (fun x1 x2=>x1++x2) acc.toArray (Jo k its.toArray)=(acc++(Jo k its).flatten).toArray
 | 0,acc=>by simp
 | k+1,acc=>by
  have e:acc.toArray++its.toArray=(acc++its).toArray:=by simp
  have e2:(acc++its)++(Jo k its).flatten=acc++(Jo (k+1) its).flatten:=by
   rw[JQ,Kb,Km]
  rw[← e2,← el its k (acc++its),← e,JQ,List.foldl_cons]
section
variable {X:Cx} {pins:List (Addr × Obj)} {σ:St} {H:Hp} {s:Shared} {l b:Addr} {xs ys zs:List V}
theorem Inv.lset{its its':List Value}{n:Nat}{f:Array Value→Array Value}{t':Nat}(I:Inv X pins σ H s)(hH:H l=some (.lst xs))
  (e:s.heap.get? l=some { cls:=.type "list",data:=.seq its.toArray n }) (hf:f its.toArray=its'.toArray) (hv:i9 ys its') (hz:ys.length≤sizeLine) :
  Inv X pins σ (upd H l (.lst ys)) { s with heap:=s.heap.update l (Obj.mapSeq f),toks:=t' }:=by
 have q:=PySem.IsL.update e f
 rw[hf]at q
 refine I.write (x:=l) (e:=l) (by rw[hH];exact trivial) (.inl rfl) (fun b' u hb hu=>(Lj s.heap (Obj.mapSeq f) (Ne.symm hb)).trans hu) ⟨_,q⟩ ?_
 exact⟨hz,its',_,hv,q⟩
theorem Inv.lnew{its:List Value}{t':Nat}(I:Inv X pins σ H s)(hv:i9 ys its)(hz:ys.length≤sizeLine) :
  Inv X pins σ (upd H s.heap.objs.size (.lst ys)) { s with heap:=s.heap.push { cls:=.type "list",data:=.seq its.toArray },toks:=t' } :=
 I.laid (fun _ _ q=>IV _ q) (Ja _) ⟨hz,its,0,hv,Je _ rfl⟩
theorem Inv.fresh(I:Inv X pins σ H s):H s.heap.objs.size=none:=I.hok.fresh (Ja _)
theorem Inv.lstM(I:Inv X pins σ H s)(hH:H l=some (.lst xs)):xs.length≤sizeLine∧∃(its:List Value) (n:Nat),i9 xs its∧xs.length=its.length∧s.heap.get? l=some { cls:=.type "list",data:=.seq its.toArray n }:=by
 obtain⟨z,its,n,r,e⟩:=I.hok l _ hH
 exact⟨z,its,n,r,r.length,e⟩
theorem iM{n:Nat}(h:n≤sizeLine):Builtin.List.listTooLong n=false:=by
 unfold Builtin.List.listTooLong
 exact decide_eq_false (by omega)
end
section
variable {X:Cx}
noncomputable def mW:V→List V→Hp→VK→Prop:=fun x vs H Q=>∃ l xs y,x = .ref l∧vs=[y]∧H l=some (.lst xs)∧xs.length<sizeLine∧Q .non (upd H l (.lst (xs++[y])))
theorem ee:MtM X "list.append" mW:=by
 intro pins s σ H x vs v us Q I rx rv h
 obtain⟨l,xs,y,rfl,rfl,hH,hz,q⟩:=h
 cases rx
 obtain⟨u,rfl,ru⟩:=rv.one
 obtain⟨z,its,n,r,hl,e⟩:=I.lstM hH
 refine call_meets F.slot_list_append ⟨_,e,rfl⟩ F.entry_list_append (F.args_list_append_2 _ _) (PySem.list_append l its.toArray n u (by rw[Jg];omega)) ⟨e,?_⟩
 refine⟨.non,_,I.lset (its':=its++[u]) hH e (by simp) (r.append (.cons ru .nil)) ?_,rfl,q⟩
 rw[Jp,Lr]
 omega
noncomputable def mV:V→List V→Hp→VK→Prop:=fun x vs H Q=>∃ l b xs zs,x = .ref l∧vs=[.ref b]∧H l=some (.lst xs)∧H b=some (.lst zs)∧xs.length+zs.length≤sizeLine∧Q .non (upd H l (.lst (xs++zs)))
theorem pd:MtM X "list.extend" mV:=by
 intro pins s σ H x vs v us Q I rx rv h
 obtain⟨l,b,xs,zs,rfl,rfl,hH,hB,hz,q⟩:=h
 cases rx
 obtain⟨u,rfl,ru⟩:=rv.one
 cases ru
 obtain⟨z,its,n,r,hl,e⟩:=I.lstM hH
 obtain⟨z2,its2,n2,r2,hl2,e2⟩:=I.lstM hB
 have hsz:its.toArray.size+its2.toArray.size≤sizeLine:=by rw[Jg,Jg];omega
 have hlong:¬ (!its.toArray.isEmpty && Builtin.List.listTooLong (its.toArray.size+its2.toArray.size))=true:=by
  rw[iM hsz,Kg]
  exact Jh
 refine call_meets F.slot_list_extend ⟨_,e,rfl⟩ F.entry_list_extend (F.args_list_extend_2 _ _)
  (AutoSeq1.list_extend_list_list_0 l its.toArray n b its2.toArray n2 hlong (by rw[Jg];omega) (by omega)) ⟨e,e2,?_⟩
 refine⟨.non,_,I.lset (its':=its++its2) hH e (by simp) (r.append r2) ?_,rfl,q⟩
 rw[Jp]
 omega
noncomputable def Fd:V→List V→Hp→VK→Prop:=fun x vs H Q=>∃ l xs y,x = .ref l∧vs=[]∧H l=some (.lst xs)∧xs[xs.length - 1]? = some y∧Q y (upd H l (.lst xs.dropLast))
theorem CI:MtM X "list.pop" Fd:=by
 intro pins s σ H x vs v us Q I rx rv h
 obtain⟨l,xs,y,rfl,rfl,hH,hy,q⟩:=h
 cases rx
 have hus:=rv.zero
 subst hus
 obtain⟨z,its,n,r,hl,e⟩:=I.lstM hH
 obtain⟨u,hu,ru⟩:=r.get hy
 have hy':its.toArray[its.toArray.size - 1]? = some u:=by
  show its.toArray[its.length - 1]? = some u
  rw[← Array.getElem?_toList,← hl]
  exact hu
 refine call_meets F.slot_list_pop ⟨_,e,rfl⟩ F.entry_list_pop (F.args_list_pop_1 _) (MeetsSeq.list_pop_last l its.toArray n u hy' (by rw[Jg];omega)) ⟨e,?_⟩
 refine⟨y,_,I.lset (its':=its.dropLast) hH e ?_ r.dropLast ?_,ru,q⟩
 ·show its.toArray.eraseIdxIfInBounds (its.toArray.size - 1)=its.dropLast.toArray
  rw[Jg,List.eraseIdxIfInBounds_toArray,ky]
 ·rw[List.length_dropLast]
  omega
def GK:R2:=fun x y H Q=>∃ l k xs,x = .ref l∧y = .int k∧H l=some (.lst xs)∧-(2 ^ 63)≤k∧k<2 ^ 63∧xs.length*k.toNat≤sizeLine ∧
 ∀ p,H p=none→Q (.ref p) (upd H p (.lst (Jo k.toNat xs).flatten))
theorem xZ{α:Type}(xs:List α)(k:Nat):(Jo k xs).flatten.length=k*xs.length:=by
 induction k with
 | zero=>simp
 | succ k ih=>rw[JQ,Kb,Jp,ih,Nat.succ_mul,Nat.add_comm]
theorem Cu:OpR X (binaryOp .Mult) GK:=by
 intro pins s σ H x y v u Q I rx ry h
 obtain⟨l,k,xs,rfl,rfl,hH,h1,h2,hz,q⟩:=h
 cases rx
 obtain⟨t,rfl⟩:=ry
 obtain⟨z,its,n,r,hl,e⟩:=I.lstM hH
 have hlen:its.toArray.size*k.toNat≤sizeLine:=by rw[Jg,← hl];exact hz
 have hcap:¬ its.toArray.size*k.toNat > (2 ^ 63 - 1) / 8:=by
  have:(sizeLine:Nat)≤(2 ^ 63 - 1) / 8:=by decide
  omega
 have hfit:¬ (!Builtin.List.listFitsIndex k)=true:=by
  rw[fitsIndex_both h1 h2]
  exact Jh
 have hlong:¬ Builtin.List.listTooLong (its.toArray.size*k.toNat)=true:=by
  rw[iM hlen]
  exact Jh
 have hnew:MD (fun x1 x2=>x1++x2) #[] (Jo (if its.toArray.isEmpty=true then 0 else k.toNat) its.toArray)=(Jo k.toNat its).flatten.toArray:=by
  have f0:∀ m:Nat,MD (fun x1 x2=>x1++x2) #[] (Jo m its.toArray)=(Jo m its).flatten.toArray:=fun m=>by
   have:=el its m []
   rw[Ml]at this
   exact this
  rw[f0]
  cases its with
  | nil=>simp
  | cons a r'=>rw[if_neg (by simp)]
 refine wpAny_binaryOp_repeat_ref (T := "list") (U := "int") (by decide) ⟨_,e,rfl⟩ (fun s'=>typeIs_int s' k t) noFill_list_mul F.fills_int_mul F.slot_int_rmul repeat_list F.slot_int_index.lookup
  (call_meets F.slot_int_rmul (typeIs_int s k t) F.entry_int_rmul (F.args_int_rmul_2 _ _) (int___rmul___int_list k t l its.toArray n)
   ⟨e,rfl,⟨_,e,rfl⟩,call_meets F.slot_list_mul ⟨_,e,rfl⟩ F.entry_list_mul (F.args_list_mul_2 _ _) (AutoListH.list___mul___list_int_3 l its.toArray n k t hfit hcap hlong) ⟨e,?_⟩⟩)
 rw[hnew]
 exact⟨.ref _,_,I.lnew (t':=s.toks) (r.rep k.toNat) (by rw[xZ,Nat.mul_comm];exact hz),rfl,q _ I.fresh⟩
end
section
variable {prog:Program} {w:World} {A:Around} {E:Value→Shared→Prop} {s:Shared}
end
section
variable {X:Cx}
end
end L2
namespace Att
open PySem PySem.W PySem.Calls PyProof.Rows
theorem aw{P:Params}{h:Heap}:∀(ns:List Int) (vs:List Value),WellAll P h vs (ns.map WData.int)→IntsAre vs ns:=by
 intro ns
 induction ns with
 | nil =>
  intro vs w
  rw[Jq]at w
  cases w
  exact .nil
 | cons n ns ih =>
  intro vs w
  rw[IY]at w
  cases w with
  | cons a b =>
   cases a
   exact .cons _ _ (ih _ b)
theorem oO{l:OpenLaw}{n:Nat}(hn:l.most=some n){P:Params}{h:Heap}{args:List WData}{vals:List Value}
  (hpre:l.row.toRowW.claim.pre args=true) (hwl:WellAll P h vals args) :
  ∃ a vs ns,vals=[Value.ref a]∧args=[WData.list (ns.map WData.int)]∧h.get? a=some { cls:=.type "list",data:=.seq vs.toArray }∧IntsAre vs ns∧ns.length≤n:=by
 have hsh:WShape.hasAll [] args [.list .int]=true:=(pre_splitW hpre).1
 have hc:l.pre.holds [] { args:=args } = true:=(pre_splitW hpre).2
 obtain⟨d,r,rfl,h1,h2⟩:=hasAllW_cons hsh
 obtain rfl:=hasAllW_nil h2
 obtain⟨xs,rfl,h3⟩:=hasW_list h1
 obtain⟨ns,rfl⟩:=items_int h3
 have hlen:ns.length≤n:=by
  unfold OpenLaw.pre at hc
  have h4:(WTm.not (.lt (.lit (.int (n:Int))) (.len (.arg 0)))).holds [] { args:=[.list (ns.map .int)] } = true:=by
   have h4:=(holds_andW hc).1
   rw[hn]at h4
   exact h4
  have h5:=condW_of h4 (w_not (w_lt w_lit (w_len_list (w_arg rfl))))
  rw[IW]at h5
  refine Nat.le_of_not_lt fun q=>?_
  have q':(n:Int)<((ns.length:Nat):Int):=by omega
  first
   | (rw[decide_eq_true q']at h5;exact absurd h5 (by decide))
   | (simp at h5;omega)
 cases hwl with
 | cons w1 w2 =>
  cases w2
  cases w1 with
  | list ho hall=>exact⟨_,_,ns,rfl,rfl,ho,aw ns _ hall,hlen⟩
theorem oU(l:OpenLaw)(args:List WData):l.row.toRowW.claim.post args (.bool true) args=true :=
 postW_of (r:=l.row.toRowW) (X:=(true == true))
  (show WShape.has [] (.bool true) .bool=true by first|rfl|decide|simp[WShape.has,WShape.arms,WShape.armsAll])
  (show(WTm.eq .res (.lit (.bool true))).value [] { args:=args,res:=some (.bool true),after:=args } = some (.bool (true == true))from w_eq_bool (w_res rfl) w_lit) rfl
theorem jk{l:OpenLaw}{n:Nat}{q:Program}{loose:List Str}{XP:(Str→Option Value)→Heap→Prop}{YP:World→Heap→Prop}{d:DefRec}
  (hn:l.most=some n) (hdf:d.params.defaults=[])
  (call:∀(w:World) (s₀ s₁:Shared) (mg mb:Str→Option Value) (fa:Addr) (o:Obj) (pm cd doc:Value) (a:Addr) (vs:List Value) (ns:List Int),
   Ground q loose [] XP w s₀ mg mb s₁.heap→YP w s₁.heap →
   s₁.heap.get? fa=some o→o.data = .func (docDef d.name d.params d.body d.scope pm cd doc)→s₁.heap.CodeRec cd d.name→mg d.name=some (.ref fa) →
   s₁.heap.get? a=some { cls:=.type "list",data:=.seq vs.toArray }→IntsAre vs ns→ns.length≤n→s₁.gens = #[] →
   codeAny (model l.prog w) callerA (.call (.ref fa) ⟨[.ref a],[]⟩) (fun r s'=>r = .ok (.ret (.bool true))∧OldK s₁.heap s'.heap∧s'.os=s₁.os∧AllBare s'.gens) s₁) :
  WalkO q loose XP YP l.row.toRowW d [] (fun f vs=>PySem.call f vs):=by
 intro w s₀ s₁ mg mb G Y fa o pm cd doc dV kV ho hd hcd hD hmg hg args vals as hpre hlay hrd hwl hlo
 obtain rfl:dV = .none:=Dflts.none hD hdf
 obtain rfl:kV = .none:=Dflts.noKw hD
 obtain⟨a,vs,ns,rfl,rfl,hobj,hints,hlen⟩:=oO hn hpre hwl
 refine enter_call (codeAny_mono (call w s₀ s₁ mg mb fa o pm cd doc a vs ns G Y ho (fd_plain hd) hcd hmg hobj hints hlen hg) fun r s' hq=>?_)
 obtain⟨rfl,h2,h3,h4⟩:=hq
 exact⟨.inl ⟨.bool true,.bool true,[],rfl,fun _=>rfl,.bool true,oU l _,fun _=>⟨List.Pairwise.nil,fun _ hm=>(nomatch hm)⟩⟩,h2,h3,h4⟩
section
variable {prog:Program} {w:World} {A:Around} {E:Value→Shared→Prop} {s:Shared} {K:Frag}
end
end Att
namespace L2
open PySem PySem.Spec PyProof.Rows
theorem dS:∀{vs:List Value} {ns:List Int},IntsAre vs ns→i9 (ns.map V.int) vs
 | _,_,.nil=>.nil
 | _,_,.cons n t h=>.cons ⟨t,rfl⟩ (dS h)
def pU(H:Hp):Prop:=∀ b,H b=none ∨ ∃ o xs,H b=some (.frz o (.lst xs))
theorem tW{P:Program}{w:World}{K:IT}{mg mb:Str→Option Value}{CX:CXT}{k:Nat}{fa a:Addr}{fd:FuncData}{x:Str}{sp:Sp}{s₁:Shared}{vs:List Value}{ns:List Int}
  (KX:K.In s₁.heap) (hns:s₁.heap.Ns mainGlobals mg) (hb:s₁.heap.Ns builtinsNs mb) (hbb:∀ x:Str,x ≠ "__name__" → mb x=bootBuiltins x) (hlim:s₁.heap.NoLimit) (hg:s₁.gens = #[])
  (ha:s₁.heap.get? a=some { cls:=.type "list",data:=.seq vs.toArray }) (hi:IntsAre vs ns) (hl:ns.length≤sizeLine) (hr:z4 k callerA)
  (F:∀ base:Heap,K.In base→base.Ns mainGlobals mg→E8 P w K mg base CX k fa fd [x] sp) (hbind:∀(s:Shared) (u:Value),BindsTo s fd ⟨[u],[]⟩ [(x,u)])
  (hsp:∀ H:Hp,pU H→SqL K H a (ns.map V.int)→sp [.ref a] H (fun v _=>v = .bl true) fun _ _ _=>False)
  (hCX:∀ H e s',CX [] H s₁ (fun _ _ _=>False) e s'→False) :
  codeAny (model P w) callerA (.call (.ref fa) ⟨[.ref a],[]⟩) (fun r s'=>r = .ok (.ret (.bool true))∧OldK s₁.heap s'.heap∧s'.os=s₁.os∧AllBare s'.gens) s₁:=by
 have rv:=dS hi
 have lenV:=hi.length
 have core:∀ H:Hp,pU H→SqL K H a (ns.map V.int)→HOk P w H s₁.heap→(∀ b,H b≠none→b=a)→(H a≠none→K.lookup a=none) →
   codeAny (model P w) callerA (.call (.ref fa) ⟨[.ref a],[]⟩) (fun r s'=>r = .ok (.ret (.bool true))∧OldK s₁.heap s'.heap∧s'.os=s₁.os∧AllBare s'.gens) s₁:=by
  intro H hO hS hok hA hK
  have base_of:∀{b:Addr} {o:Obj},s₁.heap.get? b=some o→H b=none→(fR s₁.heap H).get? b=some o:=fun e n=>uo e n
  have noA:∀{b:Addr} {o:Obj} {es:Array DictEntry} {ep:Nat},s₁.heap.get? b=some o→o.data = .dict es ep→H b=none:=fun{b o es ep} e d=>by
   cases q:H b with
   | none=>rfl
   | some u =>
    have e':b=a:=hA b (by rw[q];simp)
    subst e'
    rw[ha]at e;cases e
    have d':Data.seq vs.toArray _=Data.dict es ep:=d
    cases d'
  have nsK:∀{b:Addr} {m:Str→Option Value},s₁.heap.Ns b m→(fR s₁.heap H).Ns b m:=fun{b m} ⟨o,es,ep,e,d,r⟩=>⟨o,es,ep,base_of e (noA e d),d,r⟩
  have hKb:K.In (fR s₁.heap H):=fun b o e=>base_of (KX b o e) (by
   cases q:H b with
   | none=>rfl
   | some u =>
    have e':b=a:=hA b (by rw[q];simp)
    subst e'
    rw[hK (by rw[q];simp)]at e;cases e)
  have hM:Mod K mg (fR s₁.heap H):=⟨hKb,nsK hns,⟨mb,nsK hb,hbb⟩,let ⟨mc,h1,h2⟩:=hlim;⟨mc,nsK h1,h2⟩⟩
  have e0:dn P w K mg (fR s₁.heap H) callerA [] s₁ H:=⟨rfl,hM,fun b o e=>xQ e,Lo (pA _ _),trivial,fun b hb=>absurd (show b∈([]:List Addr)from hb) (by simp),hok,.of_eq hg⟩
  refine codeAny_mono ((F _ hKb (nsK hns)).run callerA [] s₁ H ⟨[.ref a],[]⟩ [.ref a] [.ref a] _ _ hr e0 (hbind s₁ (.ref a)) (.cons rfl .nil) (hsp H hO hS)) fun r s' h=>?_
  cases r with
  | error e=>exact(hCX H e s' h).elim
  | ok fl =>
   cases fl with
   | next=>exact False.elim h
   | brk=>exact False.elim h
   | cont=>exact False.elim h
   | ret u =>
    obtain⟨v,H',os,bare,un,hok',r',q⟩:=h
    have q':v = .bl true:=q
    subst q'
    obtain rfl:u=Value.bool true:=r'
    refine⟨rfl,OldK.of_keep fun b o e=>?_,os,bare⟩
    cases q:H b with
    | none=>exact un.keep b o e q (by intro z;exact absurd (show b∈([]:List Addr)from z) (by simp)) (by simp)
    | some u =>
     rcases hO b with z|⟨ob,xs,z⟩
     ·rw[q]at z;cases z
     ·have z2:=un.frzs b ob _ z
      obtain⟨e1,_⟩:=hok b _ z
      obtain⟨e2,_⟩:=hok' b _ z2
      rw[e]at e1;cases e1
      exact e2
 cases hk:K.lookup a with
 | some o =>
  have e:=KX a o hk
  rw[ha]at e
  cases e
  refine core (fun _=>none) (fun _=>.inl rfl) (.inr ⟨_,vs.toArray,_,hk,rfl,rfl,rfl,by rw[Jg,lenV];exact hl,by simpa using rv⟩) (fun b u z=>by have z':(none:Option HO)=some u:=z;cases z') (fun b z=>absurd rfl z) fun z=>absurd rfl z
 | none =>
  refine core (fun b=>if b=a then some (.frz { cls:=.type "list",data:=.seq vs.toArray } (.lst (ns.map V.int)))else none) (fun b=>?_) (.inl (.inr ⟨{ cls:=.type "list",data:=.seq vs.toArray },if_pos rfl⟩)) (fun b u z=>?_) (fun b z=>?_) fun _=>hk
  ·by_cases hb:b=a
   ·exact .inr ⟨_,_,if_pos hb⟩
   ·exact .inl (if_neg hb)
  ·by_cases hb:b=a
   ·have z':=(if_pos hb).symm.trans z
    cases z'
    subst hb
    exact⟨ha,by rw[IW];exact hl,vs,_,rv,ha⟩
   ·have z':=(if_neg hb).symm.trans z
    cases z'
  ·by_cases hb:b=a
   ·exact hb
   ·exact absurd (if_neg hb) z
theorem xb{l:PySem.W.OpenLaw}{n k:Nat}{q:Program}{loose:List Str}{XP:(Str→Option Value)→Heap→Prop}{YP:World→Heap→Prop}{d:DefRec}{K:Params→IT}{CX:World→CXT}{sp:World→Sp}{x:Str}
  (hn:l.most=some n) (hn2:n≤sizeLine) (hdf:d.params.defaults=[]) (hr:z4 k callerA)
  (hY:∀(w:World) (h:Heap),YP w h→(K w.params).In h)
  (F:∀(w:World) (mg:Str→Option Value) (fa:Addr) (h:Heap),(K w.params).In h→h.Ns mainGlobals mg→mg d.name=some (.ref fa) →
   ∃ fd:FuncData,(∀(s:Shared) (u:Value),BindsTo s fd ⟨[u],[]⟩ [(x,u)]) ∧
    ∀ base:Heap,(K w.params).In base→base.Ns mainGlobals mg→E8 l.prog w (K w.params) mg base (CX w) k fa fd [x] (sp w))
  (hsp:∀(w:World) (H:Hp) (a:Addr) (ns:List Int),ns.length≤n→pU H→SqL (K w.params) H a (ns.map V.int)→sp w [.ref a] H (fun v _=>v = .bl true) fun _ _ _=>False)
  (hCX:∀(w:World) (H:Hp) (s:Shared) (e:Value) (s':Shared),CX w [] H s (fun _ _ _=>False) e s'→False) :
  PySem.W.WalkO q loose XP YP l.row.toRowW d [] (fun f vs=>PySem.call f vs):=by
 refine Att.jk hn hdf fun w s₀ s₁ mg mb fa o pm cd doc a vs ns G Y ho hd hcd hmg hobj hints hlen hg=>?_
 have KX:=hY w _ Y
 obtain⟨fd,hb,hF⟩:=F w mg fa _ KX G.T.g hmg
 exact tW KX G.T.g G.T.b G.T.builtins G.T.nolimit hg hobj hints (Jk hlen hn2) hr hF hb (fun H hO hS=>hsp w H a ns hlen hO hS) fun H e s'=>hCX w H s₁ e s'
theorem rz{l:PySem.W.OpenLaw}{n k:Nat}{q:Program}{loose:List Str}{XP:(Str→Option Value)→Heap→Prop}{YP:World→Heap→Prop}{d:DefRec}{K:Params→IT}{CX:CXT}{sp:IT→Sp}{x:Str}
  (hn:l.most=some n) (hn2:n≤sizeLine) (hdf:d.params.defaults=[]) (hr:z4 k callerA)
  (hY:∀(w:World) (h:Heap),YP w h→(K w.params).In h)
  (F:∀(w:World) (mg:Str→Option Value) (fa:Addr) (h:Heap),(K w.params).In h→h.Ns mainGlobals mg→mg d.name=some (.ref fa) →
   ∃ fd:FuncData,(∀(s:Shared) (u:Value),BindsTo s fd ⟨[u],[]⟩ [(x,u)]) ∧
    ∀ base:Heap,(K w.params).In base→base.Ns mainGlobals mg→E8 l.prog w (K w.params) mg base CX k fa fd [x] (sp (K w.params)))
  (hsp:∀(K:IT) (H:Hp) (a:Addr) (ns:List Int),ns.length≤n→pU H→SqL K H a (ns.map V.int)→sp K [.ref a] H (fun v _=>v = .bl true) fun _ _ _=>False)
  (hCX:∀(H:Hp) (s:Shared) (e:Value) (s':Shared),CX [] H s (fun _ _ _=>False) e s'→False) :
  PySem.W.WalkO q loose XP YP l.row.toRowW d [] (fun f vs=>PySem.call f vs) :=
 xb (K:=K) (CX:=fun _=>CX) (sp:=fun w=>sp (K w.params)) hn hn2 hdf hr hY F (fun w H a ns h1 h2 h3=>hsp (K w.params) H a ns h1 h2 h3) fun _ H s e s'=>hCX H s e s'
noncomputable def fQ(s:Stmt)(j:Nat):Stmt:=match s with
 | .ClassDef _ _ _ body _ _ _ _ _ _ _=>body.getD j (.Pass ⟨0,0,0,0⟩)
 | _=>.Pass ⟨0,0,0,0⟩
noncomputable def G1(s:Stmt):Arguments:=match s with
 | .FunctionDef _ a _ _ _ _ _ _ _ _=>a
 | _=>{ posonlyargs:=[],args:=[],vararg:=none,kwonlyargs:=[],kw_defaults:=[],kwarg:=none,defaults:=[] }
noncomputable def A4(s:Stmt):List Stmt:=match s with
 | .FunctionDef _ _ b _ _ _ _ _ _ _=>b
 | _=>[]
noncomputable def e5(s:Stmt):Scope:=match s with
 | .FunctionDef _ _ _ _ _ _ sc _ _ _=>sc
 | _=>{ kind:=.function,names:=[],isGenerator:=false,isCoroutine:=false }
abbrev CX0:CXT:=fun _ _ _ _ _ _=>False
abbrev E0:XK:=fun _ _ _=>False
theorem Ak{X:Cx}:O8 CX0 X E0:=fun _ _ _ _ _ _ _ h=>h.elim
section
variable {P:Program} {w:World} {K:IT} {mg:Str→Option Value} {base:Heap}
end
section
variable {X:Cx}
end
end L2
end
namespace RM
open Rat
noncomputable def bl(n:Nat):Nat:=n.log2+1
theorem cx(n:Nat):n<2 ^ bl n:=Nat.lt_log2_self
theorem cM{n k:Nat}(h:n<2 ^ k)(hk:0<k):bl n≤k:=by
 unfold bl
 rcases LN n with h0|h0
 ·subst h0;rw[Nat.log2_zero];omega
 ·have:=(Mm (LI.mp h0)).mpr h
  omega
theorem vt(n:Nat):0<bl n:=Nat.succ_pos _
theorem gj{m n:Nat}(h:m≤n):bl m≤bl n:=cM (Kh h (cx n)) (vt n)
theorem cL(m n:Nat):bl (m*n)≤bl m+bl n:=by
 refine cM ?_ (Nat.add_pos_left (vt m) _)
 rw[Nat.pow_add]
 exact Nat.mul_lt_mul'' (cx m) (cx n)
theorem DG(m n:Nat):bl (m+n)≤max (bl m) (bl n)+1:=by
 refine cM ?_ (Nat.succ_pos _)
 have h1:=cx m
 have h2:=cx n
 have e1:2 ^ bl m≤2 ^ max (bl m) (bl n):=JD (by decide) (Ls _ _)
 have e2:2 ^ bl n≤2 ^ max (bl m) (bl n):=JD (by decide) (Lg _ _)
 rw[Nat.pow_succ]
 omega
noncomputable def sz(q:Rat):Nat:=max (bl q.num.natAbs) (bl q.den)
theorem bK(q:Rat):bl q.num.natAbs≤sz q:=Ls _ _
theorem Q7(q:Rat):bl q.den≤sz q:=Lg _ _
theorem Ad{q:Rat}{n:Nat}(h1:bl q.num.natAbs≤n)(h2:bl q.den≤n):sz q≤n:=LU.mpr ⟨h1,h2⟩
theorem CF(a b:Int):(divInt a b).num.natAbs≤a.natAbs:=by
 rw[num_divInt]
 rcases Int.lt_trichotomy b 0 with h|h|h
 ·rw[KN h]
  refine Jk (KW _ _) ?_
  simp
 ·subst h;simp
 ·rw[Lk h,Int.one_mul]
  exact KW _ _
theorem Dq(a b:Int)(hb:b≠0):(divInt a b).den≤b.natAbs:=by
 rw[den_divInt,if_neg hb]
 exact Nat.div_le_self _ _
theorem W5(a b:Int)(hb:b≠0):sz (divInt a b)≤max (bl a.natAbs) (bl b.natAbs) :=
 Ad (Jk (gj (CF a b)) (Ls _ _)) (Jk (gj (Dq a b hb)) (Lg _ _))
theorem S6(q:Rat):(q.den:Int)≠0:=by have:=q.den_nz;omega
theorem DJ(q r:Rat):q+r=divInt (q.num*r.den+r.num*q.den) (q.den*r.den):=by
 conv=>lhs;rw[← num_divInt_den q,← num_divInt_den r]
 rw[divInt_add_divInt _ _ (S6 q) (S6 r)]
theorem CH(q r:Rat):q*r=divInt (q.num*r.num) (q.den*r.den):=by
 conv=>lhs;rw[← num_divInt_den q,← num_divInt_den r]
 rw[divInt_mul_divInt]
theorem cw(a b:Int):(a+b).natAbs≤a.natAbs+b.natAbs:=Int.natAbs_add_le a b
theorem rO(q r:Rat):sz (q+r)≤sz q+sz r+1:=by
 rw[DJ]
 have hb:((q.den:Int)*(r.den:Int))≠0:=Mn (S6 q) (S6 r)
 refine Jk (W5 _ _ hb) (LU.mpr ⟨?_,?_⟩)
 ·refine Jk (gj (cw _ _)) (Jk (DG _ _) ?_)
  rw[Kw,Kw]
  have h1:=cL q.num.natAbs (r.den:Int).natAbs
  have h2:=cL r.num.natAbs (q.den:Int).natAbs
  have a1:=bK q
  have a2:=bK r
  have a3:=Q7 q
  have a4:=Q7 r
  simp only[Jl]at h1 h2 ⊢
  omega
 ·rw[Kw]
  have h1:=cL (q.den:Int).natAbs (r.den:Int).natAbs
  have a3:=Q7 q
  have a4:=Q7 r
  simp only[Jl]at h1 ⊢
  omega
theorem Bw(q r:Rat):sz (q*r)≤sz q+sz r:=by
 rw[CH]
 have hb:((q.den:Int)*(r.den:Int))≠0:=Mn (S6 q) (S6 r)
 refine Jk (W5 _ _ hb) (LU.mpr ⟨?_,?_⟩)
 ·rw[Kw]
  have h1:=cL q.num.natAbs r.num.natAbs
  have a1:=bK q
  have a2:=bK r
  omega
 ·rw[Kw]
  have h1:=cL (q.den:Int).natAbs (r.den:Int).natAbs
  have a3:=Q7 q
  have a4:=Q7 r
  simp only[Jl]at h1 ⊢
  omega
theorem jF(q:Rat):sz (-q)=sz q:=by
 unfold sz
 rw[Mo,Mp,KY]
theorem Bv(q r:Rat):sz (q - r)≤sz q+sz r+1:=by
 rw[Rat.sub_eq_add_neg]
 have:=rO q (-r)
 rw[jF]at this
 exact this
theorem rM(q:Rat){n:Nat}(hn:0<n)(h1:q.num.natAbs<2 ^ n)(h2:q.den<2 ^ n):sz q≤n:=Ad (cM h1 hn) (cM h2 hn)
theorem xi:sz 0=1:=by decide
theorem rN:sz 1=1:=by decide
theorem iW(a b:Nat)(h:b≠0):JK a b=JK b (a % b):=by
 rw[KR,Nat.gcd_rec,KR]
theorem M7{a g:Int}(h:g ∣ a):a.fdiv g=a / g:=by
 obtain⟨c,rfl⟩:=h
 by_cases hg:g=0
 ·subst hg;simp
 ·rw[Int.mul_fdiv_cancel_left _ hg,Int.mul_ediv_cancel_left _ hg]
theorem CL(a b:Int)(hb:b≠0)(share:Int)(hs:share=if b<0 then -((JK a.natAbs b.natAbs:Nat):Int)else((JK a.natAbs b.natAbs:Nat):Int)) :
  a.fdiv share=(divInt a b).num∧b.fdiv share=((divInt a b).den:Int):=by
 have hg:JK a.natAbs b.natAbs=MH b a:=by unfold MH;exact KR _ _
 have da:((MH b a:Nat):Int) ∣ a:=Int.gcd_dvd_right b a
 have db:((MH b a:Nat):Int) ∣ b:=Int.gcd_dvd_left b a
 rw[hg]at hs
 rw[num_divInt,den_divInt,if_neg hb]
 by_cases h:b<0
 ·rw[if_pos h]at hs
  subst hs
  rw[M7 (Int.neg_dvd.mpr da),M7 (Int.neg_dvd.mpr db),KN h]
  refine⟨?_,?_⟩
  ·rw[Int.ediv_neg,Int.neg_one_mul,LJ da]
  ·rw[Int.ediv_neg,← LJ db]
   have e:-b=((b.natAbs:Nat):Int):=by omega
   rw[e]
   norm_cast
 ·rw[if_neg h]at hs
  subst hs
  have hp:0<b:=by omega
  rw[M7 da,M7 db,Lk hp,Int.one_mul]
  refine⟨rfl,?_⟩
  have e:b=((b.natAbs:Nat):Int):=by omega
  conv=>lhs;rw[e]
  norm_cast
end RM
namespace L2
open PySem PySem.Spec PyProof.Rows
section
variable {prog:Program} {w:World} {A:Around} {R:Result→Shared→Prop} {s:Shared}
noncomputable def mL(ifs:List Expr)(env:Env):Sem Bool:=forIn ifs true fun c r=>if r=true then do let ok ← isTrue c env (eval c env);pure (ForInStep.yield ok)else pure (ForInStep.yield r)
theorem fX{elt target iter:Expr}{ifs:List Expr}{scope:Scope}{pos:Pos}{it acc:Value}{env:Env}(I:Nat→Shared→Prop)
  (turn:∀ n s,I n s→wpAny (model prog w) A (pyNext it) (fun r s₁=>match r with
   | none=>R (.ok .next) s₁
   | some v=>wpAny (model prog w) A (letOwnedTupleGo target it v) (fun _ s₁'=>wpAny (model prog w) A (assign target env v) (fun _ s₂=>wpAny (model prog w) A (mL ifs env) (fun ok s₂'=>if ok=true then wpAny (model prog w) A (eval elt env) (fun x s₃ =>
     wpAny (model prog w) A (call (.builtin "list.append") [acc,x]) (fun _ s₄=>∃ m,m<n∧I m s₄) (notedBy (model prog w) A env fun e s'=>R (.error e) s') s₃)
     (notedBy (model prog w) A env fun e s'=>R (.error e) s') s₂' else ∃ m,m<n∧I m s₂') (notedBy (model prog w) A env fun e s'=>R (.error e) s') s₂) (notedBy (model prog w) A env fun e s'=>R (.error e) s') s₁') (notedBy (model prog w) A env fun e s'=>R (.error e) s') s₁) (notedBy (model prog w) A env fun e s'=>R (.error e) s') s)
  (n:Nat) (h:I n s) :
  codeAny (model prog w) A (.compLoop (.ListComp elt [⟨target,iter,ifs,0⟩] scope pos) 0 it acc env) R s:=by
 refine codeAny_loop rfl I (fun n s hI=>?_) n h
 show wpAny _ _ ((compTurn (.ListComp elt [⟨target,iter,ifs,0⟩] scope pos) 0 it acc env).onRaise (fun x=>do noteFrame x env;theTreesLotGoes x)) _ _ s
 refine wpAny_noted ?_
 rw[compTurn_list]
 refine IU (wpAny_standAt (IU (wpAny_mono (turn n s hI) (fun r s₁ h₁=>?_) fun _ _ h'=>h')))
 cases r with
 | none=>exact Jf h₁
 | some v =>
  refine IU (wpAny_mono h₁ (fun _ s₁' h₁'=>?_) fun _ _ h'=>h')
  refine IU (wpAny_mono h₁' (fun _ s₂ h₂=>IU (wpAny_mono h₂ (fun ok s₂' h₃=>?_) fun _ _ h'=>h')) fun _ _ h'=>h')
  cases ok with
  | true =>
   refine IU (IU (wpAny_mono h₃ (fun x s₃ h₄=>IU (wpAny_mono h₄ (fun _ s₄ h₅=>Jf (Jf ⟨rfl,h₅⟩)) fun _ _ h'=>h')) fun _ _ h'=>h'))
  | false=>exact IU (Jf (Jf ⟨rfl,h₃⟩))
end
def az(X:Cx)(ifs:List Expr)(t:TT):Prop :=
 ∀(pins:List (Addr × Obj)) (s:Shared) (σ:St) (H:Hp) (Q:Bool→Hp→Prop),Inv X pins σ H s→t σ H Q→wpAny (model X.prog X.w) X.A (mL ifs X.env) (TP X pins σ Q) X.xe s
def Gp:TT:=fun _ H Q=>Q true H
theorem tj{X:Cx}:az X [] Gp:=fun pins s σ H Q I q=>Jf ⟨H,I,q⟩
theorem tf{X:Cx}{c:Expr}{t:TT}(h:PT X c t):az X [c] t:=fun pins s σ H Q I q=>wpAny_tests_one (h pins s σ H Q I q)
noncomputable def O6(cells:List (Str × Addr)):List (Str × NameKind)→List (Str × Addr)→List (Str × Addr)
 | [],acc=>acc
 | (n,k) :: r,acc=>if k == .free then O6 cells r ((n,(cells.lookup n).getD 0) :: acc)else O6 cells r acc
theorem S7{env:Env}:∀(names:List (Str × NameKind)) (acc:List (Str × Addr)),(∀ n,(n,NameKind.free)∈names→∃ c,env.cells.lookup n=some c) →
  (forIn names acc (fun(x:Str × NameKind) (cs:List (Str × Addr))=>if (x.2 == NameKind.free)=true then(do let a ← cellOf env x.1;pure (ForInStep.yield ((x.1,a) :: cs)))else pure (ForInStep.yield cs)):Sem (List (Str × Addr)))=pure (O6 env.cells names acc)
 | [],acc,_=>rfl
 | (n,k) :: r,acc,h=>by
  rw[Lu]
  unfold O6
  by_cases hk:(k == NameKind.free)=true
  ·have e:k = .free:=by cases k<;>first|rfl|(exact absurd hk (by decide))
   subst e
   obtain⟨c,hc⟩:=h n IZ
   rw[if_pos hk,if_pos hk]
   have e1:cellOf env n=pure c:=by unfold cellOf;rw[hc]
   rw[e1,pure_bind,pure_bind,hc]
   exact S7 r _ fun m hm=>h m (Jc _ hm)
  ·rw[if_neg hk,if_neg hk,pure_bind]
   exact S7 r _ fun m hm=>h m (Jc _ hm)
theorem jg{scope:Scope}{env:Env}(h:∀ n,(n,NameKind.free)∈scope.names→∃ c,env.cells.lookup n=some c):closureFor scope env=pure (O6 env.cells scope.names []):=by
 have:=S7 (env:=env) scope.names [] h
 unfold closureFor
 first
  | (simp only[]at this ⊢;rw[← this];simp only[bind_pure];rfl)
  | (rw[← this];rfl)
  | (simp only[bind_pure,pure_bind];exact this)
theorem M9{cells:List (Str × Addr)}{x:Str}{c:Addr}:∀(names:List (Str × NameKind)) (acc:List (Str × Addr)),(∀ n,(n,NameKind.free)∈names→∃ c,cells.lookup n=some c)→(∀ y d,acc.lookup y=some d→cells.lookup y=some d)→(O6 cells names acc).lookup x=some c→cells.lookup x=some c
 | [],acc,_,ha,h=>ha x c h
 | (n,k) :: r,acc,hn,ha,h=>by
  unfold O6 at h
  by_cases hk:(k == NameKind.free)=true
  ·rw[if_pos hk]at h
   have e:k = .free:=by cases k<;>first|rfl|(exact absurd hk (by decide))
   subst e
   obtain⟨d,hd⟩:=hn n IZ
   refine M9 r _ (fun m hm=>hn m (Jc _ hm)) (fun y e hy=>?_) h
   rw[Kp]at hy
   split at hy
   ·rename_i hz
    have hz':y=n:=by simpa using hz
    subst hz'
    rw[hd]at hy ⊢
    cases hy;rfl
   ·exact ha y e hy
  ·rw[if_neg hk]at h
   exact M9 r _ (fun m hm=>hn m (Jc _ hm)) ha h
theorem Q0{cells:List (Str × Addr)}{x:Str}:∀(names:List (Str × NameKind)) (acc:List (Str × Addr)),((x,NameKind.free)∈names ∨ ∃ c,acc.lookup x=some c)→∃ c,(O6 cells names acc).lookup x=some c
 | [],acc,h=>by
  rcases h with h|h
  ·cases h
  ·exact h
 | (n,k) :: r,acc,h=>by
  unfold O6
  by_cases hk:(k == NameKind.free)=true
  ·rw[if_pos hk]
   refine Q0 r _ ?_
   by_cases hx:x=n
   ·right;rw[Kp];simp[hx]
   ·rcases h with h|⟨c,h⟩
    ·rcases Jj.mp h with z|z
     ·injection z with z1 _;exact absurd z1 hx
     ·exact .inl z
    ·right
     refine⟨c,?_⟩
     rw[Kp]
     have:(x == n)=false:=by simpa using hx
     rw[this];exact h
  ·rw[if_neg hk]
   refine Q0 r _ ?_
   rcases h with h|h
   ·rcases Jj.mp h with z|z
    ·injection z with _ z2
     subst z2
     exact absurd rfl hk
    ·exact .inl z
   ·exact .inr h
theorem ag{scope:Scope}{env:Env}{x:Str}{k:NameKind}(h:(relabel scope env).names.lookup x=some k)(hk:k = .cell∨k = .free)(hcell:∀ y∈scope.names,y.2 ≠ .cell):(x,NameKind.free)∈scope.names:=by
 have go:∀(l:List (Str × NameKind)),(∀ y∈l,y.2 ≠ .cell)→(l.map fun(n,k)=>if (k == NameKind.free && env.scope.kind == .function && env.kindOf n == some .cell)=true then(n,NameKind.cell)else(n,k)).lookup x=some k→(x,NameKind.free)∈l:=by
  intro l
  induction l with
  | nil=>intro _ h;cases h
  | cons p r ih =>
   intro hl h
   obtain⟨n,j⟩:=p
   rw[IY,Kp]at h
   by_cases hj:j = .free
   ·subst hj
    by_cases hx:x=n
    ·subst hx;exact IZ
    ·refine Jc _ (ih (fun y hy=>hl y (Jc _ hy)) ?_)
     have e:∀ b:Bool,(x == (if b=true then(n,NameKind.cell)else(n,NameKind.free)).1)=false:=fun b=>by cases b<;>simpa using hx
     dsimp only at h
     rw[e]at h
     exact h
   ·have e:(j == NameKind.free)=false:=by simpa using hj
    have hc:=hl (n,j) IZ
    dsimp only at h
    rw[e]at h
    simp only[Mx,KS,if_false]at h
    by_cases hx:x=n
    ·have:(x == n)=true:=by simpa using hx
     rw[this]at h
     have h':j=k:=by simpa using h
     subst h'
     rcases hk with z|z
     ·exact absurd z hc
     ·exact absurd z hj
    ·have:(x == n)=false:=by simpa using hx
     rw[this]at h
     exact Jc _ (ih (fun y hy=>hl y (Jc _ hy)) h)
 exact go scope.names hcell h
noncomputable def cxF(X:Cx)(scope:Scope)(cl:List (Str × Addr))(N':List Str)(s3:Shared)(H3:Hp)(C:Addr)(fp:List Addr)(pins:List (Addr × Obj)):Cx :=
 { X with N:=N',s₀:=s3,H₀:=H3,env:=compEnvC scope cl C X.env,outer:=X.stack,ex:=fp,fn:=fun _=>false,pn:=X.pn++pins,xe:=fun _ _=>False }
noncomputable def fY(n:Nat)(caps:List Nat)(σ:St):St:=Jo n none++caps.map fun i=>(σ[i]?).getD none
def rL(n:Nat)(caps:List Nat)(wi:TI)(g:TG)(tc:TT)(te:TE):TE:=fun σ H Q=>wi σ H fun J H1=>∀ D,H1 D=none→∃ W:Nat→Nat→Hp→Prop,(∃ m,W 0 m (upd H1 D (.lst [])))∧∀ i m H,W i m H →
 (J.stop i H∧Q (.ref D) H)∨(J.go i H∧∀ x H',J.yld i H x H'→g x (fY n caps σ) H' fun σ2 H2=>tc σ2 H2 fun b H2'=>if b=true then te σ2 H2' fun v H3=>∃ ys,H3 D=some (.lst ys)∧ys.length<sizeLine∧∃ m',m'<m∧W (i+1) m' (upd H3 D (.lst (ys++[v])))else ∃ m',m'<m∧W (i+1) m' H2')
section
variable {X:Cx} {elt tg iter:Expr} {scope:Scope} {cl:List (Str × Addr)} {tgs cps:List Str} {caps:List Nat} {wi:TI} {g:TG} {tc:TT} {te:TE} {pos:Pos} {ifs:List Expr}
def vJ(s3:Shared)(H3:Hp)(fp:List Addr)(cl:List (Str × Addr))(x:Str)(v:V):Prop :=
 ∃(u:Value) (c:Addr) (o:Obj),o8 v u∧cl.lookup x=some c∧s3.heap.get? c=some o∧o.data = .cell (some u)∧H3 c=none∧c∉fp
theorem Inv.reset{pins pins':List (Addr × Obj)}{σ0 σ':St}{H3 H':Hp}{s3 s':Shared}{fp:List Addr}{C:Addr}(I:Inv (cxF X scope cl (tgs++cps) s3 H3 C fp pins) pins' σ' H' s')
  (hsc:∀ x∈cps,(relabel scope X.env).names.lookup x=some .cell∨(relabel scope X.env).names.lookup x=some .free) (hl:caps.length=cps.length)
  (hc:∀(j:Nat) (x:Str) (v:V),cps[j]? = some x→(caps.map fun i=>(σ0[i]?).getD none)[j]? = some (some v)→vJ s3 H3 fp cl x v) :
  Inv (cxF X scope cl (tgs++cps) s3 H3 C fp pins) pins' (fY tgs.length caps σ0) H' s':=by
 obtain⟨m,hn,_⟩:=I.loc
 refine⟨I.ok,I.os,I.bare,I.base,⟨m,hn,fun i x v e1 e2 e3=>?_⟩,I.cell,I.free,I.freeC,I.pin,I.hok,by simp[fY,cxF,hl]⟩
 have e1:(tgs++cps)[i]? = some x:=e1
 unfold fY at e2
 rw[KD]at e1 e2
 rw[Kk]at e2
 by_cases hi:i<tgs.length
 ·rw[if_pos hi]at e2
  rw[JM]at e2
  split at e2<;>cases e2
 ·rw[if_neg hi]at e1 e2
  obtain⟨u,c,o,r,h1,h2,h3,h4,h5⟩:=hc (i - tgs.length) x v e1 e2
  obtain⟨sl,k⟩:=I.base.any h2 h4 h5
  refine⟨u,r,.inr ⟨?_,c,h1,_,k,h3⟩⟩
  rcases hsc x (JC e1)with z|z
  ·exact .inl z
  ·exact .inr z
theorem je{pins:List (Addr × Obj)}{σ0:St}{σ:St}{H3:Hp}{s3:Shared}{fp:List Addr}{it D C:Addr}{tn:Nat→Heap→Prop}{J:It}{h₁:Heap}{tk:Nat}{m:Str→Option Value}{R:Result→Shared→Prop}{Qd:Hp→Prop}
  (hc:X.calm=true) (hcell:∀ x∈scope.names,x.2 ≠ .cell) (hkind:scope.kind = .function)
  (hcl:∀ x c,cl.lookup x=some c→X.env.cells.lookup x=some c) (hhas:∀ x,(x,NameKind.free)∈scope.names→∃ c,cl.lookup x=some c)
  (hsc:∀ x∈cps,(relabel scope X.env).names.lookup x=some .cell∨(relabel scope X.env).names.lookup x=some .free) (hl:caps.length=cps.length)
  (hcap:∀(j:Nat) (x:Str) (v:V),cps[j]? = some x→(caps.map fun i=>(σ0[i]?).getD none)[j]? = some (some v)→vJ s3 H3 fp cl x v)
  (hg:∀ cl s3 H3 C fp pins,PG (cxF X scope cl (tgs++cps) s3 H3 C fp pins) tg g) (hq:∀ cl s3 H3 C fp pins,az (cxF X scope cl (tgs++cps) s3 H3 C fp pins) ifs tc) (he:∀ cl s3 H3 C fp pins,PE (cxF X scope cl (tgs++cps) s3 H3 C fp pins) elt te)
  (I3:Inv X pins σ H3 s3) (T:jq X.prog X.w X.K tg J fp it tn) (st3:tn 0 s3.heap) (f3:∀ b∈fp,T0 X pins H3 b) (hC:C=s3.heap.objs.size) (hn:h₁.Ns C m) (hk:∀ b o,s3.heap.get? b=some o→h₁.get? b=some o)
  (W:Nat→Nat→Hp→Prop) (m0:Nat) (w0:W 0 m0 H3)
  (turn:∀ i m H,W i m H→(J.stop i H∧Qd H)∨(J.go i H∧∀ x H',J.yld i H x H'→g x (fY tgs.length caps σ0) H' fun σ2 H2=>tc σ2 H2 fun b H2'=>if b=true then te σ2 H2' fun v H3=>∃ ys,H3 D=some (.lst ys)∧ys.length<sizeLine∧∃ m',m'<m∧W (i+1) m' (upd H3 D (.lst (ys++[v])))else ∃ m',m'<m∧W (i+1) m' H2'))
  (hR:∀ s' H' σ',Inv (cxF X scope cl (tgs++cps) s3 H3 C fp pins) [] σ' H' s'→Qd H'→R (.ok .next) s') :
  codeAny (model X.prog X.w) X.A (.compStart (.ListComp elt [⟨tg,iter,ifs,0⟩] scope pos) 0 (.ref it) (.ref D) (compEnvC scope cl C X.env)) R { s3 with heap:=h₁,toks:=tk }:=by
 have lt3:∀ b∈fp,b<s3.heap.objs.size:=fun b hb=>by
  obtain⟨o,e,_⟩:=T.obj 0 _ st3 b hb
  exact Jb e
 have ok':(cxF X scope cl (tgs++cps) s3 H3 C fp pins).Ok:={
  mod:=I3.ok.mod
  kind:=hkind
  glob:=I3.ok.glob
  blt:=I3.ok.blt
  above:=Lo hC.symm
  inj:=fun x y c e e'=>I3.ok.inj x y c (hcl x c e) (hcl y c e')
  has:=fun x h=>by
   rcases h with h|h
   ·exact hhas x (ag h (.inl rfl) hcell)
   ·exact hhas x (ag h (.inr rfl) hcell)
  cab:=fun x c h=>by cases h
  hd:=fun _=>I3.ok.hd hc
  frames:=I3.ok.frames
  stk:=.inl rfl
  exf:=fun b hb=>⟨fun z=>by
   have z':b=C:=z
   have h1:=lt3 b hb
   rw[z',hC]at h1
   exact Kc _ h1,fun x c e=>(f3 b hb).2.2.2.2.1 x c (hcl x c e)⟩
  bs:=fun b o e=>I3.bs b o e
  bsz:=Jk I3.ok.bsz I3.sz
  noex:=fun b o e hb=>by
   obtain⟨_,_,_,q,_⟩:=f3 b hb
   rcases q with q|q
   ·exact I3.ok.noex b o e q
   ·have h1:=Jb e
    exact absurd (IX (IX h1 I3.ok.bsz) q) (Kc _)
  exfs:=fun b hb z=>by
   obtain⟨_,q1,q2,_⟩:=f3 b hb
   rcases Jj.mp (I3.stkSub b z)with y|y
   ·exact q1 y
   ·exact q2 y
  funs:=I3.stack
  frf:=I3.stkFree }
 have J0:Inv (cxF X scope cl (tgs++cps) s3 H3 C fp pins) [] (Jo (tgs++cps).length none) H3 { s3 with heap:=h₁,toks:=tk }:={
  ok:=ok'
  os:=rfl
  bare:=I3.bare
  base:=Un.kept hk
  loc:=⟨m,hn,fun i x v _ e _=>by
   rw[JM]at e
   split at e<;>cases e⟩
  cell:=fun x c e=>by
   obtain⟨v,o,ho,hd⟩:=I3.cell x c (hcl x c e)
   exact⟨v,o,hk c o ho,hd⟩
  free:=I3.hok.fresh (Lo hC.symm)
  freeC:=fun x c e=>I3.freeC x c (hcl x c e)
  pin:=fun p hp=>by
   have hp':p∈X.pn++pins:=by simpa[cxF]using hp
   obtain⟨a1,a2,a3,a4,a5⟩:=I3.pin p hp'
   refine⟨hk _ _ a1,a2,fun z=>?_,fun z=>?_,a5⟩
   ·have z':p.1=C:=z
    have h1:=Jb a1
    rw[z',hC]at h1
    exact Kc _ h1
   ·rcases Jj.mp (I3.stkSub _ z)with y|y
    ·exact a3 y
    ·exact a4 y
  hok:=I3.hok.kept hk
  len:=by simp[cxF] }
 have stat:∀{H':Hp},(∀ b∈fp,H' b=none)→∀ b∈fp,T0 (cxF X scope cl (tgs++cps) s3 H3 C fp pins) [] H' b:=fun hn b hb=>by
  obtain⟨_,_,_,_,_,q⟩:=f3 b hb
  exact⟨hn b hb,(ok'.exf b hb).1,ok'.exfs b hb,.inl hb,(ok'.exf b hb).2,fun p hp=>q p (by simpa[cxF]using hp)⟩
 have loop:codeAny (model X.prog X.w) X.A (.compLoop (.ListComp elt [⟨tg,iter,ifs,0⟩] scope pos) 0 (.ref it) (.ref D) (compEnvC scope cl C X.env)) R { s3 with heap:=h₁,toks:=tk }:=by
  refine fX (fun n s'=>∃ i σ' H',Inv (cxF X scope cl (tgs++cps) s3 H3 C fp pins) [] σ' H' s'∧tn i s'.heap∧(∀ b∈fp,H' b=none)∧W i n H') ?_ m0
   ⟨0,_,H3,J0,T.keep _ _ _ st3 fun b hb o e=>hk b o e,fun b hb=>(f3 b hb).1,w0⟩
  rintro n s4 ⟨i,σ4,H4,I4,st4,fr4,w4⟩
  rcases turn i n H4 w4 with⟨stop,qn⟩|⟨go,step⟩
  ·refine thn (T.done (cxF X scope cl (tgs++cps) s3 H3 C fp pins) rfl rfl rfl hc i [] s4 σ4 H4 _ I4 (stat fr4) st4 stop) fun r s5 zz=>?_
   obtain⟨hr,I5⟩:=zz
   subst hr
   exact hR s5 H4 σ4 I5 qn
  ·refine thn (T.item (cxF X scope cl (tgs++cps) s3 H3 C fp pins) rfl rfl rfl hc i [] s4 σ4 H4 _ I4 (stat fr4) st4 go) fun r s5 zz=>?_
   obtain⟨u,hr,h5⟩:=zz
   subst hr
   refine thn h5 fun _ s6 zz=>?_
   obtain⟨x,H6,I6,r6,y6,st6,fr6⟩:=zz
   have I6w:=I6.reset hsc hl hcap
   have I6':=I6w.pinned (stat fr6) (T.obj _ _ st6)
   refine wpAny_mono (hg cl s3 H3 C fp pins _ s6 _ H6 x u _ I6' r6 (step x H6 y6)) (fun _ s7 ⟨σ7,H7,I7,q7⟩=>?_) fun _ _ z=>z.elim
   refine wpAny_mono (hq cl s3 H3 C fp pins _ s7 σ7 H7 _ I7 q7) (fun b s7' ⟨H7',I7',q7'⟩=>?_) fun _ _ z=>z.elim
   cases b with
   | false =>
    obtain⟨m',hm,w8⟩:=q7'
    refine⟨m',hm,i+1,σ7,H7',I7'.unpinned,T.keep _ _ _ st6 fun b hb o e=>(I7'.pin (b,o) (Jn _ (Jn _ (C6 hb e)))).1,fun b hb=>?_,w8⟩
    obtain⟨o,e,d⟩:=T.obj _ _ st6 b hb
    exact(I7'.pin (b,o) (Jn _ (Jn _ (C6 hb e)))).2.1
   | true =>
    refine wpAny_mono (he cl s3 H3 C fp pins _ s7' σ7 H7' _ I7' q7') (fun v s8 ⟨y,H8,I8,r8,q8⟩=>?_) fun _ _ z=>z.elim
    obtain⟨ys,hy,hz,m',hm,w8⟩:=q8
    refine wpAny_mono (ee (X:=cxF X scope cl (tgs++cps) s3 H3 C fp pins) _ s8 σ7 H8 (.ref D) [y] (.ref D) [v] (fun _ H9=>W (i+1) m' H9) I8 rfl (.cons r8 .nil) ⟨D,ys,y,rfl,rfl,hy,hz,w8⟩) (fun _ s9 ⟨_,H9,I9,_,w9⟩=>?_) fun _ _ z=>z.elim
    refine⟨m',hm,i+1,σ7,H9,I9.unpinned,T.keep _ _ _ st6 fun b hb o e=>(I9.pin (b,o) (Jn _ (Jn _ (C6 hb e)))).1,fun b hb=>?_,w9⟩
    obtain⟨o,e,d⟩:=T.obj _ _ st6 b hb
    exact(I9.pin (b,o) (Jn _ (Jn _ (C6 hb e)))).2.1
 exact codeAny_compStart_list loop (T.self _ 0 _ _ _ (T.keep _ _ _ st3 fun b hb o e=>hk b o e) loop)
theorem pL(hc:X.calm=true)(hcell:∀ x∈scope.names,x.2 ≠ .cell)(hkind:scope.kind = .function)(hnames:∀ x∈scope.names,x.2 = .local→scope.names.lookup x.1=some .local)
  (hfr:∀ x∈scope.names,x.2 = .free→x.1∈cps) (hN:caps.map (fun i=>X.N[i]?)=cps.map some) (hX:∀ x∈cps,X.env.scope.names.lookup x=some .cell∧scope.names.lookup x=some .free)
  (hsc:∀ x∈cps,(relabel scope X.env).names.lookup x=some .cell∨(relabel scope X.env).names.lookup x=some .free)
  (hi:PI X tg iter wi) (hg:∀ cl s3 H3 C fp pins,PG (cxF X scope cl (tgs++cps) s3 H3 C fp pins) tg g) (hq:∀ cl s3 H3 C fp pins,az (cxF X scope cl (tgs++cps) s3 H3 C fp pins) ifs tc) (he:∀ cl s3 H3 C fp pins,PE (cxF X scope cl (tgs++cps) s3 H3 C fp pins) elt te)
  (hs:∀ x,foldedSetIterable iter X.env x=pure x) {use:Option (Value→Sem Unit)} {Qf:Value→Shared→Prop} {pins:List (Addr × Obj)} {s:Shared} {σ:St} {H:Hp} {Q:VK} (I:Inv X pins σ H s) (h:rL tgs.length caps wi g tc te σ H Q)
  (hU:∀(D C:Addr) (s':Shared) (H4:Hp) (m4:Str→Option Value),s'.heap.Ns C m4→T0 X pins H4 C→(∀ h',Heap.SameBut C s'.heap h'→Inv X pins σ H4 { s' with heap:=h' })→Q (.ref D) H4→compPost (model X.prog X.w) X.A X.xe use Qf (.ref D) C (.ok .next) s') :
  wpAny (model X.prog X.w) X.A (comprehension (.ListComp elt [⟨tg,iter,ifs,0⟩] scope pos) scope X.env (firstIterPos [⟨tg,iter,ifs,0⟩] pos) (newList []) false (eval iter X.env) use) Qf X.xe s:=by
 have hl:caps.length=cps.length:=by
  have:=congrArg Kj hN
  simpa using this
 have hcells:∀ n,(n,NameKind.free)∈scope.names→∃ c,X.env.cells.lookup n=some c:=fun n hn=>I.ok.has n (.inl (hX n (hfr _ hn rfl)).1)
 refine wpAny_comprehension_free (use:=use) rfl hs (jg hcells) hkind hnames (thn (hi pins s σ H _ I h) fun v s1 h1=>thn h1 fun itv s2 h2=>?_)
 obtain⟨it,fp,tn,J,H',e,I2,T,st2,f2,hW⟩:=h2
 subst e
 refine wpAny_newObj_type (hd:=by size_fits) (wpAny_newFunctionEnv hcell (by intro y hy;simp at hy) (fun h₁ hns₁ hsb₁=>?_) hkind)
 dsimp only at hns₁ hsb₁ ⊢
 have I3:=I2.lnew (ys:=[]) (its:=[]) (t':=s2.toks) .nil (Jx _)
 obtain⟨W,⟨m0,w0⟩,turn⟩:=hW _ I2.fresh
 have st3:tn 0 (s2.heap.push { cls:=.type "list",data:=.seq ([]:List Value).toArray }):=T.keep _ _ _ st2 fun b hb o e=>IV _ e
 have f3:∀ b∈fp,T0 X pins (upd H' s2.heap.objs.size (.lst [])) b:=fun b hb=>by
  obtain⟨q0,q⟩:=f2 b hb
  obtain⟨o,e,_⟩:=T.obj 0 _ st2 b hb
  exact⟨by rw[i3 (Jr (Jb e))];exact q0,q⟩
 have old:∀ b o,(s2.heap.push { cls:=.type "list",data:=.seq ([]:List Value).toArray }).get? b=some o→h₁.get? b=some o:=fun b o e =>
  hsb₁.extBut b o (Jr (Jb e)) (IV _ e)
 have hcap:∀(j:Nat) (x:Str) (v:V),cps[j]? = some x→(caps.map fun i=>(σ[i]?).getD none)[j]? = some (some v) →
   vJ { s2 with heap:=s2.heap.push { cls:=.type "list",data:=.seq ([]:List Value).toArray },toks:=s2.toks } (upd H' s2.heap.objs.size (.lst [])) fp (O6 X.env.cells scope.names []) x v:=fun j x v ex ev=>by
  have hx:=hX x (JC ex)
  have hj:(caps.map (fun i=>X.N[i]?))[j]? = some (some x):=by rw[hN,Ju,ex];rfl
  rw[Ju]at ev hj
  cases hcj:caps[j]? with
  | none=>rw[hcj]at ev;cases ev
  | some i =>
   rw[hcj]at ev hj
   have ev':(σ[i]?).getD none=some v:=by simpa using ev
   have hj':X.N[i]? = some x:=by simpa using hj
   have es:σ[i]? = some (some v):=by
    cases q:σ[i]? with
    | none=>rw[q]at ev';cases ev'
    | some w=>rw[q]at ev';rw[show w=some v by simpa using ev']
   obtain⟨m,hn,hlook⟩:=I3.loc
   obtain⟨u,ru,lk⟩:=hlook i x v hj' es (.inr (.inl hx.1))
   rcases lk with⟨k1,_⟩|⟨_,c,hc1,o,ho,hd⟩
   ·have k1':X.env.scope.names.lookup x=some .local:=k1
    rw[hx.1]at k1';cases k1'
   ·have hmem:(x,NameKind.free)∈scope.names:=by
     have hlk:=hx.2
     have go:∀ l:List (Str × NameKind),l.lookup x=some .free→(x,NameKind.free)∈l:=by
      intro l
      induction l with
      | nil=>intro z;cases z
      | cons p r ih =>
       intro z
       obtain⟨n,k⟩:=p
       rw[Kp]at z
       split at z
       ·rename_i q;have q':x=n:=by simpa using q
        have z':k = .free:=by simpa using z
        rw[q',z'];exact IZ
       ·exact Jc _ (ih z)
     exact go _ hlk
    obtain⟨c',hc'⟩:=Q0 (cells:=X.env.cells) scope.names [] (.inl hmem)
    have:=M9 scope.names [] hcells (fun y d z=>by cases z) hc'
    rw[hc1]at this
    cases this
    refine⟨u,c,o,ru,hc',ho,hd,I3.freeC x c hc1,fun hb=>?_⟩
    exact(f3 c hb).2.2.2.2.1 x c hc1 rfl
 refine je (s3:={ s2 with heap:=s2.heap.push { cls:=.type "list",data:=.seq ([]:List Value).toArray },toks:=s2.toks }) (Qd:=fun H=>Q (.ref s2.heap.objs.size) H) (tk:=s2.toks+([]:List (Str × Value)).length) (cl:=O6 X.env.cells scope.names [])
  hc hcell hkind (fun x c z=>M9 scope.names [] hcells (fun y d z=>by cases z) z) (fun x z=>Q0 scope.names [] (.inl z)) hsc hl hcap hg hq he I3 T st3 f3 rfl hns₁ old W m0 w0 turn fun s' H4 σ4 I4 q4=>?_
 obtain⟨m4,hn4,_⟩:=I4.loc
 have hCfree:H4 _=none:=I4.free
 have nC:∀ b u,H4 b=some u→b≠(s2.heap.push { cls:=.type "list",data:=.seq ([]:List Value).toArray }).objs.size:=fun b u e z=>by
  rw[z]at e
  have:=e.symm.trans hCfree
  cases this
 have lt:∀ b o,(s2.heap.push { cls:=.type "list",data:=.seq ([]:List Value).toArray }).get? b=some o→b≠(s2.heap.push { cls:=.type "list",data:=.seq ([]:List Value).toArray }).objs.size:=fun b o e=>Jr (Jb e)
 have ub:=I4.base
 have fC:T0 X pins H4 (s2.heap.push { cls:=.type "list",data:=.seq ([]:List Value).toArray }).objs.size:=I3.fpOk (Ja _) hCfree
 refine hU _ _ s' H4 m4 hn4 fC (fun h' hsb=>?_) q4
 have un:Un (frs X.stack) fp (upd H' s2.heap.objs.size (.lst [])) H4 (s2.heap.push { cls:=.type "list",data:=.seq ([]:List Value).toArray }) h':={
  keep:=fun b o e n x y=>(hsb.2 b (lt b o e)).trans (ub.keep b o e n x y)
  slot:=fun b o e n x y=>let ⟨q,z⟩:=ub.slot b o e n x y;⟨q,(hsb.2 b (lt b o e)).trans z⟩
  free:=ub.free
  there:=fun b o e y=>let ⟨q,z⟩:=ub.there b o e y;⟨q,(hsb.2 b (lt b o e)).trans z⟩
  tups:=ub.tups
  frzs:=ub.frzs
  tbls:=ub.tbls }
 refine I3.call' (s':={ s' with heap:=h' }) I4.os un (fun b u e=>?_) I4.bare fun b hb=>?_
 ·refine(I4.hok b u e).stay (fun c v hcv q=>(hsb.2 c ?_).trans q) (fun _ q=>q) fun _ _ q=>q
  rcases hcv with z|z
  ·rw[z];exact nC b u e
  ·exact nC c _ z
 ·obtain⟨q0,q1,q2,q3,q4,q5⟩:=f3 b hb
  exact⟨q3,q1,q4,q5⟩
theorem tE(hc:X.calm=true)(hcell:∀ x∈scope.names,x.2 ≠ .cell)(hkind:scope.kind = .function)(hnames:∀ x∈scope.names,x.2 = .local→scope.names.lookup x.1=some .local)
  (hfr:∀ x∈scope.names,x.2 = .free→x.1∈cps) (hN:caps.map (fun i=>X.N[i]?)=cps.map some) (hX:∀ x∈cps,X.env.scope.names.lookup x=some .cell∧scope.names.lookup x=some .free)
  (hsc:∀ x∈cps,(relabel scope X.env).names.lookup x=some .cell∨(relabel scope X.env).names.lookup x=some .free)
  (hi:PI X tg iter wi) (hg:∀ cl s3 H3 C fp pins,PG (cxF X scope cl (tgs++cps) s3 H3 C fp pins) tg g) (hq:∀ cl s3 H3 C fp pins,az (cxF X scope cl (tgs++cps) s3 H3 C fp pins) ifs tc) (he:∀ cl s3 H3 C fp pins,PE (cxF X scope cl (tgs++cps) s3 H3 C fp pins) elt te)
  (hs:∀ x,foldedSetIterable iter X.env x=pure x:=by intro _;rfl):PE X (.ListComp elt [⟨tg,iter,ifs,0⟩] scope pos) (rL tgs.length caps wi g tc te):=by
 intro pins s σ H Q I h
 rw[eval_ListComp]
 exact pL hc hcell hkind hnames hfr hN hX hsc hi hg hq he hs I h fun D C s' H4 m4 hn4 fC hI q4=>⟨m4,hn4,fun h' hsb=>⟨.ref D,H4,hI h' hsb,rfl,q4⟩⟩
end
end L2
namespace L2
open PySem
noncomputable def SI:Bool→Heap→Addr→Addr→Nat→Prop
 | true,h,it,a,i=>h.IsListIter it a i
 | false,h,it,a,i=>h.IsTupleIter it a i
noncomputable def SS:Bool→Heap→Addr→Array Value→Prop
 | true,h,a,xs=>h.IsList a xs
 | false,h,a,xs=>h.IsTuple a xs
theorem SI.at{k:Bool}{h h':Heap}{it a:Addr}{i:Nat}(x:SI k h it a i)(f:∀ o,h.get? it=some o→h'.get? it=some o):SI k h' it a i:=by
 cases k<;>(obtain⟨o,e,r⟩:=x;exact⟨o,f o e,r⟩)
theorem SS.at{k:Bool}{h h':Heap}{a:Addr}{xs:Array Value}(x:SS k h a xs)(f:∀ o,h.get? a=some o→h'.get? a=some o):SS k h' a xs:=by
 cases k<;>(obtain⟨o,e,r⟩:=x;exact⟨o,f o e,r⟩)
theorem SI.obj{k:Bool}{h:Heap}{it a:Addr}{i:Nat}(x:SI k h it a i):∃ o,h.get? it=some o∧∀ v,o.data ≠ .cell v:=by
 cases k<;>(obtain⟨o,e,c,d⟩:=x;exact⟨o,e,fun v z=>by rw[d]at z;cases z⟩)
theorem SS.obj{k:Bool}{h:Heap}{a:Addr}{xs:Array Value}(x:SS k h a xs):∃ o,h.get? a=some o:=by
 cases k<;>(obtain⟨o,e,_⟩:=x;exact⟨o,e⟩)
section
variable {prog:Program} {w:World} {A:Around} {E:Value→Shared→Prop} {s:Shared}
theorem oG{p t:Addr}{n:Nat}{xs:Array Value}{v:Value}{Q:Value→Shared→Prop}(hp:s.heap.IsTupleIter p t n)(ht:s.heap.IsTuple t xs)(hv:xs[n]? = some v)
  (q:∀ h',h'.IsTupleIter p t (n+1)→Heap.SameBut p s.heap h'→Q v { s with heap:=h' }):wpAny (model prog w) A (Builtin.SmallTypes.nextOf (.ref p)) Q E s:=by
 obtain⟨ob,e1,e2,e3⟩:=id hp
 obtain⟨ot,f1,_,cap,f2⟩:=ht
 unfold Builtin.SmallTypes.nextOf
 refine IU (wpAny_callSpecial?_slot (name:=Str.ofString "__next__") hp.typeIs F.slot_tuple_iterator_next (wpAny_call_entry F.slot_tuple_iterator_next hp.typeIs F.entry_tuple_iterator_next ?_ (F.args_tuple_iterator_next_1 _)))
 show wpAny _ _ (field (.ref p) 0 >>= _) _ _ s
 refine IU (wpAny_field e1 e3 (x:=.ref t) rfl ?_)
 show wpAny _ _ (if (Value.ref t == Value.none)=true then _ else _) _ _ s
 rw[if_neg (fun z:(Value.ref t == Value.none)=true=>nomatch z)]
 show wpAny _ _ (field (.ref p) 1 >>= _) _ _ s
 refine IU (wpAny_field e1 e3 (x:=.int n 0) rfl ?_)
 show wpAny _ _ (seqItems? (.ref t) >>= _) _ _ s
 refine IU (wpAny_seqItems f1 f2 ?_)
 simp only[Ka,hv]
 refine IU (wpAny_setField e1 e3 (by simp) (Jf ⟨v,rfl,Jf (q _ ⟨_,Lq _ e1 (Obj.isFreed_of_fields (Obj.data_mapFields e3 _)),(Obj.cls_mapFields ..).trans e2,?_⟩ (Heap.SameBut.update ..))⟩))
 rw[Obj.data_mapFields e3];simp[rawInt]
theorem rE{p t:Addr}{n:Nat}{xs:Array Value}{Q:Value→Shared→Prop}(hA:A.handled=none)(hp:s.heap.IsTupleIter p t n)(ht:s.heap.IsTuple t xs)(hv:xs[n]? = none)
  (q:∀ h' e,Heap.ExtBut p s.heap h'→(∃ o,h'.get? e=some o∧o.cls = .type "StopIteration")→E (.ref e) { s with heap:=h' }):wpAny (model prog w) A (Builtin.SmallTypes.nextOf (.ref p)) Q E s:=by
 obtain⟨ob,e1,e2,e3⟩:=id hp
 obtain⟨ot,f1,_,cap,f2⟩:=ht
 unfold Builtin.SmallTypes.nextOf
 refine IU (wpAny_callSpecial?_slot (name:=Str.ofString "__next__") hp.typeIs F.slot_tuple_iterator_next (wpAny_call_entry F.slot_tuple_iterator_next hp.typeIs F.entry_tuple_iterator_next ?_ (F.args_tuple_iterator_next_1 _)))
 show wpAny _ _ (field (.ref p) 0 >>= _) _ _ s
 refine IU (wpAny_field e1 e3 (x:=.ref t) rfl ?_)
 show wpAny _ _ (if (Value.ref t == Value.none)=true then _ else _) _ _ s
 rw[if_neg (fun z:(Value.ref t == Value.none)=true=>nomatch z)]
 show wpAny _ _ (field (.ref p) 1 >>= _) _ _ s
 refine IU (wpAny_field e1 e3 (x:=.int n 0) rfl ?_)
 show wpAny _ _ (seqItems? (.ref t) >>= _) _ _ s
 refine IU (wpAny_seqItems f1 f2 ?_)
 simp only[Ka,hv]
 refine IU (wpAny_rule (IU (wpAny_setField e1 e3 (by simp) ?_)))
 show wpAny _ _ (newExc (.type "StopIteration") [] >>= _) _ _ _
 refine IU ?_;simp only[newExc,newTuple]
 refine IU (wpAny_newObj_type ?_ (by size_fits));refine IU (m:=firstArgMember _ _) (wpAny_of_eq (a:=Value.none) (by first|rfl|(simp only[firstArgMember];rfl)) ?_)
 refine wpAny_newObj_type ?_ (by size_fits);simp only[raiseNew];refine IU (wpAny_handled ?_)
 first|rw[show A.in1.handled=none from hA]|rw[hA]
 refine IU (Jf (wpAny_throw (q _ _ (((Heap.SameBut.update ..).extBut.push _).push _) ⟨_,Je _ rfl,rfl⟩)))
theorem eL{k:Bool}{p a:Addr}{n:Nat}{xs:Array Value}{v:Value}{Q:Value→Shared→Prop}(hp:SI k s.heap p a n)(ha:SS k s.heap a xs)(hv:xs[n]? = some v)
  (q:∀ h',SI k h' p a (n+1)→Heap.SameBut p s.heap h'→Q v { s with heap:=h' }):wpAny (model prog w) A (Builtin.SmallTypes.nextOf (.ref p)) Q E s:=by
 cases k with
 | true=>exact wpAny_nextOf_list_item hp ha hv q
 | false=>exact oG hp ha hv q
theorem rW{k:Bool}{p a:Addr}{n:Nat}{xs:Array Value}{Q:Value→Shared→Prop}(hA:A.handled=none)(hp:SI k s.heap p a n)(ha:SS k s.heap a xs)(hv:xs[n]? = none)
  (q:∀ h' e,Heap.ExtBut p s.heap h'→(∃ o,h'.get? e=some o∧o.cls = .type "StopIteration")→E (.ref e) { s with heap:=h' }):wpAny (model prog w) A (Builtin.SmallTypes.nextOf (.ref p)) Q E s:=by
 cases k with
 | true=>exact wpAny_nextOf_list_end hA hp ha hv q
 | false=>exact rE hA hp ha hv q
theorem SI.but{k:Bool}{h h':Heap}{it a b:Addr}{i:Nat}(x:SI k h it a i)(e:Heap.ExtBut b h h')(n:it≠b):SI k h' it a i:=x.at fun o z=>e it o n z
theorem SS.but{k:Bool}{h h':Heap}{a b:Addr}{xs:Array Value}(x:SS k h a xs)(e:Heap.ExtBut b h h')(n:a≠b):SS k h' a xs:=x.at fun o z=>e a o n z
theorem vO{z TI TO p1 p2 l1 l2:Addr}{c1 c2:Bool}{n1 n2:Nat}{xs ys:Array Value}{v1 v2 u1 u2:Value}{Q:Option Value→Shared→Prop}(D:ZipApart z TI TO p1 p2 l1 l2)
  (iz:IsZip s.heap z TI TO .none) (iI:IsPair s.heap TI (.ref p1) (.ref p2)) (iO:IsPair s.heap TO u1 u2) (g1:SI c1 s.heap p1 l1 n1) (g2:SI c2 s.heap p2 l2 n2) (m1:SS c1 s.heap l1 xs) (m2:SS c2 s.heap l2 ys) (w1:xs[n1]? = some v1) (w2:ys[n2]? = some v2)
  (q:∀ h',IsZip h' z TI TO (rawInt s.heap.objs.size)→IsPair h' TO v1 v2→SI c1 h' p1 l1 (n1+1)→SI c2 h' p2 l2 (n2+1)→IsPair h' s.heap.objs.size v1 v2→h'.objs.size=s.heap.objs.size+1 →
   (∀ b o,b≠z→b≠TO→b≠p1→b≠p2→s.heap.get? b=some o→h'.get? b=some o)→Q (some (.ref s.heap.objs.size)) { s with heap:=h' }):wpAny (model prog w) A (pyNext (.ref z)) Q E s:=by
 have ty:s.TypeIs (.ref z) "zip" := ⟨_,iz,rfl⟩
 unfold pyNext
 refine IU (wpAny_attempt (wpAny_callSpecial?_slot (name:=Str.ofString "__next__") ty F.slot_zip_next (wpAny_call_entry F.slot_zip_next ty F.entry_zip_next ?_ (F.args_zip_next_1 _))))
 show wpAny _ _ (field (.ref z) 2 >>= _) _ _ _
 refine IU (wpAny_field iz rfl (x:=.bool false) rfl ?_)
 show wpAny _ _ (field (.ref z) 3 >>= _) _ _ _
 refine IU (wpAny_field iz rfl (x:=.ref TI) rfl (IU (wpAny_seqItems iI rfl ?_)))
 show wpAny _ _ (Builtin.SmallTypes.ownedTupleIsFree (.ref z) >>= _) _ _ _
 refine IU ?_;unfold Builtin.SmallTypes.ownedTupleIsFree
 refine IU (wpAny_field iz rfl (x:=.none) rfl (Jf ?_));simp only[if_true]
 refine IU (wpAny_rule (IU (wpAny_field iz rfl (x:=.ref TO) rfl (IU (wpAny_setField_rec iz (by simp) fun ha za sa=>?_)))))
 replace za:IsZip ha z TI TO .ellipsis:=za
 refine IU ?_;simp only[Md,Mq,Lu,My]
 refine IU (IU (wpAny_onRaise ?_))
 show wpAny _ _ (Builtin.SmallTypes.nextOf (.ref p1) >>= _) _ _ _
 refine IU (eL (g1.but sa.extBut D.i1z) (m1.but sa.extBut D.l1z) w1 fun hb gb sb=>Jf ?_)
 have oB:IsPair hb TO u1 u2:=sb.extBut _ _ D.TOi1 (sa.extBut _ _ D.TOz iO)
 refine IU (wpAny_seqItems oB rfl (IU (wpAny_updateSeq_pair oB fun hc oC sc=>?_)))
 replace oC:IsPair hc TO v1 u2:=oC
 refine IU (wpAny_letGo (Jf (IU (IU (wpAny_onRaise ?_)))))
 show wpAny _ _ (Builtin.SmallTypes.nextOf (.ref p2) >>= _) _ _ _
 refine IU (eL (((g2.but sa.extBut D.i2z).but sb.extBut D.i12.symm).but sc.extBut D.TOi2.symm) (((m2.but sa.extBut D.l2z).but sb.extBut D.l2i1).but sc.extBut D.l2TO) w2 fun hd gd sd=>Jf ?_)
 have oD:IsPair hd TO v1 u2:=sd.extBut _ _ D.TOi2 oC
 refine IU (wpAny_seqItems oD rfl (IU (wpAny_updateSeq_pair oD fun he oE se=>?_)))
 replace oE:IsPair he TO v1 v2:=oE
 refine IU (wpAny_letGo (Jf (Jf (IU (wpAny_seqItems oE rfl (IU (wpAny_newTuple ?_)))))))
 have zs:he.objs.size=s.heap.objs.size:=by rw[se.1,sd.1,sc.1,sb.1,sa.1]
 have zE:IsZip he z TI TO .ellipsis:=se.extBut _ _ D.TOz.symm (sd.extBut _ _ D.i2z.symm (sc.extBut _ _ D.TOz.symm (sb.extBut _ _ D.i1z.symm za)))
 have kE:∀ b o,b≠z→b≠TO→b≠p1→b≠p2→s.heap.get? b=some o→he.get? b=some o:=fun b o b1 b2 b3 b4 e=>se.extBut _ _ b2 (sd.extBut _ _ b4 (sc.extBut _ _ b2 (sb.extBut _ _ b3 (sa.extBut _ _ b1 e))))
 have gE1:SI c1 he p1 l1 (n1+1):=((gb.but sc.extBut D.TOi1.symm).but sd.extBut D.i12).but se.extBut D.TOi1.symm
 have gE2:SI c2 he p2 l2 (n2+1):=gd.but se.extBut D.TOi2.symm
 have ltz:z<he.objs.size:=Jb zE
 show wpAny _ _ (Builtin.SmallTypes.ownedTupleHandOut (.ref z) (.ref he.objs.size) >>= _) _ _ _
 refine IU ?_;unfold Builtin.SmallTypes.ownedTupleHandOut
 refine IU (wpAny_setField_rec (IV _ zE) (by simp) fun hf zf sf=>?_)
 replace zf:IsZip hf z TI TO (rawInt he.objs.size):=zf
 refine wpAny_setField_rec zf (by simp) fun hg zg sg=>?_
 replace zg:IsZip hg z TI TO (rawInt he.objs.size):=zg
 have lift:∀ b o,b≠z→he.get? b=some o→hg.get? b=some o:=fun b o b1 e=>sg.extBut _ _ b1 (sf.extBut _ _ b1 (IV _ e))
 have tG:IsPair hg he.objs.size v1 v2:=sg.extBut _ _ (Ky ltz) (sf.extBut _ _ (Ky ltz) (Je _ rfl))
 have zz:hg.objs.size=he.objs.size+1:=by rw[sg.1,sf.1,JR]
 rw[zs]at zg tG zz
 refine Jf ⟨_,rfl,Jf ?_⟩
 show Q (some (.ref he.objs.size)) _
 rw[zs]
 exact q hg zg (lift _ _ D.TOz oE) (gE1.at fun o e=>lift _ o D.i1z e) (gE2.at fun o e=>lift _ o D.i2z e) tG zz fun b o b1 b2 b3 b4 e=>lift b o b1 (kE b o b1 b2 b3 b4 e)
theorem Be{z TI TO p1 p2 l1 l2:Addr}{c1 c2:Bool}{n1 n2:Nat}{xs ys:Array Value}{u1 u2:Value}{Q:Option Value→Shared→Prop}(hA:A.handled=none)(D:ZipApart z TI TO p1 p2 l1 l2)
  (iz:IsZip s.heap z TI TO .none) (iI:IsPair s.heap TI (.ref p1) (.ref p2)) (iO:IsPair s.heap TO u1 u2) (g1:SI c1 s.heap p1 l1 n1) (g2:SI c2 s.heap p2 l2 n2) (m1:SS c1 s.heap l1 xs) (m2:SS c2 s.heap l2 ys) (fin:xs[n1]? = none∨ys[n2]? = none)
  (q:∀ h',(∀ b o,b≠z→b≠TO→b≠p1→b≠p2→s.heap.get? b=some o→h'.get? b=some o)→Q none { s with heap:=h' }):wpAny (model prog w) A (pyNext (.ref z)) Q E s:=by
 have ty:s.TypeIs (.ref z) "zip" := ⟨_,iz,rfl⟩
 unfold pyNext
 have out:∀(h':Heap) (e:Addr),(∀ b o,b≠z→b≠TO→b≠p1→b≠p2→s.heap.get? b=some o→h'.get? b=some o)→(∃ o,h'.get? e=some o∧o.cls = .type "StopIteration") →
   wpAny (model prog w) A (do if ← isInstance (.ref e) (.type "StopIteration")then pure none else throw (.ref e):Sem (Option Value)) Q E { s with heap:=h' }:=fun h' e k ⟨o,e1,e2⟩ =>
  IU (wpAny_isInstance (T := "StopIteration") (b:=true) ⟨o,e1,e2⟩ isSubtype_stop (Jf (q h' k)))
 refine IU (wpAny_attempt (wpAny_callSpecial?_slot (name:=Str.ofString "__next__") ty F.slot_zip_next (wpAny_call_entry F.slot_zip_next ty F.entry_zip_next ?_ (F.args_zip_next_1 _))))
 show wpAny _ _ (field (.ref z) 2 >>= _) _ _ _
 refine IU (wpAny_field iz rfl (x:=.bool false) rfl ?_)
 show wpAny _ _ (field (.ref z) 3 >>= _) _ _ _
 refine IU (wpAny_field iz rfl (x:=.ref TI) rfl (IU (wpAny_seqItems iI rfl ?_)))
 show wpAny _ _ (Builtin.SmallTypes.ownedTupleIsFree (.ref z) >>= _) _ _ _
 refine IU ?_;unfold Builtin.SmallTypes.ownedTupleIsFree
 refine IU (wpAny_field iz rfl (x:=.none) rfl (Jf ?_));simp only[if_true]
 refine IU (wpAny_rule (IU (wpAny_field iz rfl (x:=.ref TO) rfl (IU (wpAny_setField_rec iz (by simp) fun ha za sa=>?_)))))
 replace za:IsZip ha z TI TO .ellipsis:=za
 refine IU ?_;simp only[Md,Mq,Lu,My]
 refine IU (IU (wpAny_onRaise ?_))
 show wpAny _ _ (Builtin.SmallTypes.nextOf (.ref p1) >>= _) _ _ _
 cases w1:xs[n1]? with
 | none =>
  refine IU (rW hA (g1.but sa.extBut D.i1z) (m1.but sa.extBut D.l1z) w1 fun hb e sb zz=>?_)
  obtain⟨oe,oe1,oe2⟩:=zz
  have zb:IsZip hb z TI TO .ellipsis:=sb _ _ D.i1z.symm za
  have nz:e≠z:=fun y=>by subst y;rw[zb]at oe1;cases oe1;simp at oe2
  refine wpAny_setField_rec zb (by simp) fun hc _ sc=>out hc e (fun b o b1 _ b3 _ y=>sc.extBut _ _ b1 (sb _ _ b3 (sa.extBut _ _ b1 y))) ⟨oe,sc.extBut _ _ nz oe1,oe2⟩
 | some v1 =>
  have w2:ys[n2]? = none:=fin.resolve_left (by rw[w1];exact fun y=>nomatch y)
  refine IU (eL (g1.but sa.extBut D.i1z) (m1.but sa.extBut D.l1z) w1 fun hb gb sb=>Jf ?_)
  have oB:IsPair hb TO u1 u2:=sb.extBut _ _ D.TOi1 (sa.extBut _ _ D.TOz iO)
  refine IU (wpAny_seqItems oB rfl (IU (wpAny_updateSeq_pair oB fun hc oC sc=>?_)))
  refine IU (wpAny_letGo (Jf (IU (IU (wpAny_onRaise ?_)))))
  show wpAny _ _ (Builtin.SmallTypes.nextOf (.ref p2) >>= _) _ _ _
  refine IU (rW hA (((g2.but sa.extBut D.i2z).but sb.extBut D.i12.symm).but sc.extBut D.TOi2.symm) (((m2.but sa.extBut D.l2z).but sb.extBut D.l2i1).but sc.extBut D.l2TO) w2 fun hd e sd zz=>?_)
  obtain⟨oe,oe1,oe2⟩:=zz
  have zd:IsZip hd z TI TO .ellipsis:=sd _ _ D.i2z.symm (sc.extBut _ _ D.TOz.symm (sb.extBut _ _ D.i1z.symm za))
  have nz:e≠z:=fun y=>by subst y;rw[zd]at oe1;cases oe1;simp at oe2
  refine wpAny_setField_rec zd (by simp) fun he _ se=>out he e (fun b o b1 b2 b3 b4 y=>se.extBut _ _ b1 (sd _ _ b4 (sc.extBut _ _ b2 (sb.extBut _ _ b3 (sa.extBut _ _ b1 y))))) ⟨oe,se.extBut _ _ nz oe1,oe2⟩
end
noncomputable abbrev itO(k:Bool)(a:Addr):Obj:={ cls:=.type (if k then "list_iterator" else "tuple_iterator"),data:=.fields #[.ref a,.int 0 0] }
noncomputable abbrev zA(k1:Bool)(h:Heap)(l1:Addr):Heap:=h.push (itO k1 l1)
noncomputable abbrev zB(k1 k2:Bool)(h:Heap)(l1 l2:Addr):Heap:=(zA k1 h l1).push (itO k2 l2)
noncomputable abbrev zC(k1 k2:Bool)(h:Heap)(l1 l2:Addr):Heap:=(zB k1 k2 h l1 l2).push { cls:=.type "tuple",data:=.seq #[.ref h.objs.size,.ref (zA k1 h l1).objs.size] }
noncomputable abbrev zD(k1 k2:Bool)(h:Heap)(l1 l2:Addr):Heap:=(zC k1 k2 h l1 l2).push { cls:=.type "tuple",data:=.seq #[.none,.none] }
noncomputable abbrev zE(k1 k2:Bool)(h:Heap)(l1 l2:Addr):Heap:=(zD k1 k2 h l1 l2).push { cls:=.type "zip",data:=.fields #[.none,.bool false,.bool false,.ref (zB k1 k2 h l1 l2).objs.size,.ref (zC k1 k2 h l1 l2).objs.size] }
set_option maxHeartbeats 2000000 in
theorem Bd(k1 k2:Bool)(l1 l2:Addr)(xs ys:Array Value) :
  Meets (Builtin.«zip.__new__» ⟨[.type "zip",.ref l1,.ref l2],[]⟩) (fun _ R s=>SS k1 s.heap l1 xs∧SS k2 s.heap l2 ys∧R (.ok (.ret (.ref (zD k1 k2 s.heap l1 l2).objs.size))) { s with heap:=zE k1 k2 s.heap l1 l2 }) :=
 .of_wp fun prog w A R s h=>by
  obtain⟨hp,g,d,tk,os⟩:=s
  obtain⟨ha,hb,h⟩:=h
  have hsub:=sub_zip
  cases k1 with
  | true =>
   have a1:Heap.IsList (Shared.heap ⟨hp,g,d,tk,os⟩) l1 xs:=ha
   cases k2 with
   | true =>
    have a2:Heap.IsList (Shared.heap ⟨hp.push { cls:=.type "list_iterator",data:=.fields #[.ref l1,.int 0 0] },g,d,tk,os⟩) l2 ys:=Heap.IsList.push hb _
    wp_walk using wpAny_pyIter_list a1,wpAny_pyIter_list a2
    exact⟨_,rfl,h⟩
   | false =>
    have a2:Heap.IsTuple (Shared.heap ⟨hp.push { cls:=.type "list_iterator",data:=.fields #[.ref l1,.int 0 0] },g,d,tk,os⟩) l2 ys:=Heap.IsTuple.push hb _
    wp_walk using wpAny_pyIter_list a1,wpAny_pyIter_tuple a2
    exact⟨_,rfl,h⟩
  | false =>
   have a1:Heap.IsTuple (Shared.heap ⟨hp,g,d,tk,os⟩) l1 xs:=ha
   cases k2 with
   | true =>
    have a2:Heap.IsList (Shared.heap ⟨hp.push { cls:=.type "tuple_iterator",data:=.fields #[.ref l1,.int 0 0] },g,d,tk,os⟩) l2 ys:=Heap.IsList.push hb _
    wp_walk using wpAny_pyIter_tuple a1,wpAny_pyIter_list a2
    exact⟨_,rfl,h⟩
   | false =>
    have a2:Heap.IsTuple (Shared.heap ⟨hp.push { cls:=.type "tuple_iterator",data:=.fields #[.ref l1,.int 0 0] },g,d,tk,os⟩) l2 ys:=Heap.IsTuple.push hb _
    wp_walk using wpAny_pyIter_tuple a1,wpAny_pyIter_tuple a2
    exact⟨_,rfl,h⟩
section
variable {prog:Program} {w:World} {A:Around} {E:Value→Shared→Prop} {s:Shared}
theorem yL{k1 k2:Bool}{l1 l2:Addr}{xs ys:Array Value}{Q:Value→Shared→Prop}(ha:SS k1 s.heap l1 xs)(hb:SS k2 s.heap l2 ys)
  (q:∀ h',IsZip h' (s.heap.objs.size+4) (s.heap.objs.size+2) (s.heap.objs.size+3) .none→IsPair h' (s.heap.objs.size+2) (.ref s.heap.objs.size) (.ref (s.heap.objs.size+1))→IsPair h' (s.heap.objs.size+3) .none .none →
   SI k1 h' s.heap.objs.size l1 0→SI k2 h' (s.heap.objs.size+1) l2 0→h'.objs.size=s.heap.objs.size+5→(∀ b o,s.heap.get? b=some o→h'.get? b=some o)→Q (.ref (s.heap.objs.size+4)) { s with heap:=h' }) :
  wpAny (model prog w) A (call (.type "zip") [.ref l1,.ref l2]) Q E s:=by
 refine callType_new F.called_zip (by decide) (F.typeCall_zip_2 _ _) (F.newCall_zip_2 _ _) (fun obj=>F.args_object_init_3 obj _ _) F.entry_zip_new (Bd k1 k2 l1 l2 xs ys) ⟨ha,hb,?_⟩
 have s1:(zA k1 s.heap l1).objs.size=s.heap.objs.size+1:=JR ..
 have s2:(zB k1 k2 s.heap l1 l2).objs.size=s.heap.objs.size+2:=(JR ..).trans (by rw[s1])
 have s3:(zC k1 k2 s.heap l1 l2).objs.size=s.heap.objs.size+3:=(JR ..).trans (by rw[s2])
 have s4:(zD k1 k2 s.heap l1 l2).objs.size=s.heap.objs.size+4:=(JR ..).trans (by rw[s3])
 have s5:(zE k1 k2 s.heap l1 l2).objs.size=s.heap.objs.size+5:=(JR ..).trans (by rw[s4])
 have o5:(zE k1 k2 s.heap l1 l2).get? (zD k1 k2 s.heap l1 l2).objs.size=some _:=Je _ rfl
 have up1:∀ b o,(zD k1 k2 s.heap l1 l2).get? b=some o→(zE k1 k2 s.heap l1 l2).get? b=some o:=fun b o e=>IV _ e
 have o4:(zE k1 k2 s.heap l1 l2).get? (zC k1 k2 s.heap l1 l2).objs.size=some _:=up1 _ _ (Je _ rfl)
 have up2:∀ b o,(zC k1 k2 s.heap l1 l2).get? b=some o→(zE k1 k2 s.heap l1 l2).get? b=some o:=fun b o e=>up1 b o (IV _ e)
 have o3:(zE k1 k2 s.heap l1 l2).get? (zB k1 k2 s.heap l1 l2).objs.size=some _:=up2 _ _ (Je _ rfl)
 have up3:∀ b o,(zB k1 k2 s.heap l1 l2).get? b=some o→(zE k1 k2 s.heap l1 l2).get? b=some o:=fun b o e=>up2 b o (IV _ e)
 have o2:(zE k1 k2 s.heap l1 l2).get? (zA k1 s.heap l1).objs.size=some (itO k2 l2):=up3 _ _ (Je _ rfl)
 have up4:∀ b o,(zA k1 s.heap l1).get? b=some o→(zE k1 k2 s.heap l1 l2).get? b=some o:=fun b o e=>up3 b o (IV _ e)
 have o1:(zE k1 k2 s.heap l1 l2).get? s.heap.objs.size=some (itO k1 l1):=up4 _ _ (Je _ rfl)
 have mk:∀(k:Bool) (b a:Addr),(zE k1 k2 s.heap l1 l2).get? b=some (itO k a)→SI k (zE k1 k2 s.heap l1 l2) b a 0:=fun k b a e=>by cases k<;>exact⟨_,e,rfl,rfl⟩
 show _∧_
 rw[s2,s3,s4]at o5
 rw[s1,s2]at o3
 rw[s3]at o4
 rw[s1]at o2
 rw[s4]
 exact⟨⟨_,o5,rfl⟩,q _ o5 o3 o4 (mk _ _ _ o1) (mk _ _ _ o2) s5 fun b o e=>up4 b o (IV _ e)⟩
end
end L2
namespace L2
open PySem PySem.Spec PyProof.Rows
section
variable {X:Cx} {pins:List (Addr × Obj)} {σ:St} {H:Hp} {s:Shared} {h':Heap}
theorem Inv.turnedN{t':Nat}{ch:List Addr}(I:Inv X pins σ H s)(k:∀ b o,b∉ch→s.heap.get? b=some o→h'.get? b=some o)(hf:∀ b∈ch,T0 X pins H b):Inv X pins σ H { s with heap:=h',toks:=t' }:=by
 have nit:∀ b u,H b=some u→b∉ch:=fun b u e z=>by rw[(hf b z).1]at e;cases e
 refine I.step (g':=s.gens) (d':=s.drawn) (ch:=ch) (fun b hb=>?_) (fun b o _ _ hc e _=>k b o hc e) (fun b o _ _ hc e _=>⟨o.slots,k b o hc e⟩) (fun _ _ _ _ n=>n)
  (fun b o hc e=>⟨o,k b o hc e⟩) (fun _ _ e=>e) (fun _ _ _ e=>e) (fun b ps e=>⟨#[],by rw[e];simp⟩) (fun m hm=>?_) (fun b u e=>?_) I.bare
 ·obtain⟨_,q1,_,q3,q4,q5⟩:=hf b hb
  exact⟨q3,q1,q4,q5⟩
 ·obtain⟨o,es,ep,ho,r⟩:=hm
  exact⟨o,es,ep,k _ o (fun z=>(hf _ z).2.1 rfl) ho,r⟩
 ·refine(I.hok b u e).stay (fun c v hc q=>k c v ?_ q) (fun _ q=>q) fun _ _ q=>q
  rcases hc with z|z
  ·rw[z];exact nit b u e
  ·exact nit c _ z
end
def SqK(K:IT)(k:Bool)(H:Hp)(a:Addr)(xs:List V):Prop:=if k=true then SqL K H a xs else SqT K H a xs
theorem Inv.sqk{X:Cx}{pins:List (Addr × Obj)}{σ:St}{H:Hp}{s:Shared}(I:Inv X pins σ H s){k:Bool}{a:Addr}{xs:List V}(h:SqK X.K k H a xs):∃ its:List Value,i9 xs its∧SS k s.heap a its.toArray:=by
 cases k with
 | true =>
  obtain⟨its,r,p,_⟩:=I.list (show SqL X.K H a xs from h)
  exact⟨its,r,p.isList⟩
 | false =>
  obtain⟨its,r,p,_⟩:=I.tuple (show SqT X.K H a xs from h)
  exact⟨its,r,p⟩
theorem Inv.sqk_inj{X:Cx}{pins:List (Addr × Obj)}{σ:St}{H:Hp}{s:Shared}(I:Inv X pins σ H s){k:Bool}{a:Addr}{xs ys:List V}(h:SqK X.K k H a xs)(h2:SqK X.K k H a ys):xs=ys:=by
 cases k with
 | true=>exact I.list_inj (show SqL X.K H a xs from h) (show SqL X.K H a ys from h2)
 | false=>exact I.tuple_inj (show SqT X.K H a xs from h) (show SqT X.K H a ys from h2)
noncomputable def Itz(K:IT)(k1 k2:Bool)(l1 l2:Addr):It :=
 ⟨fun i H=>∃ xs ys x y,SqK K k1 H l1 xs∧SqK K k2 H l2 ys∧xs[i]? = some x∧ys[i]? = some y,
  fun i H v H'=>∃ T x y,H T=none∧v = .ref T∧H'=upd H T (.tup [x,y])∧(∀ xs,SqK K k1 H l1 xs→xs[i]? = some x)∧∀ ys,SqK K k2 H l2 ys→ys[i]? = some y,
  fun i H=>∃ xs ys,SqK K k1 H l1 xs∧SqK K k2 H l2 ys∧(xs.length≤i∨ys.length≤i)⟩
def Ge(k1 k2:Bool)(z TI TO p1 p2 l1 l2:Addr)(i:Nat)(h:Heap):Prop:=IsZip h z TI TO .none∧IsPair h TI (.ref p1) (.ref p2)∧(∃ a b,IsPair h TO a b)∧SI k1 h p1 l1 i∧SI k2 h p2 l2 i
theorem rD{P:Program}{w:World}{K:IT}{elts:List Expr}{kx:Nat}{tp:Pos}{k1 k2:Bool}{z TI TO p1 p2 l1 l2:Addr}(D:ZipApart z TI TO p1 p2 l1 l2) :
  jq P w K (.Tuple elts kx tp) (Itz K k1 k2 l1 l2) [z,TI,TO,p1,p2] z (Ge k1 k2 z TI TO p1 p2 l1 l2) where
 mem:=by simp
 obj:=fun i h ⟨iz,iI,⟨a,b,iO⟩,g1,g2⟩ c hc=>by
  simp only[Jj,Js,or_false]at hc
  rcases hc with rfl|rfl|rfl|rfl|rfl
  ·exact⟨_,iz,fun v e=>by cases e⟩
  ·exact⟨_,iI,fun v e=>by cases e⟩
  ·exact⟨_,iO,fun v e=>by cases e⟩
  ·exact g1.obj
  ·exact g2.obj
 keep:=fun i h h' ⟨iz,iI,⟨a,b,iO⟩,g1,g2⟩ k=>⟨k z (by simp) _ iz,k TI (by simp) _ iI,⟨a,b,k TO (by simp) _ iO⟩,g1.at fun o e=>k p1 (by simp) o e,g2.at fun o e=>k p2 (by simp) o e⟩
 item:=by
  intro X hP hw hK hc i pins s σ H E I hf st hg
  subst hP hw hK
  obtain⟨iz,iI,⟨a,b,iO⟩,g1,g2⟩:=st
  obtain⟨xs,ys,x,y,q1,q2,hx,hy⟩:=hg
  obtain⟨is1,r1,m1⟩:=I.sqk q1
  obtain⟨is2,r2,m2⟩:=I.sqk q2
  obtain⟨u1,hu1,ru1⟩:=r1.get hx
  obtain⟨u2,hu2,ru2⟩:=r2.get hy
  refine vO D iz iI iO g1 g2 m1 m2 (v1:=u1) (v2:=u2) (by simpa using hu1) (by simpa using hu2) fun h' a1 a2 a3 a4 a5 a6 kk=>?_
  refine⟨_,rfl,?_⟩
  refine wpAny_letOwnedTupleGo_zip (s:={ s with heap:=h' }) a1 fun h2 b1 b2=>?_
  have lt:∀{c o},s.heap.get? c=some o→c≠s.heap.objs.size:=fun e=>Jr (Jb e)
  have nz:s.heap.objs.size≠z:=Ne.symm (lt iz)
  have I1:Inv X pins σ (upd H s.heap.objs.size (.tup [x,y])) { s with heap:=s.heap.push { cls:=.type "tuple",data:=.seq #[u1,u2] },toks:=s.toks } :=
   I.laid (o:=.tup [x,y]) (fun b ob q=>IV _ q) (Ja _) ⟨(show 2≤sizeLine by decide),[u1,u2],.cons ru1 (.cons ru2 .nil),IsTup.new _ _⟩
  have nfp:∀ c∈[z,TI,TO,p1,p2],c≠s.heap.objs.size:=fun c hc=>by
   simp only[Jj,Js,or_false]at hc
   rcases hc with rfl|rfl|rfl|rfl|rfl
   ·exact lt iz
   ·exact lt iI
   ·exact lt iO
   ·obtain⟨o,e,_⟩:=g1.obj;exact lt e
   ·obtain⟨o,e,_⟩:=g2.obj;exact lt e
  have hf':∀ c∈[z,TI,TO,p1,p2],T0 X pins (upd H s.heap.objs.size (.tup [x,y])) c:=fun c hc=>by
   obtain⟨f0,f1⟩:=hf c hc
   exact⟨by rw[i3 (nfp c hc)];exact f0,f1⟩
  have I2:Inv X pins σ (upd H s.heap.objs.size (.tup [x,y])) { s with heap:=h2,toks:=s.toks }:=by
   refine Inv.turnedN (s:={ s with heap:=s.heap.push { cls:=.type "tuple",data:=.seq #[u1,u2] },toks:=s.toks }) (t':=s.toks) (h':=h2) (ch:=[z,TI,TO,p1,p2]) I1 (fun c o hcn e=>?_) hf'
   simp only[Jj,Js,or_false,not_or]at hcn
   obtain⟨n1,n2,n3,n4,n5⟩:=hcn
   refine b2.extBut c o n1 ?_
   by_cases hcs:c=s.heap.objs.size
   ·subst hcs
    have e':(s.heap.push { cls:=.type "tuple",data:=.seq #[u1,u2] }).get? s.heap.objs.size=some o:=e
    rw[Je _ rfl]at e'
    cases e'
    exact a5
   ·have e':(s.heap.push { cls:=.type "tuple",data:=.seq #[u1,u2] }).get? c=some o:=e
    have hlt:c<s.heap.objs.size:=by
     have:=Jb e'
     rw[JR]at this
     exact Nat.lt_of_le_of_ne (Nat.le_of_lt_succ this) hcs
    have hold:s.heap.get? c=some o:=by
     have:∃ o',s.heap.get? c=some o':=by
      cases q:s.heap.get? c with
      | some o'=>exact⟨o',rfl⟩
      | none=>exact absurd e' (by rw[Heap.get?_push_ne _ _ _ hcs];rw[q];exact fun z=>nomatch z)
     obtain⟨o',ho'⟩:=this
     have:=IV { cls:=.type "tuple",data:=.seq #[u1,u2] } ho'
     rw[e']at this
     cases this;exact ho'
    exact kk c o n1 n3 n4 n5 hold
  refine⟨.ref s.heap.objs.size,_,I2,rfl,⟨_,x,y,I.hok.fresh (Ja _),rfl,rfl,fun zs hz=>by rw[I.sqk_inj hz q1];exact hx,fun zs hz=>by rw[I.sqk_inj hz q2];exact hy⟩,?_,fun c hc=>(hf' c hc).1⟩
  have lift:∀ c o,c≠z→h'.get? c=some o→h2.get? c=some o:=fun c o n e=>b2.extBut c o n e
  exact⟨b1,lift _ _ D.TIz (kk _ _ D.TIz D.TITO D.TIi1 D.TIi2 iI),⟨_,_,lift _ _ D.TOz a2⟩,a3.at fun o e=>lift _ o D.i1z e,a4.at fun o e=>lift _ o D.i2z e⟩
 done:=by
  intro X hP hw hK hc i pins s σ H E I hf st hg
  subst hP hw hK
  obtain⟨iz,iI,⟨a,b,iO⟩,g1,g2⟩:=st
  obtain⟨xs,ys,q1,q2,hx⟩:=hg
  obtain⟨is1,r1,m1⟩:=I.sqk q1
  obtain⟨is2,r2,m2⟩:=I.sqk q2
  have e1:=r1.length
  have e2:=r2.length
  refine Be (I.ok.hd hc) D iz iI iO g1 g2 m1 m2 (hx.elim (fun h=>.inl (by simp;omega)) fun h=>.inr (by simp;omega)) fun h' kk=>⟨rfl,?_⟩
  refine I.turnedN (t':=s.toks) (ch:=[z,TI,TO,p1,p2]) (fun c o hcn e=>?_) hf
  simp only[Jj,Js,or_false,not_or]at hcn
  obtain⟨n1,n2,n3,n4,n5⟩:=hcn
  exact kk c o n1 n3 n4 n5 e
 self:=fun _ _ _ _ _ st h=>wpAny_pyIter_zip st.1 h
def GV(K:IT)(ta:TA):TI:=fun σ H R=>ta σ H fun vs H1=>∃ k1 k2 l1 l2,vs=[.ref l1,.ref l2]∧(∃ xs,SqK K k1 H1 l1 xs)∧(∃ ys,SqK K k2 H1 l2 ys)∧R (Itz K k1 k2 l1 l2) H1
theorem Ca{X:Cx}{elts:List Expr}{kx:Nat}{tp:Pos}{a b:Expr}{ta:TA}{p pos:Pos}(hg:Gl X "zip")(hm:X.mg "zip" = none)(ha:PA X [a,b] ta)
  (hs:starEach [a,b] X.env=[(false,eval a X.env),(false,eval b X.env)]:=by rfl) (hs2:starEach [b] X.env=[(false,eval b X.env)]:=by rfl):PI X (.Tuple elts kx tp) (.Call (.Name "zip" p) [a,b] [] pos) (GV X.K ta):=by
 intro pins s σ H R I h
 refine Call_ (X8 I hg hm PyProof.Rows.boot_zip (PyProof.Rows.callWith_type1 (thn (ha pos pins s σ H _ I h) fun us s1 ⟨vs,H1,I1,r1,q1⟩=>?_) (by rw[hs,hs2]) (by rw[hs2];rfl)))
 obtain⟨k1,k2,l1,l2,e,⟨xs,q2⟩,⟨ys,q3⟩,q⟩:=q1
 subst e
 cases r1 with
 | cons r rr =>
  cases rr with
  | cons r' rr =>
   cases rr
   cases r
   cases r'
   obtain⟨is1,_,m1⟩:=I1.sqk q2
   obtain⟨is2,_,m2⟩:=I1.sqk q3
   have lt1:l1<s1.heap.objs.size:=by obtain⟨o,e⟩:=m1.obj;exact Jb e
   have lt2:l2<s1.heap.objs.size:=by obtain⟨o,e⟩:=m2.obj;exact Jb e
   refine yL m1 m2 fun h' a1 a2 a3 a4 a5 a6 kk=>?_
   refine wpAny_pyIter_zip (s:={ s1 with heap:=h' }) a1 ?_
   have D:ZipApart (s1.heap.objs.size+4) (s1.heap.objs.size+2) (s1.heap.objs.size+3) s1.heap.objs.size (s1.heap.objs.size+1) l1 l2:=PyProof.Rows.zipApart_new lt1 lt2
   refine⟨s1.heap.objs.size+4,_,_,_,H1,rfl,I1.kept (t':=s1.toks) kk,rD D,⟨a1,a2,⟨_,_,a3⟩,a4,a5⟩,fun c hc=>?_,q⟩
   have hge:s1.heap.objs.size≤c:=by
    simp only[Jj,Js,or_false]at hc
    rcases hc with rfl|rfl|rfl|rfl|rfl
    ·exact KA _ _
    ·exact KA _ _
    ·exact KA _ _
    ·exact Ja _
    ·exact KA _ _
   exact I1.fpOk hge (I1.hok.fresh hge)
section
variable {X:Cx} {pins:List (Addr × Obj)} {σ:St} {H:Hp} {s:Shared} {p:Addr}
theorem Inv.swap{a b:HO}(I:Inv X pins σ H s)(hp:H p=some a)(ha:(∀ x,a ≠ .own x)∧∀ xs,a ≠ .tup xs)(h1:∀ xs,X.H₀ p≠some (.tup xs))(h2:∀ o u,X.H₀ p≠some (.frz o u))(h3:∀ ps,X.H₀ p≠some (.tbl ps))
  (new:A1 X.prog X.w H s.heap p b):Inv X pins σ (upd H p b) s:=by
 have ne:∀{c:Addr},H c=none→c≠p:=fun{c} q z=>by subst z;rw[hp]at q;cases q
 have st:∀{c:Addr} {o:HO},A1 X.prog X.w H s.heap c o→A1 X.prog X.w (upd H p b) s.heap c o:=fun{c o} x =>
  x.stay (fun _ _ _ q=>q) (fun d q=>by
   have:d≠p:=by intro z;subst z;rw[hp]at q;cases q;exact ha.1 _ rfl
   rw[i3 this];exact q) fun d xs q=>by
   have:d≠p:=by intro z;subst z;rw[hp]at q;cases q;exact ha.2 _ rfl
   rw[i3 this];exact q
 refine⟨I.ok,I.os,I.bare,⟨I.base.keep,I.base.slot,fun c o e n x=>?_,I.base.there,fun c xs q=>?_,fun c o u q=>?_,fun c ps q=>?_⟩,I.loc,I.cell,?_,fun x c e=>?_,fun q hq=>?_,fun c o q=>?_,I.len⟩
 ·have:=I.base.free c o e n x
  rw[i3 (ne this)];exact this
 ·have:c≠p:=by intro z;subst z;exact h1 xs q
  rw[i3 this];exact I.base.tups c xs q
 ·have:c≠p:=by intro z;subst z;exact h2 o u q
  rw[i3 this];exact I.base.frzs c o u q
 ·have:c≠p:=by intro z;subst z;exact h3 ps q
  rw[i3 this];exact I.base.tbls c ps q
 ·rw[i3 (ne I.free)];exact I.free
 ·rw[i3 (ne (I.freeC x c e))];exact I.freeC x c e
 ·obtain⟨a1,a2,a3,a4,a5⟩:=I.pin q hq
  exact⟨a1,by rw[i3 (ne a2)];exact a2,a3,a4,a5⟩
 ·by_cases z:c=p
  ·subst z;rw[j4]at q;cases q;exact st new
  ·rw[i3 z]at q;exact st (I.hok c o q)
theorem Inv.freeze{xs:List V}(I:Inv X pins σ H s)(hp:H p=some (.lst xs)):∃ o,Inv X pins σ (upd H p (.frz o (.lst xs))) s:=by
 have k:=I.hok p _ hp
 obtain⟨z,its,n,r,e⟩:=id k
 refine⟨_,I.swap hp ⟨fun _ q=>(nomatch q),fun _ q=>(nomatch q)⟩ (fun ys q=>?_) (fun o u q=>?_) (fun ps q=>?_) ⟨e,k⟩⟩
 ·rw[I.base.tups p ys q]at hp;cases hp
 ·rw[I.base.frzs p o u q]at hp;cases hp
 ·obtain⟨more,q⟩:=I.base.tbls p ps q;rw[q]at hp;cases hp
structure Bb(X:Cx)(p:Addr):Prop where
 t:∀ xs,X.H₀ p≠some (.tup xs)
 f:∀ o u,X.H₀ p≠some (.frz o u)
 b:∀ ps,X.H₀ p≠some (.tbl ps)
theorem Inv.loose{xs:List V}(I:Inv X pins σ H s)(hp:H p=some (.lst xs)):Bb X p :=
 ⟨fun ys q=>(by rw[I.base.tups p ys q]at hp;cases hp),fun o u q=>(by rw[I.base.frzs p o u q]at hp;cases hp),fun ps q=>(by obtain⟨more,q⟩:=I.base.tbls p ps q;rw[q]at hp;cases hp)⟩
def GB(t:TE):TE:=fun σ H Q=>t σ H fun v H1=>∃ p xs,v = .ref p∧H1 p=some (.lst xs)∧∀ o,Q v (upd H1 p (.frz o (.lst xs)))
theorem X4{x:Expr}{t:TE}(h:PE X x t):PE X x (GB t):=fun pins s σ H Q I q =>
 wpAny_mono (h pins s σ H _ I q) (fun u s1 zz=>by
  obtain⟨v,H1,I1,r,p,xs,e,hp,q1⟩:=zz
  obtain⟨o,I2⟩:=I1.freeze hp
  exact⟨v,_,I2,r,q1 o⟩) fun _ _ z=>z
def EN(t:TE):TE:=fun σ H Q=>t σ H fun v H1=>(∃ p xs,v = .ref p∧H1 p=some (.lst xs)∧∀ o,Q v (upd H1 p (.frz o (.lst xs))))∨Q v H1
theorem xG{x:Expr}{t:TE}(h:PE X x t):PE X x (EN t):=fun pins s σ H Q I q =>
 wpAny_mono (h pins s σ H _ I q) (fun u s1 zz=>by
  obtain⟨v,H1,I1,r,z⟩:=zz
  rcases z with⟨p,xs,e,hp,q1⟩|q1
  ·obtain⟨o,I2⟩:=I1.freeze hp
   exact⟨v,_,I2,r,q1 o⟩
  ·exact⟨v,H1,I1,r,q1⟩) fun _ _ z=>z
noncomputable def V0(p:Addr)(xs:List V):HO:=.ext fun h=>xs.length≤sizeLine∧∃(its:List Value) (n:Nat),i9 xs its∧h.get? p=some { cls:=.type "list",data:=.seq its.toArray n }
theorem Inv.hide{xs:List V}(I:Inv X pins σ H s)(hp:H p=some (.lst xs)):Inv X pins σ (upd H p (V0 p xs)) s:=by
 have k:=I.hok p _ hp
 have l:=I.loose hp
 obtain⟨z,its,n,r,e⟩:=id k
 exact I.swap hp ⟨fun _ q=>(nomatch q),fun _ q=>(nomatch q)⟩ l.t l.f l.b ⟨⟨z,its,n,r,e⟩,⟨_,e⟩,fun h1 h2 ⟨z,its,n,r,e⟩ k=>⟨z,its,n,r,k _ e⟩⟩
theorem Inv.show'{xs:List V}(I:Inv X pins σ H s)(l:Bb X p)(hp:H p=some (V0 p xs)):Inv X pins σ (upd H p (.lst xs)) s:=by
 obtain⟨k,_,_⟩:=I.hok p _ hp
 exact I.swap hp ⟨fun _ q=>(nomatch q),fun _ q=>(nomatch q)⟩ l.t l.f l.b k
def rK(p:Addr)(t:TE):TE:=fun σ H Q=>∃ xs,H p=some (.lst xs)∧t σ (upd H p (V0 p xs)) fun v H1=>H1 p=some (V0 p xs)∧Q v (upd H1 p (.lst xs))
theorem xF{x:Expr}{t:TE}(h:PE X x t):PE X x fun σ H Q=>∃ p,rK p t σ H Q:=fun pins s σ H Q I ⟨p,xs,hp,q⟩ =>
 wpAny_mono (h pins s σ _ _ (I.hide hp) q) (fun u s1 ⟨v,H1,I2,r,hp1,q1⟩=>⟨v,_,I2.show' (I.loose hp) hp1,r,q1⟩) fun _ _ z=>z
def rH(p:Addr)(t:TT):TT:=fun σ H Q=>∃ xs,H p=some (.lst xs)∧t σ (upd H p (V0 p xs)) fun v H1=>H1 p=some (V0 p xs)∧Q v (upd H1 p (.lst xs))
theorem oV{ifs:List Expr}{t:TT}(h:az X ifs t):az X ifs fun σ H Q=>∃ p,rH p t σ H Q:=fun pins s σ H Q I ⟨p,xs,hp,q⟩ =>
 wpAny_mono (h pins s σ _ _ (I.hide hp) q) (fun u s1 ⟨H1,I2,hp1,q1⟩=>⟨_,I2.show' (I.loose hp) hp1,q1⟩) fun _ _ z=>z
def rJ(p:Addr)(g:TG):TG:=fun v σ H Q=>∃ xs,H p=some (.lst xs)∧g v σ (upd H p (V0 p xs)) fun σ1 H1=>H1 p=some (V0 p xs)∧Q σ1 (upd H1 p (.lst xs))
theorem xE{tg:Expr}{g:TG}(h:PG X tg g):PG X tg fun v σ H Q=>∃ p,rJ p g v σ H Q:=fun pins s σ H v u Q I r ⟨p,xs,hp,q⟩ =>
 wpAny_mono (h pins s σ _ v u _ (I.hide hp) r q) (fun u s1 ⟨σ1,H1,I2,hp1,q1⟩=>⟨σ1,_,I2.show' (I.loose hp) hp1,q1⟩) fun _ _ z=>z
end
section
variable {X:Cx} {pos:Pos}
end
section
variable {X:Cx} {e:Expr} {te:TE} {st:Expr} {ts:TO} {pos p2:Pos}
end
theorem pe:typeLookup (.type "list_reverseiterator") "__len__" = pure none:=by rw[typeLookup_type,builtinLookup_eq_fast];kernel_rfl
theorem kf:typeLookup (.type "list_reverseiterator") "__length_hint__" = pure (some (.builtin "list_reverseiterator.__length_hint__")):=by rw[typeLookup_type,builtinLookup_eq_fast];kernel_rfl
section
variable {prog:Program} {w:World} {A:Around} {E:Value→Shared→Prop} {s:Shared}
theorem sQ{it l:Addr}{i:Int}{Q:Bool→Shared→Prop}(hit:s.heap.IsRevIter it l i)(h:Q false s):wpAny (model prog w) A (Builtin.List.listLengthHint (.ref it)) Q E s:=by
 have hT:=hit.typeIs
 unfold Builtin.List.listLengthHint
 refine IU (wpAny_specialOf hT pe ?_)
 show wpAny _ A (specialOf (Value.ref it) (Str.ofString "__length_hint__") >>= _) Q E s
 refine IU (wpAny_specialOf hT kf ?_)
 generalize hv:("list_reverseiterator.__length_hint__" : String)=nm
 wp_delta
 rw[show splitId nm=some ("list_reverseiterator","__length_hint__")by subst hv;decide +kernel]
 subst hv
 refine IU (wpAny_isInstance (T := "list_reverseiterator") (b:=true) hT (by rw[isSubtype_type];kernel_rfl) ?_)
 refine wpAny_ite_split (fun z=>absurd z (by decide)) (fun _=>?_)
 refine wpAny_ite_split (fun _=>?_) (fun z=>absurd (by decide +kernel) z)
 refine wpAny_ite_split (fun z=>absurd z (by decide)) (fun _=>?_)
 exact Jf h
noncomputable abbrev ou(items:Array Value):Nat→Value→Prop:=fun j x=>items[items.size - 1 - j]? = some x
noncomputable abbrev Hm(prog:Program)(w:World)(A:Around)(R:Result→Shared→Prop):Fin→Shared→Prop:=fun z s'=>match z with|.done f=>R (.ok f) s'|.again c'=>c'.quiet=true∧codeAny (model prog w) A c' R s'
end
section
variable {X:Cx}
noncomputable def xp(p a:Addr)(n:Nat):Heap→Prop:=fun h=>h.get? p=some (revObj a ((n:Int) - 1))
noncomputable def en(H:Hp)(a:Addr):Hp:=fun b=>if b=a then none else H b
theorem D8{H:Hp}{a b:Addr}(h:b≠a):en H a b=H b:=if_neg h
theorem cG{H:Hp}{a:Addr}:en H a a=none:=if_pos rfl
theorem jd:u8 X (.type "reversed") (fun xs H Q=>∃ a ys,xs=[.ref a]∧SqL X.K H a ys∧∀ p,H p=none→p≠a→X.s₀.heap.objs.size≤p→Q (.ref p) (upd H p (.ext (xp p a ys.length)))):=by
 intro pins s σ H xs us Q I rv h
 obtain⟨a,ys,rfl,sq,q⟩:=h
 obtain⟨u,rfl,ru⟩:=rv.one
 cases ru
 obtain⟨its,r,ht,hz⟩:=I.list sq
 have hl:=r.length
 obtain⟨o,ho,_⟩:=id ht.isList
 refine call_reversed_list ht.isList ⟨.ref s.heap.objs.size,_,I.laid (t':=s.toks) (o:=.ext (xp s.heap.objs.size a ys.length)) (fun b u e=>IV _ e) (Ja _) ?_,rfl,q _ I.fresh (Ky (Jb ho)) I.sz⟩
 have e:(s.heap.push (revObj a ((its.toArray.size:Int) - 1))).get? s.heap.objs.size=some (revObj a ((ys.length:Int) - 1)):=by
  rw[Je _ rfl,hl];rfl
 exact⟨e,⟨_,e⟩,fun h1 h2 z k=>k _ z⟩
theorem oS{items:Array Value}{acc:Array Value}(h:ItemsOf (ou items) acc items.size):acc.toList=items.toList.reverse:=by
 obtain⟨h1,h2⟩:=h
 apply Me
 ·rw[JU,Array.length_toList,Array.length_toList,h1]
 ·intro j g1 g2
  rw[Array.length_toList]at g1
  have e:=h2 j acc[j] (Array.getElem?_eq_getElem g1)
  have e2:items.size - 1 - j<items.size:=by omega
  have e3:items[items.size - 1 - j]? = some (items[items.size - 1 - j]'e2):=Array.getElem?_eq_getElem e2
  have e4:items[items.size - 1 - j]'e2=acc[j]:=Option.some.inj (e3.symm.trans e)
  rw[List.getElem_reverse,Array.getElem_toList,Array.getElem_toList,← e4]
  congr 1
end
section
variable {X:Cx}
end
section
variable {prog:Program} {w:World} {A:Around} {E:Value→Shared→Prop} {s:Shared}
end
section
variable {prog:Program} {w:World} {A:Around} {E:Value→Shared→Prop} {s:Shared}
end
section
variable {X:Cx}
end
section
variable {prog:Program} {w:World} {A:Around} {E:Value→Shared→Prop} {s:Shared}
end
section
variable {X:Cx}
end
section
variable {prog:Program} {w:World} {A:Around} {E:Value→Shared→Prop} {s:Shared}
end
section
variable {X:Cx} {pos:Pos}
end
noncomputable def Itb(K:IT)(a:Addr)(n:Nat):It :=
 ⟨fun i H=>i<n∧∃ xs x,SqL K H a xs∧xs[n - 1 - i]? = some x,fun i H x H'=>H'=H∧∀ xs,SqL K H a xs→xs[n - 1 - i]? = some x,fun i _=>n≤i⟩
theorem oF{P:Program}{w:World}{K:IT}{tg:Expr}(a it:Addr)(n:Nat):jq P w K tg (Itb K a n) [it] it (fun i h=>i≤n∧h.IsRevIter it a ((n:Int) - 1 - (i:Int))) where
 mem:=by simp
 obj:=fun i h st b hb=>by
  obtain rfl:b=it:=by simpa using hb
  obtain⟨_,o,e,c,d⟩:=st
  exact⟨o,e,fun v z=>by rw[d]at z;cases z⟩
 keep:=fun i h h2 st k=>⟨st.1,st.2.at fun o e=>k it (by simp) o e⟩
 item:=by
  intro X hP hw hK hc i pins s σ H E I hf st hg
  subst hP hw hK
  obtain⟨hi,xs,x,hq,hx⟩:=hg
  obtain⟨its,rv,p,hz⟩:=I.list hq
  obtain⟨u,hu,ru⟩:=rv.get hx
  obtain⟨f0,f1,f2,f3,f4,f5⟩:=hf it (by simp)
  have e:(n:Int) - 1 - (i:Int)=((n - 1 - i:Nat):Int):=by omega
  have st2:=st.2
  rw[e]at st2
  refine wpAny_pyNext_rev_item st2 p.isList (x:=u) (by simpa using hu) fun h2 st3 sb=>?_
  have I1:Inv X pins σ H { s with heap:=h2 }:=I.turned (t':=s.toks) (fun b o hb e=>(sb.2 b hb).trans e) f0 f1 f3 f4 f5
  have e2:((n - 1 - i:Nat):Int) - 1=(n:Int) - 1 - ((i+1:Nat):Int):=by omega
  rw[e2]at st3
  obtain⟨o,e3,c,d⟩:=id st3
  exact⟨u,rfl,iV (s:={ s with heap:=h2 }) e3 c d (by decide) ⟨x,H,I1,ru,⟨rfl,fun ys hy=>by rw[I.list_inj hy hq];exact hx⟩,⟨by omega,st3⟩,fun b hb=>(hf b hb).1⟩⟩
 done:=by
  intro X hP hw hK hc i pins s σ H E I hf st hg
  subst hP hw hK
  have hi:i=n:=Mr st.1 hg
  obtain⟨f0,f1,f2,f3,f4,f5⟩:=hf it (by simp)
  have st2:=st.2
  rw[hi,show(n:Int) - 1 - (n:Int) = -1 by omega]at st2
  refine wpAny_pyNext_rev_end (I.ok.hd hc) st2 fun h2 he=>?_
  exact⟨rfl,I.turned (t':=s.toks) (fun b o hb e=>he b o hb e) f0 f1 f3 f4 f5⟩
 self:=fun A i s Q E st k=>wpAny_pyIter_revIter st.2 k
section
variable {X:Cx}
def Fz(K:IT)(ta:TA):TI:=fun σ H R=>ta σ H fun vs H1=>∃ a xs,vs=[.ref a]∧SqL K H1 a xs∧R (Itb K a xs.length) H1
theorem xB{tg e:Expr}{ta:TA}{p pos:Pos}(hg:Gl X "reversed")(hm:X.mg "reversed" = none)(hv:bootBuiltins "reversed" = some (.type "reversed"))(ha:PA X [e] ta)
  (hs:starEach [e] X.env=[(false,eval e X.env)]:=by rfl):PI X tg (.Call (.Name "reversed" p) [e] [] pos) (Fz X.K ta):=by
 intro pins s σ H R I h
 refine Call_ (X8 I hg hm hv (PyProof.Rows.callWith_type1 (thn (ha pos pins s σ H _ I h) fun us s1 zz=>?_) hs rfl))
 ·obtain⟨vs,H1,I1,r1,a,xs,rfl,hq,q⟩:=zz
  obtain⟨u,rfl,ru⟩:=J4 r1
  cases ru
  obtain⟨its,rv,pl,hz⟩:=I1.list hq
  have hl:=rv.length
  refine call_reversed_list pl.isList ?_
  have I2:Inv X pins σ H1 { s1 with heap:=s1.heap.push (revObj a ((its.toArray.size:Int) - 1)) }:=I1.kept (t':=s1.toks) fun b o e=>IV _ e
  have st:(s1.heap.push (revObj a ((its.toArray.size:Int) - 1))).IsRevIter s1.heap.objs.size a ((xs.length:Int) - 1 - ((0:Nat):Int)):=by
   refine⟨_,Je _ rfl,rfl,?_⟩
   rw[Jg,← hl]
   show Data.fields _=_
   rw[show(xs.length:Int) - 1 - ((0:Nat):Int)=(xs.length:Int) - 1 by omega]
  refine wpAny_pyIter_revIter st ⟨s1.heap.objs.size,[s1.heap.objs.size],_,_,H1,rfl,I2,oF a _ xs.length,⟨Jx _,st⟩,fun b hb=>?_,q⟩
  obtain rfl:b=s1.heap.objs.size:=by simpa using hb
  exact I1.fpOk (Ja _) (I1.hok.fresh (Ja _))
end
section
variable {prog:Program} {w:World} {A:Around} {E:Value→Shared→Prop} {s:Shared}
end
end L2
namespace L2
open PySem
section
variable {prog:Program} {w:World} {A:Around} {E:Value→Shared→Prop} {s:Shared}
end
section
variable {prog:Program} {w:World} {A:Around} {E:Value→Shared→Prop} {s:Shared}
end
end L2
namespace L2
open PySem PySem.Spec PyProof.Rows
end L2
namespace L2
open PySem
theorem PE.imp{X:Cx}{x:Expr}{t t':TE}(h:PE X x t)(i:∀ σ H Q,t' σ H Q→t σ H Q):PE X x t':=fun pins s σ H Q I q=>h pins s σ H Q I (i σ H Q q)
theorem PT.imp{X:Cx}{x:Expr}{t t':TT}(h:PT X x t)(i:∀ σ H Q,t' σ H Q→t σ H Q):PT X x t':=fun pins s σ H Q I q=>h pins s σ H Q I (i σ H Q q)
theorem PW.imp{X:Cx}{x:Expr}{t t':TT}(h:PW X x t)(i:∀ σ H Q,t' σ H Q→t σ H Q):PW X x t':=fun wh pins s σ H Q I q=>h wh pins s σ H Q I (i σ H Q q)
theorem PA.imp{X:Cx}{x:List Expr}{t t':TA}(h:PA X x t)(i:∀ σ H Q,t' σ H Q→t σ H Q):PA X x t':=fun pos pins s σ H Q I q=>h pos pins s σ H Q I (i σ H Q q)
theorem PS.imp{X:Cx}{x:Stmt}{t t':TS}(h:PS X x t)(i:∀ E σ H,t' E σ H→t E σ H):PS X x t':=fun pins s σ H D I q=>h pins s σ H D I (i D σ H q)
theorem PSs.imp{X:Cx}{x:List Stmt}{t t':TS}(h:PSs X x t)(i:∀ E σ H,t' E σ H→t E σ H):PSs X x t':=fun pins s σ H D I q=>h pins s σ H D I (i D σ H q)
theorem OpR.imp{X:Cx}{f:Value→Value→Sem Value}{r r':R2}(h:OpR X f r)(i:∀ x y H Q,r' x y H Q→r x y H Q):OpR X f r':=fun pins s σ H x y v u Q I rx ry q=>h pins s σ H x y v u Q I rx ry (i x y H Q q)
theorem IxR.imp{X:Cx}{r r':R2}(h:IxR X r)(i:∀ x y H Q,r' x y H Q→r x y H Q):IxR X r':=fun va sl pins s σ H x y v u Q I rx ry q=>h va sl pins s σ H x y v u Q I rx ry (i x y H Q q)
theorem PG.imp{X:Cx}{x:Expr}{t t':TG}(h:PG X x t)(i:∀ v σ H Q,t' v σ H Q→t v σ H Q):PG X x t':=fun pins s σ H v u Q I r q=>h pins s σ H v u Q I r (i v σ H Q q)
theorem PGs.imp{X:Cx}{x:List Expr}{t t':TGs}(h:PGs X x t)(i:∀ v σ H Q,t' v σ H Q→t v σ H Q):PGs X x t':=fun pins s σ H v u Q I r q=>h pins s σ H v u Q I r (i v σ H Q q)
end L2
namespace DL
open PySem PySem.Spec L2
open PyProof.Rows hiding St
inductive D where
 | non|bl (b:Bool)|int (i:Int)|str (x:Str)|ref (a:Addr)|tup (ds:List D)|vl (ds:List D)|ty (n:String)|dic|exc (c:Str)
def KL(K:IT)(a:Addr)(xs:List V):Prop:=∀ H:Hp,SqL K H a xs
mutual
inductive Has (K:IT) (H:Hp):V→D→Prop
 | non:Has K H .non .non
 | bl (b:Bool):Has K H (.bl b) (.bl b)
 | int (i:Int):Has K H (.int i) (.int i)
 | str (x:Str):Has K H (.str x) (.str x)
 | ref (a:Addr):Has K H (.ref a) (.ref a)
 | ty (n:String):Has K H (.ty n) (.ty n)
 | tup {a:Addr} {xs:List V} {ds:List D}:SqT K H a xs→HasL K H xs ds→Has K H (.ref a) (.tup ds)
 | vl {a:Addr} {xs:List V} {ds:List D}:((∃ o,H a=some (.frz o (.lst xs)))∨KL K a xs)→HasL K H xs ds→Has K H (.ref a) (.vl ds)
 | dic {a:Addr}:(∃ o:Obj,H a=some (.frz o (.own 0))∧o.cls = .type "dict")→Has K H (.ref a) .dic
 | exc {a:Addr} {c:Str}:(∃(o:Obj) (C:Addr),H a=some (.frz o (.own 0))∧o.cls = .ref C∧PySem.W.nsIn K mainGlobals c=some (some (.ref C)))→Has K H (.ref a) (.exc c)
inductive HasL (K:IT) (H:Hp):List V→List D→Prop
 | nil:HasL K H [] []
 | cons {v:V} {d:D} {vs:List V} {ds:List D}:Has K H v d→HasL K H vs ds→HasL K H (v :: vs) (d :: ds)
end
structure KT0(H H':Hp):Prop where
 tp:∀ a xs,Rd H a (.tup xs)→Rd H' a (.tup xs)
 fz:∀ a o u,H a=some (.frz o u)→H' a=some (.frz o u)
structure KT(H H':Hp):Prop extends KT0 H H' where
 ex:∀ a φ,H a=some (.ext φ)→H' a=some (.ext φ)
theorem KT.refl(H:Hp):KT H H:=⟨⟨fun _ _ h=>h,fun _ _ _ h=>h⟩,fun _ _ h=>h⟩
theorem KT.trans{H H1 H2:Hp}(a:KT H H1)(b:KT H1 H2):KT H H2:=⟨⟨fun p xs h=>b.tp p xs (a.tp p xs h),fun p o xs h=>b.fz p o xs (a.fz p o xs h)⟩,fun p φ h=>b.ex p φ (a.ex p φ h)⟩
theorem KT0.sq{K:IT}{H H':Hp}(k:KT0 H H'){a:Addr}{xs:List V}(h:SqT K H a xs):SqT K H' a xs:=h.elim (fun z=>.inl (k.tp a xs z)) .inr
theorem KT.sq{K:IT}{H H':Hp}(k:KT H H'){a:Addr}{xs:List V}(h:SqT K H a xs):SqT K H' a xs:=k.toKT0.sq h
theorem KT0.at{H:Hp}{p:Addr}{o:HO}(h1:∀ xs,¬ Rd H p (.tup xs))(h2:∀ q u,H p≠some (.frz q u)):KT0 H (upd H p o) where
 tp:=fun a xs r=>by
  have hn:a≠p:=by intro e;subst e;exact h1 xs r
  rcases r with r|⟨q,r⟩
  ·exact .inl (by rw[i3 hn];exact r)
  ·exact .inr ⟨q,by rw[i3 hn];exact r⟩
 fz:=fun a q xs r=>by
  have hn:a≠p:=by intro e;subst e;exact h2 q xs r
  rw[i3 hn];exact r
theorem KT.at{H:Hp}{p:Addr}{o:HO}(h1:∀ xs,¬ Rd H p (.tup xs))(h2:∀ q u,H p≠some (.frz q u))(h3:∀ φ,H p≠some (.ext φ)):KT H (upd H p o):=⟨KT0.at h1 h2,fun a φ r=>by
  have hn:a≠p:=by intro e;subst e;exact h3 φ r
  rw[i3 hn];exact r⟩
theorem KT.alloc{H:Hp}{p:Addr}{o:HO}(h:H p=none):KT H (upd H p o):=KT.at (fun xs r=>by rcases r with r|⟨_,r⟩<;>(rw[h]at r;cases r)) (fun q xs r=>by rw[h]at r;cases r) fun φ r=>by rw[h]at r;cases r
theorem KT.any{H:Hp}{p:Addr}{xs:List V}{o:HO}(h:H p=some (.lst xs)):KT H (upd H p o):=KT.at (fun xs r=>by rcases r with r|⟨_,r⟩<;>(rw[h]at r;cases r)) (fun q xs r=>by rw[h]at r;cases r) fun φ r=>by rw[h]at r;cases r
theorem KT.write{H:Hp}{p:Addr}{xs ys:List V}(h:H p=some (.lst xs)):KT H (upd H p (.lst ys)):=KT.any h
theorem KT0.ext{H:Hp}{p:Addr}{φ:Heap→Prop}{o:HO}(h:H p=some (.ext φ)):KT0 H (upd H p o):=KT0.at (fun xs r=>by rcases r with r|⟨_,r⟩<;>(rw[h]at r;cases r)) fun q xs r=>by rw[h]at r;cases r
theorem KT.new{H H':Hp}{p:Addr}{o:HO}(k:KT H H')(h:H p=none):KT H (upd H' p o) where
 tp:=fun a xs r=>by
  have hn:a≠p:=by intro e;subst e;rcases r with r|⟨_,r⟩<;>(rw[h]at r;cases r)
  rcases k.tp a xs r with r|⟨q,r⟩
  ·exact .inl (by rw[i3 hn];exact r)
  ·exact .inr ⟨q,by rw[i3 hn];exact r⟩
 fz:=fun a q xs r=>by
  have hn:a≠p:=by intro e;subst e;rw[h]at r;cases r
  rw[i3 hn];exact k.fz a q xs r
 ex:=fun a φ r=>by
  have hn:a≠p:=by intro e;subst e;rw[h]at r;cases r
  rw[i3 hn];exact k.ex a φ r
mutual
theorem Has.mono0{K:IT}{H H':Hp}(k:KT0 H H'):∀{v:V} {d:D},Has K H v d→Has K H' v d
 | _,_,.non=>.non
 | _,_,.bl b=>.bl b
 | _,_,.int i=>.int i
 | _,_,.str x=>.str x
 | _,_,.ref a=>.ref a
 | _,_,.ty n=>.ty n
 | _,_,.tup s l=>.tup (k.sq s) (HasL.mono0 k l)
 | _,_,.vl h l=>.vl (h.elim (fun⟨o,e⟩=>.inl ⟨o,k.fz _ _ _ e⟩) .inr) (HasL.mono0 k l)
 | _,_,.dic h=>.dic (let ⟨o,e,c⟩:=h;⟨o,k.fz _ _ _ e,c⟩)
 | _,_,.exc h=>.exc (let ⟨o,C,e,c⟩:=h;⟨o,C,k.fz _ _ _ e,c⟩)
theorem HasL.mono0{K:IT}{H H':Hp}(k:KT0 H H'):∀{v:List V} {d:List D},HasL K H v d→HasL K H' v d
 | _,_,.nil=>.nil
 | _,_,.cons a b=>.cons (Has.mono0 k a) (HasL.mono0 k b)
end
theorem Has.mono{K:IT}{H H':Hp}(k:KT H H'){v:V}{d:D}(h:Has K H v d):Has K H' v d:=h.mono0 k.toKT0
theorem HasL.mono{K:IT}{H H':Hp}(k:KT H H'){v:List V}{d:List D}(h:HasL K H v d):HasL K H' v d:=h.mono0 k.toKT0
section
variable {K:IT} {H H':Hp}
theorem HasL.length:∀{vs:List V} {ds:List D},HasL K H vs ds→vs.length=ds.length
 | _,_,.nil=>rfl
 | _,_,.cons _ b=>congrArg Nat.succ (HasL.length b)
theorem HasL.get:∀{vs:List V} {ds:List D} {i:Nat} {d:D},HasL K H vs ds→ds[i]? = some d→∃ v,vs[i]? = some v∧Has K H v d
 | _,_,_,_,.nil,e=>by simp at e
 | _,_,0,_,.cons a _,e=>by simp at e;subst e;exact⟨_,rfl,a⟩
 | _,_,i+1,d,.cons _ b,e=>by
  obtain⟨v,h1,h2⟩:=HasL.get (i:=i) (d:=d) b (by simpa using e)
  exact⟨v,by simpa using h1,h2⟩
theorem HasL.getV:∀{vs:List V} {ds:List D} {i:Nat} {v:V},HasL K H vs ds→vs[i]? = some v→∃ d,ds[i]? = some d∧Has K H v d
 | _,_,_,_,.nil,e=>by simp at e
 | _,_,0,_,.cons a _,e=>by simp at e;subst e;exact⟨_,rfl,a⟩
 | _,_,i+1,d,.cons _ b,e=>by
  obtain⟨v,h1,h2⟩:=HasL.getV (i:=i) (v:=d) b (by simpa using e)
  exact⟨v,by simpa using h1,h2⟩
theorem HasL.set{v:V}{d:D}(r:Has K H v d):∀{vs:List V} {ds:List D} (i:Nat),HasL K H vs ds→HasL K H (vs.set i v) (ds.set i d)
 | _,_,_,.nil=>.nil
 | _,_,0,.cons _ t=>.cons r t
 | _,_,i+1,.cons q t=>.cons q (HasL.set r i t)
theorem HasL.append:∀{xs ys:List V} {us ws:List D},HasL K H xs us→HasL K H ys ws→HasL K H (xs++ys) (us++ws)
 | _,_,_,_,.nil,s=>s
 | _,_,_,_,.cons r t,s=>.cons r (HasL.append t s)
theorem HasL.take:∀{xs:List V} {us:List D} (n:Nat),HasL K H xs us→HasL K H (xs.take n) (us.take n)
 | _,_,0,_=>.nil
 | _,_,_+1,.nil=>.nil
 | _,_,n+1,.cons r t=>.cons r (HasL.take n t)
theorem HasL.drop:∀{xs:List V} {us:List D} (n:Nat),HasL K H xs us→HasL K H (xs.drop n) (us.drop n)
 | _,_,0,r=>r
 | _,_,_+1,.nil=>.nil
 | _,_,n+1,.cons _ t=>HasL.drop n t
theorem HasL.ints:∀(ns:List Int),HasL K H (ns.map V.int) (ns.map D.int)
 | []=>.nil
 | n :: r=>.cons (.int n) (HasL.ints r)
end
inductive MO where
 | lst (ds:List D)
 | ins (c:Str) (fs:List (Str × D))
noncomputable abbrev Mem:=Addr→Option MO
noncomputable def j9(M:Mem)(a:Addr)(o:MO):Mem:=fun b=>if b=a then some o else M b
theorem d9{M:Mem}{a:Addr}{o:MO}:j9 M a o a=some o:=by unfold j9;rw[if_pos rfl]
theorem e7{M:Mem}{a b:Addr}{o:MO}(h:b≠a):j9 M a o b=M b:=by unfold j9;rw[if_neg h]
theorem rB{M:Mem}{a:Addr}{o u:MO}:j9 (j9 M a o) a u=j9 M a u:=by
 funext b;unfold j9;by_cases h:b=a<;>simp[h]
structure G0(K:IT)(H:Hp)(ys:List (Str × V))(fs:List (Str × D)):Prop where
 names:ys.map (·.1)=fs.map (·.1)
 has:HasL K H (ys.map (·.2)) (fs.map (·.2))
theorem G0.mono{K:IT}{H H':Hp}(k:KT H H'){ys:List (Str × V)}{fs:List (Str × D)}(h:G0 K H ys fs):G0 K H' ys fs:=⟨h.names,h.has.mono k⟩
theorem G0.mono0{K:IT}{H H':Hp}(k:KT0 H H'){ys:List (Str × V)}{fs:List (Str × D)}(h:G0 K H ys fs):G0 K H' ys fs:=⟨h.names,h.has.mono0 k⟩
noncomputable def MOk(K:IT)(H:Hp)(a:Addr):MO→Prop
 | .lst ds=>∃ xs,H a=some (.lst xs)∧HasL K H xs ds
 | .ins c fs=>∃ C dx ys,H a=some (.ins C dx ys)∧G0 K H ys fs∧PySem.W.nsIn K mainGlobals c=some (some (.ref C))
def m7(K:IT)(H:Hp)(M:Mem):Prop:=∀ a o,M a=some o→MOk K H a o
section
variable {K:IT} {H H':Hp} {M:Mem}
theorem m7.fresh(h:m7 K H M){p:Addr}(e:H p=none):M p=none:=by
 cases q:M p with
 | none=>rfl
 | some o =>
  cases o with
  | lst ds=>obtain⟨xs,z,_⟩:=h p _ q;rw[e]at z;cases z
  | ins C fs=>obtain⟨_,dx,ys,z,_⟩:=h p _ q;rw[e]at z;cases z
theorem m7.alloc(h:m7 K H M){p:Addr}{u:HO}(e:H p=none):m7 K (upd H p u) M:=fun a o m=>by
 have k:KT H (upd H p u):=KT.alloc e
 cases o with
 | lst ds =>
  obtain⟨xs,z,l⟩:=h a _ m
  have hn:a≠p:=B1 z e
  exact⟨xs,by rw[i3 hn];exact z,l.mono k⟩
 | ins C fs =>
  obtain⟨C0,dx,ys,z,l,hc⟩:=h a _ m
  have hn:a≠p:=B1 z e
  exact⟨C0,dx,ys,by rw[i3 hn];exact z,l.mono k,hc⟩
theorem m7.new(h:m7 K H M){p:Addr}{xs:List V}{ds:List D}(e:H p=none)(l:HasL K H xs ds):m7 K (upd H p (.lst xs)) (j9 M p (.lst ds)):=fun a o m=>by
 by_cases q:a=p
 ·subst q
  rw[d9]at m;cases m
  exact⟨xs,j4,l.mono (KT.alloc e)⟩
 ·rw[e7 q]at m
  exact h.alloc e a o m
theorem m7.write(h:m7 K H M){p:Addr}{xs ys:List V}{ds:List D}(e:H p=some (.lst xs))(l:HasL K H ys ds):m7 K (upd H p (.lst ys)) (j9 M p (.lst ds)):=fun a o m=>by
 have k:KT H (upd H p (.lst ys)):=KT.write e
 by_cases q:a=p
 ·subst q
  rw[d9]at m;cases m
  exact⟨ys,j4,l.mono k⟩
 ·rw[e7 q]at m
  cases o with
  | lst es =>
   obtain⟨zs,z,l⟩:=h a _ m
   exact⟨zs,by rw[i3 q];exact z,l.mono k⟩
  | ins C fs =>
   obtain⟨C0,dx,zs,z,l,hc⟩:=h a _ m
   exact⟨C0,dx,zs,by rw[i3 q];exact z,l.mono k,hc⟩
theorem m7.lst(h:m7 K H M){a:Addr}{ds:List D}(m:M a=some (.lst ds)):∃ xs,H a=some (.lst xs)∧HasL K H xs ds:=h a _ m
end
noncomputable abbrev Ev:=List (Option D)
structure t9(K:IT)(H:Hp)(σ:St)(e:Ev):Prop where
 len:σ.length=e.length
 has:∀(i:Nat) (d:D),e[i]? = some (some d)→∃ v,σ[i]? = some (some v)∧Has K H v d
section
variable {K:IT} {H H':Hp} {σ:St} {e:Ev}
theorem t9.mono(k:KT H H')(h:t9 K H σ e):t9 K H' σ e:=⟨h.len,fun i d z=>let ⟨v,a,b⟩:=h.has i d z;⟨v,a,b.mono k⟩⟩
theorem t9.set(h:t9 K H σ e){v:V}{d:D}(r:Has K H v d)(i:Nat):t9 K H (σ.set i (some v)) (e.set i (some d)):=by
 refine⟨by simp[h.len],fun j x z=>?_⟩
 rw[LV]at z ⊢
 by_cases q:i=j
 ·subst q
  rw[if_pos rfl]at z ⊢
  by_cases l:i<e.length
  ·rw[if_pos l]at z
   rw[if_pos (by rw[h.len];exact l)]
   cases z
   exact⟨v,rfl,r⟩
  ·rw[if_neg l]at z;cases z
 ·rw[if_neg q]at z ⊢
  exact h.has j x z
end
noncomputable def C9(N:List Str)(ds:List D):Ev:=ds.map some++Jo (N.length - ds.length) none
theorem t9.start0{K:IT}{H:Hp}{N:List Str}{vs:List V}{ds:List D}(h:HasL K H vs ds):t9 K H (L2.start N vs) (C9 N ds):=by
 have hl:=h.length
 refine⟨by simp[L2.start,C9,hl],fun i d z=>?_⟩
 unfold C9 at z
 unfold L2.start
 rw[KD]at z ⊢
 simp only[IW]at z ⊢
 rw[hl]
 by_cases q:i<ds.length
 ·rw[if_pos q]at z ⊢
  rw[Ju]at z ⊢
  cases e:ds[i]? with
  | none=>rw[e]at z;cases z
  | some x =>
   rw[e]at z
   have z':x=d:=by simpa using z
   subst z'
   obtain⟨v,a,b⟩:=h.get e
   exact⟨v,by rw[a];rfl,b⟩
 ·rw[if_neg q]at z
  rw[JM]at z
  split at z<;>cases z
noncomputable abbrev DK:=D→Mem→Prop
noncomputable abbrev DTE:=Ev→Mem→DK→Prop
noncomputable abbrev DTT:=Ev→Mem→(Bool→Mem→Prop)→Prop
noncomputable abbrev DTA:=Ev→Mem→(List D→Mem→Prop)→Prop
structure E5 where
 nx:Ev→Mem→Prop
 rt:DK
 bk:Ev→Mem→Prop:=fun _ _=>False
 ct:Ev→Mem→Prop:=fun _ _=>False
noncomputable abbrev DTS:=E5→Ev→Mem→Prop
def Z2(K:IT)(H:Hp)(R:DK)(Q:VK):Prop:=∀ d M',R d M'→∀ v H',KT H H'→m7 K H' M'→Has K H' v d→Q v H'
def vG(K:IT)(H:Hp)(R:Bool→Mem→Prop)(Q:Bool→Hp→Prop):Prop:=∀ b M',R b M'→∀ H',KT H H'→m7 K H' M'→Q b H'
def yS(K:IT)(H:Hp)(R:List D→Mem→Prop)(Q:List V→Hp→Prop):Prop:=∀ ds M',R ds M'→∀ vs H',KT H H'→m7 K H' M'→HasL K H' vs ds→Q vs H'
def jv(K:IT)(H:Hp)(R:Ev→Mem→Prop)(Q:St→Hp→Prop):Prop:=∀ e M',R e M'→∀ σ H',KT H H'→m7 K H' M'→t9 K H' σ e→Q σ H'
structure Fit(K:IT)(H:Hp)(F:E5)(E:T4):Prop where
 nx:jv K H F.nx E.nx
 rt:Z2 K H F.rt E.rt
 bk:jv K H F.bk E.bk
 ct:jv K H F.ct E.ct
section
variable {K:IT} {H H':Hp}
theorem Z2.mono{R:DK}{Q:VK}(h:Z2 K H R Q)(k:KT H H'):Z2 K H' R Q:=fun d M r v H2 k2 a b=>h d M r v H2 (k.trans k2) a b
theorem vG.mono{R:Bool→Mem→Prop}{Q:Bool→Hp→Prop}(h:vG K H R Q)(k:KT H H'):vG K H' R Q:=fun d M r H2 k2 a=>h d M r H2 (k.trans k2) a
theorem yS.mono{R:List D→Mem→Prop}{Q:List V→Hp→Prop}(h:yS K H R Q)(k:KT H H'):yS K H' R Q:=fun d M r v H2 k2 a b=>h d M r v H2 (k.trans k2) a b
theorem jv.mono{R:Ev→Mem→Prop}{Q:St→Hp→Prop}(h:jv K H R Q)(k:KT H H'):jv K H' R Q:=fun d M r v H2 k2 a b=>h d M r v H2 (k.trans k2) a b
theorem Fit.mono{F:E5}{E:T4}(h:Fit K H F E)(k:KT H H'):Fit K H' F E:=⟨h.nx.mono k,h.rt.mono k,h.bk.mono k,h.ct.mono k⟩
end
def up(K:IT)(t:DTE):TE:=fun σ H Q=>∃ e M R,t9 K H σ e∧m7 K H M∧t e M R∧Z2 K H R Q
def upT(K:IT)(t:DTT):TT:=fun σ H Q=>∃ e M R,t9 K H σ e∧m7 K H M∧t e M R∧vG K H R Q
def upA(K:IT)(t:DTA):TA:=fun σ H Q=>∃ e M R,t9 K H σ e∧m7 K H M∧t e M R∧yS K H R Q
def upS(K:IT)(t:DTS):TS:=fun E σ H=>∃ e M F,t9 K H σ e∧m7 K H M∧t F e M∧Fit K H F E
abbrev DPE(X:Cx)(x:Expr)(t:DTE):Prop:=PE X x (up X.K t)
abbrev DPT(X:Cx)(x:Expr)(t:DTT):Prop:=PT X x (upT X.K t)
abbrev DPW(X:Cx)(x:Expr)(t:DTT):Prop:=PW X x (upT X.K t)
abbrev DPA(X:Cx)(x:List Expr)(t:DTA):Prop:=PA X x (upA X.K t)
abbrev DPS(X:Cx)(x:Stmt)(t:DTS):Prop:=PS X x (upS X.K t)
abbrev Hn(X:Cx)(x:List Stmt)(t:DTS):Prop:=PSs X x (upS X.K t)
structure JE(X:Cx)(x:Expr)(t:DTE):Prop where
 out:DPE X x t
structure JT(X:Cx)(x:Expr)(t:DTT):Prop where
 out:DPT X x t
structure JW(X:Cx)(x:Expr)(t:DTT):Prop where
 out:DPW X x t
structure JA(X:Cx)(x:List Expr)(t:DTA):Prop where
 out:DPA X x t
structure JS(X:Cx)(x:Stmt)(t:DTS):Prop where
 out:DPS X x t
structure JSs(X:Cx)(x:List Stmt)(t:DTS):Prop where
 out:Hn X x t
section
variable {X:Cx} {a b c:Expr} {ta tb tc:DTE} {pos:Pos}
def ax(i:Nat):DTE:=fun e M R=>∃ d,e[i]? = some (some d)∧R d M
def dC(d:D):DTE:=fun _ M R=>R d M
theorem a8(i:Nat){x:Str}{pos:Pos}(hN:X.N[i]? = some x:=by rfl)(hv:Vis X.env.scope x:=by first|exact Or.inl rfl|exact Or.inr (Or.inl rfl)|exact Or.inr (Or.inr rfl))(hd:(x == ("__debug__" : Str))=false:=by decide)
  (hcd:(x == ("__classdict__" : Str))=false:=by decide):JE X (.Name x pos) (ax i):=⟨(Cg hN hv hd hcd).imp (by
  rintro σ H Q ⟨e,M,R,ok,am,⟨d,z,r⟩,f⟩
  obtain⟨v,h1,h2⟩:=ok.has i d z
  exact⟨v,h1,f d M r v H (KT.refl H) am h2⟩)⟩
theorem P8{v:V}{d:D}(h:PE X a (tC v))(r:∀ H,Has X.K H v d):DPE X a (dC d) :=
 h.imp (by rintro σ H Q ⟨e,M,R,ok,am,z,f⟩;exact f d M z v H (KT.refl H) am (r H))
theorem d3{i j pos}:JE X (.Constant (.int i) j pos) (dC (.int i)):=⟨P8 Cn fun _=>.int i⟩
theorem w6{b j pos}:JE X (.Constant (.bool b) j pos) (dC (.bl b)):=⟨P8 Fh fun _=>.bl b⟩
theorem Y2{j pos}:JE X (.Constant .none j pos) (dC .non):=⟨P8 Cm fun _=>.non⟩
theorem e6{x j pos}:JE X (.Constant (.str x) j pos) (dC (.str x)):=⟨P8 Ci fun _=>.str x⟩
def DR(K:IT)(v:V)(d:D):Prop:=∀ H,Has K H v d
theorem Dr{x:Str}{v:V}{d:D}{u:Value}{pos:Pos}(hg:Gl X x)(hm:X.mg x=some u)(r:o8 v u)(hk:DR X.K v d)(hd:(x == ("__debug__" : Str))=false:=by decide):DPE X (.Name x pos) (dC d) :=
 P8 (fm hg hm r hd) hk
noncomputable abbrev DR2:=D→D→Mem→DK→Prop
def upR(K:IT)(g:DR2):R2:=fun x y H Q=>∃ dx dy M R,Has K H x dx∧Has K H y dy∧m7 K H M∧g dx dy M R∧Z2 K H R Q
def DOp(X:Cx)(f:Value→Value→Sem Value)(g:DR2):Prop:=OpR X f (upR X.K g)
def dOp(g:DR2)(ta tb:DTE):DTE:=fun e M R=>ta e M fun x M1=>tb e M1 fun y M2=>g x y M2 R
theorem eC{ta tb:DTE}{g:DR2}{σ:St}{H:Hp}{Q:VK}(h:up X.K (dOp g ta tb) σ H Q):tOp (upR X.K g) (up X.K ta) (up X.K tb) σ H Q:=by
 obtain⟨e,M,R,ok,am,t,f⟩:=h
 refine⟨e,M,_,ok,am,t,fun x M1 h1 v H1 k1 a1 r1=>?_⟩
 refine⟨e,M1,_,ok.mono k1,a1,h1,fun y M2 h2 u H2 k2 a2 r2=>?_⟩
 exact⟨x,y,M2,R,r1.mono k2,r2,a2,h2,f.mono (k1.trans k2)⟩
theorem j3{op:Operator}{g:DR2}(ho:DOp X (binaryOp op) g)(ha:JE X a ta)(hb:JE X b tb):JE X (.BinOp a op b pos) (dOp g ta tb):=⟨have ha:=ha.out;have hb:=hb.out;(Ai ho ha hb).imp fun _ _ _ h=>eC h⟩
theorem CV{op:CmpOp}{g:DR2}(ho:DOp X (compareOp op) g)(ha:JE X a ta)(hb:JE X b tb)(hm:behindInMarks op b=false):JE X (.Compare a [op] [b] pos) (dOp g ta tb):=⟨have ha:=ha.out;have hb:=hb.out;(xH ho ha hb hm).imp fun _ _ _ h=>eC h⟩
def ja(t:DTE):DTT:=fun e M R=>t e M fun x M'=>∃ k,x = .bl k∧R k M'
theorem bJ{K:IT}{H:Hp}{R:Bool→Mem→Prop}{Q:Bool→Hp→Prop}(f:vG K H R Q):Z2 K H (fun x M'=>∃ k,x = .bl k∧R k M') (fun x H'=>∃ k,x = .bl k∧Q k H'):=by
 rintro d M' ⟨k,rfl,r⟩ v H' kt am h
 cases h
 exact⟨k,rfl,f k M' r H' kt am⟩
theorem ye{op:CmpOp}{g:DR2}(ho:DOp X (compareOp op) g)(ha:JE X a ta)(hb:JE X b tb)(hm:behindInMarks op b=false):JT X (.Compare a [op] [b] pos) (ja (dOp g ta tb)):=⟨have ha:=ha.out;have hb:=hb.out;(mZ ho ha hb hm).imp (by rintro σ H Q ⟨e,M,R,ok,am,t,f⟩;exact eC (Q:=fun x H'=>∃ k,x = .bl k∧Q k H') ⟨e,M,_,ok,am,t,bJ f⟩)⟩
theorem f9{x:Expr}{t:DTE}(h:JE X x t)(he:∀ whole,isTrue x X.env whole=(do let v ← whole;standAt x.pos;holding [v] (truthy v)):=by intro _;rfl):JT X x (ja t):=⟨have h:=h.out;(BU h he).imp (by rintro σ H Q ⟨e,M,R,ok,am,t,f⟩;exact⟨e,M,_,ok,am,t,bJ f⟩)⟩
noncomputable def fI(f:Int→Int→D):D→D→Option D
 | .int i,.int j=>some (f i j)
 | _,_=>none
def gF(f:D→D→Option D):DR2:=fun x y M R=>∃ z,f x y=some z∧R z M
def gI(C:Int→Int→Prop)(f:Int→Int→D):DR2:=fun x y M R=>∃ i j,x = .int i∧y = .int j∧C i j∧R (f i j) M
theorem fU{f:Int→Int→D}{x y z:D}(h:fI f x y=some z):∃ i j,x = .int i∧y = .int j∧z=f i j:=by
 cases x with
 | int i =>
  cases y with
  | int j=>exact⟨i,j,rfl,rfl,(Option.some.inj h).symm⟩
  | _=>cases h
 | _=>cases h
theorem nO{f:Value→Value→Sem Value}{C:Int→Int→Prop}{g:Int→Int→V}{g':Int→Int→D}(h:OpR X f (rI C g))(hg:∀ i j H,Has X.K H (g i j) (g' i j)):DOp X f (gI C g') :=
 OpR.imp h (by
  rintro x y H Q ⟨dx,dy,M,R,hx,hy,am,⟨i,j,e1,e2,hc,r⟩,f⟩
  subst e1;subst e2
  cases hx;cases hy
  exact⟨i,j,rfl,rfl,hc,f _ M r _ H (KT.refl H) am (hg i j H)⟩)
theorem cH{f:Value→Value→Sem Value}{g:Int→Int→V}{g':Int→Int→D}(h:OpR X f (rI0 g))(hg:∀ i j H,Has X.K H (g i j) (g' i j)):DOp X f (gF (fI g')) :=
 OpR.imp h (by
  rintro x y H Q ⟨dx,dy,M,R,hx,hy,am,⟨z,e,r⟩,f⟩
  obtain⟨i,j,e1,e2,e3⟩:=fU e
  subst e1;subst e2;subst e3
  cases hx;cases hy
  exact⟨i,j,rfl,rfl,f _ M r _ H (KT.refl H) am (hg i j H)⟩)
theorem Q5:DOp X (binaryOp .Add) (gF (fI fun i j=>.int (i+j))):=cH Cy fun _ _ _=>.int _
theorem dZ:DOp X (binaryOp .Sub) (gF (fI fun i j=>.int (i - j))):=cH Ct fun _ _ _=>.int _
theorem Q3:DOp X (compareOp .Lt) (gF (fI fun i j=>.bl (decide (i<j)))):=cH Fi fun _ _ _=>.bl _
theorem iH:DOp X (compareOp .Gt) (gF (fI fun i j=>.bl (decide (j<i)))):=cH Fj fun _ _ _=>.bl _
theorem xS:DOp X (compareOp .GtE) (gF (fI fun i j=>.bl (decide (j≤i)))):=cH Fl fun _ _ _=>.bl _
theorem ah:DOp X (binaryOp .Mod) (gI (fun _ j=>0<j) fun i j=>.int (i % j)):=nO Cw fun _ _ _=>.int _
theorem ed:DOp X (binaryOp .Pow) (gI vK fun i j=>.int (i ^ j.toNat)):=nO Cv fun _ _ _=>.int _
noncomputable def gU(f:Int→D):D→Mem→DK→Prop:=fun x M R=>∃ i,x = .int i∧R (f i) M
def dUn(g:D→Mem→DK→Prop)(ta:DTE):DTE:=fun e M R=>ta e M fun x M1=>g x M1 R
theorem ud(ha:JE X a ta):JE X (.UnaryOp .USub a pos) (dUn (gU fun i=>.int (-i)) ta):=⟨have ha:=ha.out;(Ff Bp ha).imp (by rintro σ H Q ⟨e,M,R,ok,am,t,f⟩;exact⟨e,M,_,ok,am,t,fun x M1 ⟨i,z,r⟩ v H1 k1 a1 r1=>by
  subst z;cases r1;exact⟨i,rfl,f _ M1 r _ H1 k1 a1 (.int _)⟩⟩)⟩
variable {tA tB':DTT} {B0:List Expr}
def FX(t u:DTT):DTT:=fun e M R=>t e M fun c M1=>if c=true then u e M1 R else R false M1
def dOr(t u:DTT):DTT:=fun e M R=>t e M fun c M1=>if c=true then R true M1 else u e M1 R
def FO(t:DTT):DTT:=fun e M R=>t e M fun c M1=>R (!c) M1
theorem nA(ha:JT X a tA):JW X (.BoolOp .And [a] pos) tA:=⟨have ha:=ha.out;xv ha⟩
theorem m8(ha:JT X a tA):JW X (.BoolOp .Or [a] pos) tA:=⟨have ha:=ha.out;BR ha⟩
theorem km(ha:JT X a tA)(hb:JW X (.BoolOp .And (b :: B0) pos) tB'):JW X (.BoolOp .And (a :: b :: B0) pos) (FX tA tB'):=⟨have ha:=ha.out;have hb:=hb.out;(BS ha hb).imp (by rintro σ H Q ⟨e,M,R,ok,am,t,f⟩;exact⟨e,M,_,ok,am,t,fun k M1 h1 H1 k1 a1=>by
  cases k with
  | true=>exact⟨e,M1,R,ok.mono k1,a1,h1,f.mono k1⟩
  | false=>exact f false M1 h1 H1 k1 a1⟩)⟩
theorem o6(ha:JT X a tA)(hb:JW X (.BoolOp .Or (b :: B0) pos) tB'):JW X (.BoolOp .Or (a :: b :: B0) pos) (dOr tA tB'):=⟨have ha:=ha.out;have hb:=hb.out;(Fe ha hb).imp (by rintro σ H Q ⟨e,M,R,ok,am,t,f⟩;exact⟨e,M,_,ok,am,t,fun k M1 h1 H1 k1 a1=>by
  cases k with
  | true=>exact f true M1 h1 H1 k1 a1
  | false=>exact⟨e,M1,R,ok.mono k1,a1,h1,f.mono k1⟩⟩)⟩
theorem i6(ha:JT X a tA):JT X (.UnaryOp .Not a pos) (FO tA):=⟨have ha:=ha.out;(BV ha).imp (by rintro σ H Q ⟨e,M,R,ok,am,t,f⟩;exact⟨e,M,_,ok,am,t,fun k M1 h1 H1 k1 a1=>f (!k) M1 h1 H1 k1 a1⟩)⟩
theorem t4{x:Expr}{t:DTT}(h:JW X x t):JT X x t:=⟨have h:=h.out;PW.pt h⟩
def AS(ta tb:DTE):DTE:=fun e M R=>ta e M fun x M1=>∃ c,x = .bl c∧if c=true then tb e M1 R else R (.bl false) M1
def FN(ta tb:DTE):DTE:=fun e M R=>ta e M fun x M1=>∃ c,x = .bl c∧if c=true then R (.bl true) M1 else tb e M1 R
def AN(ta:DTE):DTE:=fun e M R=>ta e M fun x M1=>∃ c,x = .bl c∧R (.bl (!c)) M1
theorem B8{op}{t:DTE}(h:JE X a t):JE X (.BoolOp op [a] pos) t:=⟨have h:=h.out;Cj h⟩
theorem E6(ha:JE X a ta)(hb:JE X (.BoolOp .And (b :: B0) pos) tb):JE X (.BoolOp .And (a :: b :: B0) pos) (AS ta tb):=⟨have ha:=ha.out;have hb:=hb.out;(Cr ha hb).imp (by rintro σ H Q ⟨e,M,R,ok,am,t,f⟩;exact⟨e,M,_,ok,am,t,fun x M1 ⟨k,z,h1⟩ v H1 k1 a1 r1=>by
  subst z;cases r1
  refine⟨k,rfl,?_⟩
  cases k with
  | true=>exact⟨e,M1,R,ok.mono k1,a1,h1,f.mono k1⟩
  | false=>exact f _ M1 h1 _ H1 k1 a1 (.bl _)⟩)⟩
theorem ki(ha:JE X a ta)(hb:JE X (.BoolOp .Or (b :: B0) pos) tb):JE X (.BoolOp .Or (a :: b :: B0) pos) (FN ta tb):=⟨have ha:=ha.out;have hb:=hb.out;(Fg ha hb).imp (by rintro σ H Q ⟨e,M,R,ok,am,t,f⟩;exact⟨e,M,_,ok,am,t,fun x M1 ⟨k,z,h1⟩ v H1 k1 a1 r1=>by
  subst z;cases r1
  refine⟨k,rfl,?_⟩
  cases k with
  | true=>exact f _ M1 h1 _ H1 k1 a1 (.bl _)
  | false=>exact⟨e,M1,R,ok.mono k1,a1,h1,f.mono k1⟩⟩)⟩
theorem L6(ha:JE X a ta):JE X (.UnaryOp .Not a pos) (AN ta):=⟨have ha:=ha.out;(Ck ha).imp (by rintro σ H Q ⟨e,M,R,ok,am,t,f⟩;exact⟨e,M,_,ok,am,t,fun x M1 ⟨k,z,h1⟩ v H1 k1 a1 r1=>by
  subst z;cases r1
  exact⟨k,rfl,f _ M1 h1 _ H1 k1 a1 (.bl _)⟩⟩)⟩
def dIf(t:DTT)(ta tb:DTE):DTE:=fun e M R=>t e M fun c M1=>if c=true then ta e M1 R else tb e M1 R
theorem F6(hc:JT X c tA)(ha:JE X a ta)(hb:JE X b tb):JE X (.IfExp c a b pos) (dIf tA ta tb):=⟨have hc:=hc.out;have ha:=ha.out;have hb:=hb.out;(iq hc ha hb).imp (by rintro σ H Q ⟨e,M,R,ok,am,t,f⟩;exact⟨e,M,_,ok,am,t,fun k M1 h1 H1 k1 a1=>by
  cases k with
  | true=>exact⟨e,M1,R,ok.mono k1,a1,h1,f.mono k1⟩
  | false=>exact⟨e,M1,R,ok.mono k1,a1,h1,f.mono k1⟩⟩)⟩
def yy:DTA:=fun _ M R=>R [] M
def uS(ta:DTE)(tr:DTA):DTA:=fun e M R=>ta e M fun x M1=>tr e M1 fun xs M2=>R (x :: xs) M2
variable {es:List Expr} {tr:DTA}
theorem a9:JA X [] yy:=⟨L5.imp (by rintro σ H Q ⟨e,M,R,ok,am,t,f⟩;exact f [] M t [] H (KT.refl H) am .nil)⟩
theorem a7(ha:JE X a ta)(hr:JA X es tr)(hs:starEach (a :: es) X.env=(false,eval a X.env) :: starEach es X.env:=by rfl):JA X (a :: es) (uS ta tr):=⟨have ha:=ha.out;have hr:=hr.out;(A8 ha hr hs).imp (by rintro σ H Q ⟨e,M,R,ok,am,t,f⟩;exact⟨e,M,_,ok,am,t,fun x M1 h1 v H1 k1 a1 r1 =>
  ⟨e,M1,_,ok.mono k1,a1,h1,fun xs M2 h2 vs H2 k2 a2 r2=>f _ M2 h2 _ H2 (k1.trans k2) a2 (.cons (r1.mono k2) r2)⟩⟩)⟩
def Du(t:DTA):DTE:=fun e M R=>t e M fun ds M1=>ds.length≤sizeLine∧R (.tup ds) M1
def FP(t:DTA):DTE:=fun e M R=>t e M fun ds M1=>ds.length≤sizeLine∧∀ p,M1 p=none→R (.ref p) (j9 M1 p (.lst ds))
theorem i8{x1}(h:JA X es tr):JE X (.Tuple es x1 pos) (Du tr):=⟨have h:=h.out;(jW h).imp (by rintro σ H Q ⟨e,M,R,ok,am,t,f⟩;exact⟨e,M,_,ok,am,t,fun ds M1 ⟨hz,h1⟩ vs H1 k1 a1 r1=>by
  refine⟨by rw[r1.length];exact hz,fun p hp=>?_⟩
  have k2:KT H1 (upd H1 p (.tup vs)):=KT.alloc hp
  exact f _ M1 h1 _ _ (k1.trans k2) (a1.alloc hp) (.tup (SqT.of j4) (r1.mono k2))⟩)⟩
theorem J1(h:JA X es tr):JE X (.List es pos) (FP tr):=⟨have h:=h.out;(jX h).imp (by rintro σ H Q ⟨e,M,R,ok,am,t,f⟩;exact⟨e,M,_,ok,am,t,fun ds M1 ⟨hz,h1⟩ vs H1 k1 a1 r1=>by
  refine⟨by rw[r1.length];exact hz,fun p hp=>?_⟩
  have k2:KT H1 (upd H1 p (.lst vs)):=KT.alloc hp
  exact f _ _ (h1 p (a1.fresh hp)) _ _ (k1.trans k2) (a1.new hp r1) (.ref p)⟩)⟩
theorem HasL.at{K:IT}{H:Hp}{vs:List V}{ds:List D}(h:HasL K H vs ds){i:Int}{z:D}(e:atI ds i=some z):∃ v,atI vs i=some v∧Has K H v z:=by
 unfold atI at e ⊢
 rw[h.length]
 cases q:ixN ds.length i with
 | none=>rw[q]at e;cases e
 | some j =>
  rw[q]at e
  exact h.get e
def DIx(X:Cx)(g:DR2):Prop:=IxR X (upR X.K g)
theorem Fu{g:DR2}(hr:DIx X g)(ha:JE X a ta)(hb:JE X b tb)(hs:bc b):JE X (.Subscript a b pos) (dOp g ta tb):=⟨have ha:=ha.out;have hb:=hb.out;(Aj hr ha hb hs).imp fun _ _ _ h=>eC h⟩
noncomputable abbrev DXK:=Value→Mem→Prop
noncomputable abbrev DSp:=List D→Mem→DK→DXK→Prop
def DT(K:IT)(H:Hp)(Y:DXK)(E:XK):Prop:=∀ c M',Y c M'→∀ o H',KT H H'→m7 K H' M'→E c o H'
noncomputable def eA(K:IT)(sp:DSp):Sp:=fun vs H Q E=>∃ ds M R Y,HasL K H vs ds∧m7 K H M∧sp ds M R Y∧Z2 K H R Q∧DT K H Y E
def nV(sp:DSp)(dds:List D)(Y:DXK)(t:DTA):DTE:=fun e M R=>t e M fun ds M1=>sp (ds++dds) M1 R Y
end
section
variable {X:Cx} {CX:CXT} {k:Nat} {f C:Addr} {fd:FuncData} {ps:List Str} {sp:DSp} {dvs:List V} {dds:List D} {ds:List Value} {E:XK} {Y:DXK} {x m:Str} {p pos apos:Pos} {e o:Expr} {es:List Expr} {t:DTA}
theorem Ds(F:E8 X.prog X.w X.K X.mg X.base CX k f fd ps (eA X.K sp))(hr:z4 k X.A)(hg:Gl X x)(hm:X.mg x=some (.ref f))(hk:PySem.W.keepIn X.K (.ref f)=true)(hb:G3 X.K fd ps ds)(hd:i9 dvs ds)(hdd:∀ H,HasL X.K H dvs dds)(hx:O8 CX X E)(hY:∀ H,DT X.K H Y E)
  (ha:DPA X (e :: es) t) (hdb:(x == ("__debug__" : Str))=false:=by decide) (he:starEach (e :: es) X.env=(false,eval e X.env) :: starEach es X.env:=by rfl) (hpl:(backTo pos (starEach es X.env)).any (·.1)=false:=by rfl) :
  DPE X (.Call (.Name x p) (e :: es) [] pos) (nV sp dds Y t) :=
 (ni F hr hg hm hk hb hd hx ha hdb he hpl).imp (by rintro σ H Q ⟨e,M,R,ok,am,t,f⟩;exact⟨e,M,_,ok,am,t,fun xs M1 h1 vs H1 k1 a1 r1 =>
  ⟨xs++dds,M1,R,Y,r1.append (hdd H1),a1,h1,f.mono k1,hY H1⟩⟩)
end
section
variable {X:Cx} {st:Stmt} {B0:List Stmt} {t u:DTS} {e:Expr} {te:DTE} {pos:Pos}
def uN:DTS:=fun F e M=>F.nx e M
def Dv(t u:DTS):DTS:=fun F e M=>t { F with nx:=u F } e M
theorem f7:JSs X [] uN:=⟨ng.imp (by rintro E σ H ⟨e,M,F,ok,am,t,f⟩;exact f.nx e M t σ H (KT.refl H) am ok)⟩
theorem d4(h1:JS X st t)(h2:JSs X B0 u):JSs X (st :: B0) (Dv t u):=⟨have h1:=h1.out;have h2:=h2.out;(cc h1 h2).imp (by rintro E σ H ⟨e,M,F,ok,am,t,f⟩;exact⟨e,M,{ F with nx:=u F },ok,am,t,⟨fun e' M' h σ' H' k a o=>⟨e',M',F,o,a,h,f.mono k⟩,f.rt,f.bk,f.ct⟩⟩)⟩
theorem d5(h1:JS X st t):JSs X [st] t:=⟨have h1:=h1.out;nc h1⟩
def AQ(te:DTE):DTS:=fun F e M=>te e M fun _ M1=>F.nx e M1
theorem F5(he:JE X e te)(hs:swapsWith e none pos.line X.env=pure false:=by rfl):JS X (.Expr e pos) (AQ te):=⟨have he:=he.out;(xx he hs).imp (by rintro E σ H ⟨e,M,F,ok,am,t,f⟩;exact⟨e,M,_,ok,am,t,fun d M1 h1 v H1 k1 a1 r1=>f.nx e M1 h1 σ H1 k1 a1 (ok.mono k1)⟩)⟩
def Dw(te:DTE):DTS:=fun F e M=>te e M F.rt
theorem d6(he:JE X e te):JS X (.Return (some e) pos) (Dw te):=⟨have he:=he.out;(sZ he).imp (by rintro E σ H ⟨e,M,F,ok,am,t,f⟩;exact⟨e,M,_,ok,am,t,f.rt⟩)⟩
def Dy(c:DTT)(t u:DTS):DTS:=fun F e M=>c e M fun b M1=>if b=true then t F e M1 else u F e M1
theorem g5{c:Expr}{a b:List Stmt}{tc:DTT}(hc:JT X c tc)(ha:JSs X a t)(hb:JSs X b u):JS X (.If c a b pos) (Dy tc t u):=⟨have hc:=hc.out;have ha:=ha.out;have hb:=hb.out;(Ah hc ha hb).imp (by rintro E σ H ⟨e,M,F,ok,am,t,f⟩;exact⟨e,M,_,ok,am,t,fun k M1 h1 H1 k1 a1=>by
  cases k with
  | true=>exact⟨e,M1,F,ok.mono k1,a1,h1,f.mono k1⟩
  | false=>exact⟨e,M1,F,ok.mono k1,a1,h1,f.mono k1⟩⟩)⟩
def uO:DTS:=fun _ _ _=>False
theorem p4:JS X st uO:=⟨td.imp (by rintro E σ H ⟨_,_,_,_,_,t,_⟩;exact t)⟩
noncomputable abbrev DTG:=D→Ev→Mem→(Ev→Mem→Prop)→Prop
noncomputable abbrev V9:=List D→Ev→Mem→(Ev→Mem→Prop)→Prop
def upG(K:IT)(g:DTG):TG:=fun v σ H Q=>∃ d e M R,Has K H v d∧t9 K H σ e∧m7 K H M∧g d e M R∧jv K H R Q
def Gn(K:IT)(g:V9):TGs:=fun vs σ H Q=>∃ ds e M R,HasL K H vs ds∧t9 K H σ e∧m7 K H M∧g ds e M R∧jv K H R Q
abbrev DPG(X:Cx)(x:Expr)(g:DTG):Prop:=PG X x (upG X.K g)
abbrev Ho(X:Cx)(x:List Expr)(g:V9):Prop:=PGs X x (Gn X.K g)
structure JG(X:Cx)(x:Expr)(g:DTG):Prop where
 out:DPG X x g
structure JGs(X:Cx)(x:List Expr)(g:V9):Prop where
 out:Ho X x g
def Y7(i:Nat):DTG:=fun d e M R=>R (e.set i (some d)) M
theorem ua{i:Nat}{x:Str}(hN:X.N.Nodup)(hi:X.N[i]? = some x)(hx:Loc X.env.scope x)(hf:X.fn x=true∨X.env.scope.names.lookup x=some .local:=by first|exact .inl rfl|exact .inr rfl|assumption):JG X (.Name x pos) (Y7 i):=⟨PG.imp (xD hN hi hx hf) (by rintro v σ H Q ⟨d,e,M,R,r,ok,am,g,f⟩;exact f _ M g _ H (KT.refl H) am (ok.set r i))⟩
def AI:V9:=fun ds e M R=>ds=[]∧R e M
def uJ(t:DTG)(u:V9):V9:=fun ds e M R=>∃ d r,ds=d :: r∧t d e M fun e' M'=>u r e' M' R
theorem j8:JGs X [] AI:=⟨PGs.imp xC (by
 rintro v σ H Q ⟨ds,e,M,R,r,ok,am,⟨z,g⟩,f⟩
 subst z;cases r;exact⟨rfl,f e M g σ H (KT.refl H) am ok⟩)⟩
end
section
variable {X:Cx} {st:Stmt} {B0:List Stmt} {t u:DTS} {e:Expr} {te:DTE} {pos:Pos}
theorem d8{x:Expr}{xs:List Expr}{t:DTG}{u:V9}(h1:JG X x t)(h2:JGs X xs u)
  (hs:(assignEach (x :: xs) X.env).map (·.2)=assign x X.env :: (assignEach xs X.env).map (·.2):=by rfl):JGs X (x :: xs) (uJ t u):=⟨have h1:=h1.out;have h2:=h2.out;PGs.imp (tq h1 h2 hs) (by
  rintro vs σ H Q ⟨ds,e,M,R,r,ok,am,⟨d,dr,z,g⟩,f⟩
  subst z
  cases r with
  | cons r rr=>exact⟨_,_,rfl,d,e,M,_,r,ok,am,g,fun e1 M1 h1 σ1 H1 k1 a1 ok1=>⟨dr,e1,M1,R,rr.mono k1,ok1,a1,h1,f.mono k1⟩⟩)⟩
def iZ(n:Nat)(t:V9):DTG:=fun d e M R=>∃ ds,d = .tup ds∧ds.length=n∧t ds e M R
theorem m9{xs:List Expr}{k:Nat}{t:V9}{n:Nat}(hc:X.calm=true)(h:JGs X xs t)
  (hn:(assignEach xs X.env).length=n:=by rfl) (hst:(assignEach xs X.env).findIdx? (·.1)=none:=by rfl):JG X (.Tuple xs k pos) (iZ n t):=⟨have h:=h.out;PG.imp (Ce hc h hn hst) (by
  rintro v σ H Q ⟨d,e,M,R,r,ok,am,⟨ds,z,hl,g⟩,f⟩
  subst z
  cases r with
  | tup s l=>exact⟨_,_,rfl,s,by rw[l.length];exact hl,ds,e,M,R,l,ok,am,g,f⟩)⟩
noncomputable abbrev vI:=D→D→D→Mem→(Mem→Prop)→Prop
noncomputable def Au:vI:=fun o i v M R=>∃ p ds k j,o = .ref p∧i = .int k∧M p=some (.lst ds)∧ixN ds.length k=some j∧R (j9 M p (.lst (ds.set j v)))
def AH(to ti:DTE)(t:vI):DTG:=fun d e M R=>to e M fun o M1=>ti e M1 fun i M2=>t o i d M2 fun M3=>R e M3
theorem aT{o i:Expr}{to ti:DTE}(ho:JE X o to)(hi:JE X i ti)
  (ha:∀ v,assign (.Subscript o i pos) X.env v=(do
   let ov ← holding [v] (eval o X.env)
   let iv ← holding [v,ov] (eval i X.env)
   standAt pos
   holding [v,ov,iv] (setItem ov iv v)
   release [v,ov,iv] []):=by intro _;rfl):JG X (.Subscript o i pos) (AH to ti Au):=⟨have ho:=ho.out;have hi:=hi.out;PG.imp (Cf ho hi rV ha) fun v σ H Q ⟨d,e,M,R,r,ok,am,g,f⟩ =>
  ⟨e,M,_,ok,am,g,fun x M1 h1 vo H1 k1 a1 r1=>⟨e,M1,_,ok.mono k1,a1,h1,fun y M2 ⟨p,ds,k,j,e1,e2,e3,e4,h2⟩ vi H2 k2 a2 r2=>by
   subst e1;subst e2
   cases r1;cases r2
   obtain⟨xs,hx,l⟩:=a2.lst e3
   have kt:KT H H2:=k1.trans k2
   have kw:KT H2 (upd H2 p (.lst (xs.set j v))):=KT.write hx
   exact⟨p,xs,k,j,rfl,rfl,hx,by rw[l.length];exact e4,f e _ h2 σ _ (kt.trans kw) (a2.write hx (l.set (r.mono kt) j)) ((ok.mono kt).mono kw)⟩⟩⟩⟩
def uV(te:DTE)(g:DTG):DTS:=fun F e M=>te e M fun x M1=>g x e M1 F.nx
theorem m5{tg x:Expr}{tx:DTE}{g:DTG}(he:JE X x tx)(hg:JG X tg g)(hs:swapsWithSole [tg] x pos.line X.env=pure false:=by rfl)(hw:swappedStores [tg] x X.env=pure none:=by rfl)
  (h1:(assignEach [tg] X.env).map (·.2)=[assign tg X.env]:=by rfl):JS X (.Assign [tg] x pos) (uV tx g):=⟨have he:=he.out;have hg:=hg.out;(BZ he hg hs hw h1).imp (by rintro E σ H ⟨e,M,F,ok,am,t,f⟩;exact⟨e,M,_,ok,am,t,fun d M1 h1 v H1 k1 a1 r1=>⟨d,e,M1,F.nx,r1,ok.mono k1,a1,h1,f.nx.mono k1⟩⟩)⟩
theorem yd{i:Nat}{x:Str}{tx:DTE}{pos':Pos}(hN:X.N.Nodup)(hi:X.N[i]? = some x)(hx:Loc X.env.scope x)(he:JE X e tx)(hs:swapsWith e (some (.Name x pos')) pos.line X.env=pure false:=by rfl)(hf:X.fn x=true∨X.env.scope.names.lookup x=some .local:=by first|exact .inl rfl|exact .inr rfl|assumption):JS X (.Assign [.Name x pos'] e pos) (uV tx (Y7 i)):=⟨have he:=he.out;(sY hN hi hx he hs hf).imp (by rintro E σ H ⟨e,M,F,ok,am,t,f⟩;exact⟨e,M,_,ok,am,t,fun d M1 h1 v H1 k1 a1 r1=>f.nx _ M1 h1 _ H1 k1 a1 ((ok.mono k1).set r1 i)⟩)⟩
def FL(i j:Nat)(ta:DTA):DTS:=fun F e M=>ta e M fun ds M1=>∃ x y,ds=[x,y]∧F.nx ((e.set i (some x)).set j (some y)) M1
theorem aR{i j:Nat}{x y:Str}{a b:Expr}{ta:DTA}{px py pt:Pos}{kt k2 pt2}(hc:X.calm=true)(hN:X.N.Nodup)(hi:X.N[i]? = some x)(hj:X.N[j]? = some y)(hij:i≠j)
  (hx:X.env.scope.names.lookup x=some .local) (hy:X.env.scope.names.lookup y=some .local) (ha:JA X [a,b] ta)
  (hw:swappedStores [.Tuple [.Name x px,.Name y py] kt pt] (.Tuple [a,b] k2 pt2) X.env=pure (some [x,y]):=by rfl)
  (hs:swapsWithSole [.Tuple [.Name x px,.Name y py] kt pt] (.Tuple [a,b] k2 pt2) pos.line X.env=pure false:=by rfl):JS X (.Assign [.Tuple [.Name x px,.Name y py] kt pt] (.Tuple [a,b] k2 pt2) pos) (FL i j ta):=⟨have ha:=ha.out;(BW hc hN hi hj hij hx hy ha hw hs).imp (by rintro E σ H ⟨e,M,F,ok,am,t,f⟩;exact⟨e,M,_,ok,am,t,fun ds M1 ⟨x,y,z,h1⟩ vs H1 k1 a1 r1=>by
  subst z
  cases r1 with
  | cons r1 rr =>
   cases rr with
   | cons r2 rr =>
    cases rr
    exact⟨_,_,rfl,f.nx _ M1 h1 _ H1 k1 a1 (((ok.mono k1).set r1 i).set r2 j)⟩⟩)⟩
def uL(c:DTT)(tb:DTS):DTS:=fun F e M=>∃ W:Nat→Ev→Mem→Prop,(∃ m,W m e M)∧∀ m e M,W m e M →
 c e M fun b M1=>if b=true then tb { F with nx:=fun e' M'=>∃ m',m'<m∧W m' e' M',ct:=fun e' M'=>∃ m',m'<m∧W m' e' M',bk:=F.nx } e M1 else F.nx e M1
theorem Y1{c:Expr}{body:List Stmt}{tc:DTT}{tb:DTS}(hp:PassesOwn (model X.prog X.w) X.A X.env X.xe)(hc:JT X c tc)(hb:JSs X body tb):JS X (.While c body [] pos) (uL tc tb):=⟨have hc:=hc.out;have hb:=hb.out;(sX hp hc hb).imp (by
  rintro E σ H ⟨e,M,F,ok,am,⟨W,⟨m0,w0⟩,turn⟩,f⟩
  refine⟨fun m σ' H'=>∃ e' M',KT H H'∧t9 X.K H' σ' e'∧m7 X.K H' M'∧W m e' M',⟨m0,e,M,KT.refl H,ok,am,w0⟩,?_⟩
  rintro m σ1 H1 ⟨e1,M1,k1,ok1,a1,w1⟩
  refine⟨e1,M1,_,ok1,a1,turn m e1 M1 w1,fun b M2 h2 H2 k2 a2=>?_⟩
  cases b with
  | false=>exact f.nx e1 M2 h2 σ1 H2 (k1.trans k2) a2 (ok1.mono k2)
  | true =>
   refine⟨fun σ' H'=>∃ m',m'<m∧∃ e' M',KT H H'∧t9 X.K H' σ' e'∧m7 X.K H' M'∧W m' e' M',fun σ' H' h=>h,e1,M2,_,ok1.mono k2,a2,h2,?_⟩
   have kk:=k1.trans k2
   exact⟨fun e' M' ⟨m',l,w⟩ σ' H' k' a' o'=>⟨m',l,e',M',kk.trans k',o',a',w⟩,f.rt.mono kk,f.nx.mono kk,fun e' M' ⟨m',l,w⟩ σ' H' k' a' o'=>⟨m',l,e',M',kk.trans k',o',a',w⟩⟩)⟩
noncomputable abbrev DTI:=Ev→Mem→(List D→(Mem→Prop)→Mem→Prop)→Prop
def FU(ti:DTI)(g:DTG)(tb:DTS):DTS:=fun F e M=>ti e M fun ds stay M1=>∃ W:Nat→Ev→Mem→Prop,W 0 e M1∧(∀ i e M,i≤ds.length→W i e M→stay M) ∧
 (∀(i:Nat) (d:D) e M,ds[i]? = some d→W i e M→g d e M fun e2 M2=>tb { F with nx:=W (i+1),ct:=W (i+1),bk:=F.nx } e2 M2)∧∀ e M,W ds.length e M→F.nx e M
noncomputable def F2(lo:Int)(n:Nat):List D:=(JZ n).map fun(i:Nat)=>D.int (lo+(i:Int))
theorem D4(lo:Int)(n:Nat):(F2 lo n).length=n:=by simp[F2]
theorem bZ{lo:Int}{n i:Nat}(h:i<n):(F2 lo n)[i]? = some (D.int (lo+(i:Int))):=by simp[F2,h]
theorem dU{lo:Int}{n i:Nat}{d:D}(h:(F2 lo n)[i]? = some d):i<n∧d=D.int (lo+(i:Int)):=by
 have hl:i<n:=by
  have:=(Jm.mp h).1
  rw[D4]at this;exact this
 rw[bZ hl]at h
 exact⟨hl,(Option.some.inj h).symm⟩
def AG(ta:DTA):DTI:=fun e M R=>ta e M fun ds M1=>∃ j:Int,ds=[.int j]∧-(2 ^ 62)≤j∧j<2 ^ 62∧R (F2 0 j.toNat) (fun _=>True) M1
theorem uz{K:IT}{H H1 H2:Hp}{F:E5}{E:T4}{W:Nat→Ev→Mem→Prop}{g:DTG}{tb:DTS}{i:Nat}{x:V}{d:D}{σ2:St}{e2:Ev}{M2:Mem}(f:Fit K H F E)(k1:KT H H1)(k2:KT H1 H2)(ok2:t9 K H2 σ2 e2)(a2:m7 K H2 M2)(r:Has K H2 x d)
  (h:g d e2 M2 fun e3 M3=>tb { F with nx:=W (i+1),ct:=W (i+1),bk:=F.nx } e3 M3) :
  upG K g x σ2 H2 fun σ3 H3=>upS K tb { E with nx:=fun σ' H'=>∃ e' M',KT H1 H'∧t9 K H' σ' e'∧m7 K H' M'∧W (i+1) e' M',ct:=fun σ' H'=>∃ e' M',KT H1 H'∧t9 K H' σ' e'∧m7 K H' M'∧W (i+1) e' M',bk:=E.nx } σ3 H3:=by
 refine⟨d,e2,M2,_,r,ok2,a2,h,fun e3 M3 h3 σ3 H3 k3 a3 ok3=>⟨e3,M3,_,ok3,a3,h3,?_⟩⟩
 have kk:KT H H3:=k1.trans (k2.trans k3)
 exact⟨fun e' M' w σ' H' k' a' o'=>⟨e',M',k2.trans (k3.trans k'),o',a',w⟩,f.rt.mono kk,f.nx.mono kk,fun e' M' w σ' H' k' a' o'=>⟨e',M',k2.trans (k3.trans k'),o',a',w⟩⟩
variable {tg iter:Expr} {body:List Stmt} {ti:DTE} {ta:DTA} {g:DTG} {tb:DTS}
theorem Has.il{K:IT}{H:Hp}{v:V}{ds:List D}(h:Has K H v (.vl ds)):∃ a xs,v = .ref a∧SqL K H a xs∧HasL K H xs ds:=by
 cases h with
 | vl h l=>exact⟨_,_,rfl,h.elim (fun⟨o,e⟩=>.inl (.inr ⟨o,e⟩)) (fun k=>k H),l⟩
end
section
variable {P:Program} {w:World} {K:IT} {mg:Str→Option Value} {base:Heap}
end
section
variable {X:Cx} {x:Str} {p pos:Pos} {e:Expr} {es:List Expr} {t:DTA} {id T:String}
noncomputable abbrev DRC:=List D→Mem→DK→Prop
noncomputable def upC(K:IT)(g:DRC):List V→Hp→VK→Prop:=fun xs H Q=>∃ ds M R,HasL K H xs ds∧m7 K H M∧g ds M R∧Z2 K H R Q
def K0(X:Cx)(f:Value)(g:DRC):Prop:=u8 X f (upC X.K g)
def dCB(g:DRC)(t:DTA):DTE:=fun e M R=>t e M fun ds M1=>g ds M1 R
theorem AY{g:DRC}{σ:St}{H:Hp}{Q:VK}(h:up X.K (dCB g t) σ H Q):tCB (upC X.K g) (upA X.K t) σ H Q:=by
 obtain⟨e,M,R,ok,am,t,f⟩:=h
 exact⟨e,M,_,ok,am,t,fun ds M1 h1 vs H1 k1 a1 r1=>⟨ds,M1,R,r1,a1,h1,f.mono k1⟩⟩
theorem u8.imp{f:Value}{r r':List V→Hp→VK→Prop}(h:u8 X f r)(i:∀ xs H Q,r' xs H Q→r xs H Q):u8 X f r':=fun pins s σ H xs us Q I rv q=>h pins s σ H xs us Q I rv (i xs H Q q)
theorem HasL.one{K:IT}{H:Hp}{vs:List V}{d:D}(h:HasL K H vs [d]):∃ v,vs=[v]∧Has K H v d:=by
 cases h with
 | cons r rr=>cases rr;exact⟨_,rfl,r⟩
theorem HasL.two{K:IT}{H:Hp}{vs:List V}{d d':D}(h:HasL K H vs [d,d']):∃ v v',vs=[v,v']∧Has K H v d∧Has K H v' d':=by
 cases h with
 | cons r rr=>cases rr with|cons r2 rr=>cases rr;exact⟨_,_,rfl,r,r2⟩
def FG:DRC:=fun ds M R=>∃ i:Int,ds=[.int i]∧R (.int (i.natAbs:Int)) M
theorem J9:K0 X (.builtin "abs") FG:=u8.imp vg (by
 rintro xs H Q ⟨ds,M,R,hl,am,⟨i,z,r⟩,f⟩
 subst z
 obtain⟨v,rfl,h⟩:=hl.one
 cases h
 have e:(if i<0 then -i else i)=(i.natAbs:Int):=by split<;>omega
 exact⟨i,rfl,by rw[e];exact f _ M r _ H (KT.refl H) am (.int _)⟩)
def FC:DRC:=fun ds M R=>∃ i j:Int,ds=[.int i,.int j]∧R (.int (max i j)) M
theorem AZ(hc:X.calm=true):K0 X (.builtin "max") FC:=u8.imp (pO hc) (by
 rintro xs H Q ⟨ds,M,R,hl,am,⟨i,j,z,r⟩,f⟩
 subst z
 obtain⟨v,v',rfl,h,h'⟩:=hl.two
 cases h;cases h'
 have e:(if j > i then j else i)=max i j:=by
  rw[Int.max_def];split<;>split<;>omega
 exact⟨i,j,rfl,by rw[e];exact f _ M r _ H (KT.refl H) am (.int _)⟩)
noncomputable def iN(M:Mem):D→Option Nat
 | .tup ds=>some ds.length
 | .ref p=>match M p with
  | some (.lst ds)=>some ds.length
  | _=>none
 | .vl ds=>some ds.length
 | _=>none
def pC:DRC:=fun ds M R=>∃ d n,ds=[d]∧iN M d=some n∧R (.int (n:Int)) M
theorem y8:K0 X (.builtin "len") pC:=u8.imp gg (by
 rintro xs H Q ⟨ds,M,R,hl,am,⟨d,n,z,hn,r⟩,f⟩
 subst z
 obtain⟨v,rfl,h⟩:=hl.one
 cases d with
 | tup es =>
  cases h with
  | tup s l =>
   cases hn
   exact⟨_,_,rfl,.inr s,by rw[l.length];exact f _ M r _ H (KT.refl H) am (.int _)⟩
 | ref p =>
  cases h
  unfold iN at hn
  cases q:M p with
  | none=>simp[q]at hn
  | some o =>
   cases o with
   | lst es =>
    simp only[q]at hn
    cases hn
    obtain⟨ys,hy,l⟩:=am.lst q
    exact⟨p,ys,rfl,.inl (SqL.of hy),by rw[l.length];exact f _ M r _ H (KT.refl H) am (.int _)⟩
   | ins C fs=>simp[q]at hn
 | vl es =>
  cases hn
  obtain⟨a,xs,rfl,sq,l⟩:=h.il
  exact⟨a,_,rfl,.inl sq,by rw[l.length];exact f _ M r _ H (KT.refl H) am (.int _)⟩
 | _=>cases hn)
end
theorem D2:bootBuiltins "abs" = some (.builtin "abs"):=by decide +kernel
theorem vq:bootBuiltins "max" = some (.builtin "max"):=by decide +kernel
theorem p0:bootBuiltins "len" = some (.builtin "len"):=by decide +kernel
theorem d7:bootBuiltins "isinstance" = some (.builtin "isinstance"):=by decide +kernel
theorem J3:bootBuiltins "int" = some (.type "int"):=by decide +kernel
theorem N0:bootBuiltins "bool" = some (.type "bool"):=by decide +kernel
theorem y7:bootBuiltins "tuple" = some (.type "tuple"):=by decide +kernel
theorem oh:bootBuiltins "list" = some (.type "list"):=by decide +kernel
theorem ao:bootBuiltins "reversed" = some (.type "reversed"):=by decide +kernel
theorem B2:bootBuiltins "str" = some (.type "str"):=by decide +kernel
section
variable {X:Cx} {a b c:Expr} {ta tb tc:DTE} {pos:Pos}
theorem xK:OpR X (binaryOp .Mult) (rI IntMulOk fun i j=>.int (i*j)):=opI fun _ _ _ _ _ _ _ hc q=>mul_int q hc
def CFd(i j:Int):Prop:=j≠0∧j.natAbs.log2<9000
theorem tF:OpR X (binaryOp .FloorDiv) (rI CFd fun i j=>.int (i.fdiv j)):=opI fun _ _ _ _ _ _ _ hc q=>floordiv_int hc.1 q (.inl (PyProof.noPylong_of_log2 hc.2))
theorem tL:DOp X (binaryOp .Mult) (gI IntMulOk fun i j=>.int (i*j)):=nO xK fun _ _ _=>.int _
theorem cq:DOp X (binaryOp .FloorDiv) (gI CFd fun i j=>.int (i.fdiv j)):=nO tF fun _ _ _=>.int _
noncomputable def ixD(M:Mem):D→D→Option D
 | .tup ds,.int i=>atI ds i
 | .ref p,.int i=>match M p with
  | some (.lst ds)=>atI ds i
  | _=>none
 | .vl ds,.int i=>atI ds i
 | _,_=>none
def gIx:DR2:=fun x y M R=>∃ z,ixD M x y=some z∧R z M
theorem IxR.or'{r r':R2}(h:IxR X r)(h':IxR X r'){g:R2}(i:∀ x y H Q,g x y H Q→r x y H Q∨r' x y H Q):IxR X g:=IxR.imp (IxR.or h h') i
theorem Fx:DIx X gIx:=IxR.or' CW yg (by
 rintro x y H Q ⟨dx,dy,M,R,hx,hy,am,⟨z,e,r⟩,f⟩
 cases dy with
 | int i =>
  cases hy
  cases dx with
  | tup ds =>
   cases hx with
   | tup s l =>
    obtain⟨v,h1,h2⟩:=l.at (show atI ds i=some z from e)
    exact .inl ⟨_,_,i,v,rfl,rfl,s,h1,f z M r v H (KT.refl H) am h2⟩
  | ref p =>
   cases hx
   unfold ixD at e
   cases q:M p with
   | none=>simp[q]at e
   | some o =>
    cases o with
    | lst ds =>
     simp only[q]at e
     obtain⟨xs,h1,h2⟩:=am.lst q
     obtain⟨v,h3,h4⟩:=h2.at e
     exact .inr ⟨_,_,i,v,rfl,rfl,SqL.of h1,h3,f z M r v H (KT.refl H) am h4⟩
    | ins C fs=>simp[q]at e
  | vl ds =>
   obtain⟨a,xs,rfl,sq,l⟩:=hx.il
   obtain⟨v,h1,h2⟩:=l.at (show atI ds i=some z from e)
   exact .inr ⟨_,_,i,v,rfl,rfl,sq,h1,f z M r v H (KT.refl H) am h2⟩
  | _=>simp[ixD]at e
 | _=>cases dx<;>simp[ixD]at e)
theorem C1{M:Mem}{p:Addr}{ds:List D}{i:Int}{z:D}(m:M p=some (.lst ds))(h:atI ds i=some z):ixD M (.ref p) (.int i)=some z:=by
 unfold ixD;simp only[m];exact h
mutual
inductive PyR (M:Mem):D→PyData→Prop
 | non:PyR M .non .none
 | bl (b:Bool):PyR M (.bl b) (.bool b)
 | int (i:Int):PyR M (.int i) (.int i)
 | str (x:Str):PyR M (.str x) (.str x)
 | tup {ds:List D} {ps:List PyData}:PyRL M ds ps→PyR M (.tup ds) (.tuple ps)
 | lst {p:Addr} {ds:List D} {ps:List PyData}:M p=some (.lst ds)→PyRL M ds ps→PyR M (.ref p) (.list ps)
 | vl {ds:List D} {ps:List PyData}:PyRL M ds ps→PyR M (.vl ds) (.list ps)
inductive PyRL (M:Mem):List D→List PyData→Prop
 | nil:PyRL M [] []
 | cons {d:D} {p:PyData} {ds:List D} {ps:List PyData}:PyR M d p→PyRL M ds ps→PyRL M (d :: ds) (p :: ps)
end
mutual
theorem O2{pins:List (Addr × Obj)}{s:Shared}{σ:St}{H:Hp}{M:Mem}(I:Inv X pins σ H s)(am:m7 X.K H M):∀{d:D} {p:PyData},PyR M d p→∀{v:V} {u:Value},Has X.K H v d→o8 v u→∃ as,Reads s.heap u p as
 | _,_,.non,_,_,h,r=>by cases h;cases r;exact⟨_,.none⟩
 | _,_,.bl b,_,_,h,r=>by cases h;cases r;exact⟨_,.bool b⟩
 | _,_,.int i,_,_,h,r=>by cases h;obtain⟨t,rfl⟩:=r;exact⟨_,.int i t⟩
 | _,_,.str x,_,_,h,r=>by cases h;obtain⟨t,rfl⟩:=r;exact⟨_,.str x t⟩
 | _,_,.tup l,_,_,h,r=>by
  cases h with
  | tup s' hl =>
   cases r
   obtain⟨its,rv,⟨o,e,hc,n,hd⟩,_⟩:=I.tuple s'
   obtain⟨as,ra⟩:=readsL_of I am l hl rv
   exact⟨as,.tuple e hc hd (by simpa using ra)⟩
 | _,_,.lst m l,_,_,h,r=>by
  cases h
  cases r
  obtain⟨xs,hx,hl⟩:=am.lst m
  obtain⟨its,rv,⟨o,n,e,hc,_,hd⟩,_⟩:=I.list (SqL.of hx)
  obtain⟨as,ra⟩:=readsL_of I am l hl rv
  exact⟨_,.list e hc hd (by simpa using ra)⟩
 | _,_,.vl l,_,_,h,r=>by
  obtain⟨a,xs,rfl,sq,hl⟩:=h.il
  cases r
  obtain⟨its,rv,⟨o,n,e,hc,_,hd⟩,_⟩:=I.list sq
  obtain⟨as,ra⟩:=readsL_of I am l hl rv
  exact⟨_,.list e hc hd (by simpa using ra)⟩
theorem readsL_of{pins:List (Addr × Obj)}{s:Shared}{σ:St}{H:Hp}{M:Mem}(I:Inv X pins σ H s)(am:m7 X.K H M):∀{ds:List D} {ps:List PyData},PyRL M ds ps→∀{vs:List V} {us:List Value},HasL X.K H vs ds→i9 vs us→∃ as,ReadsAll s.heap us ps as
 | _,_,.nil,_,_,h,r=>by cases h;cases r;exact⟨_,.nil⟩
 | _,_,.cons a l,_,_,h,r=>by
  cases h with
  | cons h hl =>
   cases r with
   | cons r rl =>
    obtain⟨as,q⟩:=O2 I am a h r
    obtain⟨bs,q2⟩:=readsL_of I am l hl rl
    exact⟨_,.cons q q2⟩
end
def gEq(neg:Bool):DR2:=fun x y M R=>∃ px py,PyR M x px∧PyR M y py∧SeqAt.shaped px=true∧SeqAt.shaped py=true∧R (.bl (neg.xor (PyData.eqv px py))) M
theorem Fs(hu:X.A.units+64<cLine):DOp X (compareOp .Eq) (gEq false):=by
 intro pins s σ H x y v u Q I rx ry h
 obtain⟨dx,dy,M,R,hx,hy,am,⟨px,py,p1,p2,s1,s2,r⟩,f⟩:=h
 obtain⟨as,r1⟩:=O2 I am p1 hx rx
 obtain⟨bs,r2⟩:=O2 I am p2 hy ry
 exact eq_dataH r1 r2 s1 s2 hu ⟨.bl _,H,I,rfl,by have:=f _ M r _ H (KT.refl H) am (.bl _);simpa using this⟩
theorem GP(hu:X.A.units+64<cLine):DOp X (compareOp .NotEq) (gEq true):=by
 intro pins s σ H x y v u Q I rx ry h
 obtain⟨dx,dy,M,R,hx,hy,am,⟨px,py,p1,p2,s1,s2,r⟩,f⟩:=h
 obtain⟨as,r1⟩:=O2 I am p1 hx rx
 obtain⟨bs,r2⟩:=O2 I am p2 hy ry
 exact ne_dataH r1 r2 s1 s2 hu ⟨.bl _,H,I,rfl,by have:=f _ M r _ H (KT.refl H) am (.bl _);simpa using this⟩
mutual
noncomputable def pyD:D→PyData
 | .int i=>.int i
 | .str x=>.str x
 | .bl b=>.bool b
 | .tup ds=>.tuple (pyDL ds)
 | .vl ds=>.list (pyDL ds)
 | _=>.none
noncomputable def pyDL:List D→List PyData
 | []=>[]
 | d :: r=>pyD d :: pyDL r
end
mutual
noncomputable def cl:Nat→D→Bool
 | _,.int _=>true
 | _,.non=>true
 | _,.str x=>PyData.canLay0 (.str x)
 | k+1,.tup ds=>clL k ds
 | k+1,.vl ds=>clL k ds
 | _,_=>false
noncomputable def clL:Nat→List D→Bool
 | _,[]=>true
 | k,d :: r=>cl k d && clL k r
end
mutual
theorem uZ{M:Mem}:∀{k:Nat} {d:D},cl k d=true→PyR M d (pyD d)∧(pyD d).canLay0=true∧(pyD d).depth≤k
 | _,.int i,_=>⟨.int i,rfl,Jx _⟩
 | _,.non,_=>⟨.non,rfl,Jx _⟩
 | 0,.tup ds,h=>by simp[cl]at h
 | k+1,.tup ds,h=>by
  obtain⟨a,b,c⟩:=clL_py (M:=M) (k:=k) (ds:=ds) (by simpa[cl]using h)
  exact⟨.tup a,by simpa[pyD,PyData.canLay0]using b,by simp only[pyD,PyData.depth];omega⟩
 | _,.str x,h=>⟨.str x,by simpa[cl,pyD]using h,Jx _⟩
 | _,.bl _,h=>by simp[cl]at h
 | _,.ref _,h=>by simp[cl]at h
 | 0,.vl ds,h=>by simp[cl]at h
 | k+1,.vl ds,h=>by
  obtain⟨a,b,c⟩:=clL_py (M:=M) (k:=k) (ds:=ds) (by simpa[cl]using h)
  exact⟨.vl a,by simpa[pyD,PyData.canLay0]using b,by simp only[pyD,PyData.depth];omega⟩
 | _,.ty _,h=>by simp[cl]at h
theorem clL_py{M:Mem}:∀{k:Nat} {ds:List D},clL k ds=true→PyRL M ds (pyDL ds)∧PyData.canLayAll0 (pyDL ds)=true∧PyData.depthAll (pyDL ds)≤k
 | _,[],_=>⟨.nil,rfl,Jx _⟩
 | k,d :: r,h=>by
  have h':cl k d=true∧clL k r=true:=by simpa[clL]using h
  obtain⟨a,b,c⟩:=uZ (M:=M) h'.1
  obtain⟨a2,b2,c2⟩:=clL_py (M:=M) h'.2
  exact⟨.cons a a2,by simp[pyDL,PyData.canLayAll0,b,b2],by simp only[pyDL,PyData.depthAll];omega⟩
end
mutual
theorem vb:∀{k j:Nat} {x y:D},cl k x=true→cl j y=true→(PyData.eqv (pyD x) (pyD y)=true↔x=y)
 | _,_,.int i,.int j,_,_=>by simp[pyD,PyData.eqv]
 | _,_,.int i,.non,_,_=>by simp[pyD,PyData.eqv]
 | _,_,.non,.int i,_,_=>by simp[pyD,PyData.eqv]
 | _,_,.non,.non,_,_=>by simp[pyD,PyData.eqv]
 | _,_,.int i,.tup ds,_,_=>by simp[pyD,PyData.eqv]
 | _,_,.non,.tup ds,_,_=>by simp[pyD,PyData.eqv]
 | _,_,.tup ds,.int i,_,_=>by simp[pyD,PyData.eqv]
 | _,_,.tup ds,.non,_,_=>by simp[pyD,PyData.eqv]
 | k+1,j+1,.tup ds,.tup es,h,h'=>by
  have:=clL_eqv (k:=k) (j:=j) (xs:=ds) (ys:=es) (by simpa[cl]using h) (by simpa[cl]using h')
  simp only[pyD,PyData.eqv,D.tup.injEq]
  exact this
 | 0,_,.tup ds,.tup es,h,_=>by simp[cl]at h
 | _,0,.tup ds,.tup es,_,h=>by simp[cl]at h
 | _,_,.str x,.str y,_,_=>by simp[pyD,PyData.eqv]
 | _,_,.str x,.int i,_,_=>by simp[pyD,PyData.eqv]
 | _,_,.str x,.non,_,_=>by simp[pyD,PyData.eqv]
 | _,_,.str x,.tup ds,_,_=>by simp[pyD,PyData.eqv]
 | _,_,.int i,.str x,_,_=>by simp[pyD,PyData.eqv]
 | _,_,.non,.str x,_,_=>by simp[pyD,PyData.eqv]
 | _,_,.tup ds,.str x,_,_=>by simp[pyD,PyData.eqv]
 | k+1,j+1,.vl ds,.vl es,h,h'=>by
  have:=clL_eqv (k:=k) (j:=j) (xs:=ds) (ys:=es) (by simpa[cl]using h) (by simpa[cl]using h')
  simp only[pyD,PyData.eqv,D.vl.injEq]
  exact this
 | 0,_,.vl ds,.vl es,h,_=>by simp[cl]at h
 | _,0,.vl ds,.vl es,_,h=>by simp[cl]at h
 | _,_,.vl ds,.int i,_,_=>by simp[pyD,PyData.eqv]
 | _,_,.vl ds,.non,_,_=>by simp[pyD,PyData.eqv]
 | _,_,.vl ds,.str x,_,_=>by simp[pyD,PyData.eqv]
 | _,_,.vl ds,.tup es,_,_=>by simp[pyD,PyData.eqv]
 | _,_,.int i,.vl ds,_,_=>by simp[pyD,PyData.eqv]
 | _,_,.non,.vl ds,_,_=>by simp[pyD,PyData.eqv]
 | _,_,.str x,.vl ds,_,_=>by simp[pyD,PyData.eqv]
 | _,_,.tup es,.vl ds,_,_=>by simp[pyD,PyData.eqv]
 | _,_,.bl _,_,h,_=>by simp[cl]at h
 | _,_,.ref _,_,h,_=>by simp[cl]at h
 | _,_,.ty _,_,h,_=>by simp[cl]at h
 | _,_,_,.bl _,_,h=>by simp[cl]at h
 | _,_,_,.ref _,_,h=>by simp[cl]at h
 | _,_,_,.ty _,_,h=>by simp[cl]at h
theorem clL_eqv:∀{k j:Nat} {xs ys:List D},clL k xs=true→clL j ys=true→(PyData.eqvAll (pyDL xs) (pyDL ys)=true↔xs=ys)
 | _,_,[],[],_,_=>by simp[pyDL,PyData.eqvAll]
 | _,_,[],_ :: _,_,_=>by simp[pyDL,PyData.eqvAll]
 | _,_,_ :: _,[],_,_=>by simp[pyDL,PyData.eqvAll]
 | k,j,x :: xs,y :: ys,h,h'=>by
  have h1:cl k x=true∧clL k xs=true:=by simpa[clL]using h
  have h2:cl j y=true∧clL j ys=true:=by simpa[clL]using h'
  have e1:=vb h1.1 h2.1
  have e2:=clL_eqv h1.2 h2.2
  simp only[pyDL,PyData.eqvAll,JH,e1,e2,List.cons.injEq]
end
open Classical in
theorem uv{neg:Bool}{x y:D}{M:Mem}{R:DK}(h:R (.bl (neg.xor (decide (x=y)))) M)(hx:cl 60 x=true:=by rfl)(hy:cl 60 y=true:=by rfl):gEq neg x y M R:=by
 obtain⟨a,b,c⟩:=uZ (M:=M) hx
 obtain⟨a2,b2,c2⟩:=uZ (M:=M) hy
 refine⟨_,_,a,a2,?_,?_,?_⟩
 ·simp only[SeqAt.shaped,b,KG];exact decide_eq_true (by omega)
 ·simp only[SeqAt.shaped,b2,KG];exact decide_eq_true (by omega)
 ·have e:PyData.eqv (pyD x) (pyD y)=decide (x=y):=by
   have:=vb hx hy
   by_cases q:x=y
   ·rw[decide_eq_true q];exact this.mpr q
   ·rw[decide_eq_false q]
    cases z:PyData.eqv (pyD x) (pyD y)with
    | false=>rfl
    | true=>exact absurd (this.mp z) q
  rw[e];exact h
noncomputable def tyD(M:Mem):D→Option String
 | .non=>some "NoneType"
 | .bl _=>some "bool"
 | .int _=>some "int"
 | .str _=>some "str"
 | .tup _=>some "tuple"
 | .ref p=>match M p with
  | some (.lst _)=>some "list"
  | _=>none
 | .vl _=>some "list"
 | .ty _=>none
 | .dic=>some "dict"
 | .exc _=>none
noncomputable def eJ(t T:String):Option Bool:=if t=T then some true else
 match t,T with
 | "bool","int" => some true
 | _,_=>if (t∈["NoneType","bool","int","str","tuple","list","dict"])∧(T∈["bool","int","str","tuple","list"])then some false else none
def jr(K:IT):Prop:=∀ t T b,eJ t T=some b→PySem.W.kitOne K (.type t) (.type T)=some b
theorem p9{x:Str}{n:String}(hg:Gl X x)(hm:X.mg x=none)(hv:bootBuiltins x=some (.type n))(hn:x ≠ "__name__" := by decide)(hd:(x == ("__debug__" : Str))=false:=by decide):JE X (.Name x pos) (dC (.ty n)):=⟨P8 (v:=.ty n) (nj hg hm hv rfl hn hd) fun _=>.ty n⟩
def y9:DRC:=fun ds M R=>∃ d t T b,ds=[d,.ty T]∧tyD M d=some t∧eJ t T=some b∧R (.bl b) M
theorem t8(hk:jr X.K):K0 X (.builtin "isinstance") y9:=by
 intro pins s σ H xs us Q I rv h
 obtain⟨ds,M,R,hl,am,⟨d,t,T,b,rfl,ht,hb,r⟩,f⟩:=h
 obtain⟨v,v',rfl,h1,h2⟩:=hl.two
 cases h2
 obtain⟨u,w',rfl,r1,r2⟩:=gP rv
 cases(show w'=Value.type T from r2)
 have e:=hk t T b hb
 have fin:∀ tk,EP X pins σ Q (.bool b) { s with toks:=tk }:=fun tk=>⟨.bl b,H,I.tok tk,rfl,f _ M r _ H (KT.refl H) am (.bl b)⟩
 cases h1 with
 | non=>cases ht;exact J7 I r1 .non e fin
 | bl q=>cases ht;exact J7 I r1 (.bl q) e fin
 | int q=>cases ht;exact J7 I r1 (.int q) e fin
 | str q=>cases ht;exact J7 I r1 (.str q) e fin
 | ty q=>cases ht
 | ref p =>
  unfold tyD at ht
  cases q:M p with
  | none=>simp[q]at ht
  | some o =>
   cases o with
   | lst es =>
    simp only[q]at ht
    cases ht
    obtain⟨ys,hy,_⟩:=am.lst q
    exact J7 I r1 (.lst hy) e fin
   | ins C fs=>simp[q]at ht
 | tup s' l =>
  cases ht
  cases(show u=Value.ref _ from r1)
  obtain⟨its,_,⟨o,h1,h2,_⟩,_⟩:=I.tuple s'
  exact PySem.W.kia_one PySem.W.kitx_tuple I.kIn ⟨o,h1,h2⟩ e (fun z=>nomatch z) fin
 | vl hq hl' =>
  cases ht
  cases(show u=Value.ref _ from r1)
  obtain⟨_,_,ea,sq,_⟩:=Has.il (.vl hq hl')
  cases ea
  obtain⟨its,_,⟨o,n,h1,h2,_⟩,_⟩:=I.list sq
  exact PySem.W.kia_one PySem.W.kitx_list I.kIn ⟨o,h1,h2⟩ e (fun z=>nomatch z) fin
 | dic hq =>
  cases ht
  cases(show u=Value.ref _ from r1)
  obtain⟨o,g1,g2⟩:=hq
  exact PySem.W.kia_one PySem.W.kitx_dict I.kIn ⟨o,(I.hok _ _ g1).1,g2⟩ e (fun z=>nomatch z) fin
 | exc hq=>cases ht
end
section
variable {X:Cx} {a b c:Expr} {ta tb tc:DTE} {pos:Pos}
def Y0:DXK:=fun _ _=>False
theorem FH{K:IT}{H:Hp}{E:XK}:DT K H Y0 E:=fun _ _ h=>h.elim
structure yQ(K:IT)(x:Str)(st:Stmt)(f:Addr)(fd:FuncData):Prop where
 ex:∃(oc:Value) (od:Option Addr) (dV kV doc pm:Value) (an:Option Addr) (cdv ct:Value) (osl:Array (Option Value)),
  fd=PySem.W.fnOf x x (G1 st) (A4 st) (e5 st) dV kV doc pm an cdv ct∧K.lookup f=some ⟨oc,od,.func fd,osl⟩∧PySem.W.codeIn K cdv x=true
 kp:PySem.W.keepIn K (.ref f)=true
structure Df(K:IT)(mg:Str→Option Value)(x:Str)(st:Stmt)(ps:List Str):Prop where
 ex:∃(f:Addr) (fd:FuncData),yQ K x st f fd∧mg x=some (.ref f)∧G3 K fd ps []
structure DfL(K:IT)(mg:Str→Option Value)(x:Str)(st:Stmt)(ps:List Str):Prop where
 ex:∃(f:Addr) (fd:FuncData),yQ K x st f fd∧mg x=some (.ref f)∧∀ us:List Value,us.length=ps.length→bindArgs fd ⟨us,[]⟩=pure (ps.zip us)
structure Fn(P:Program)(w:World)(K:IT)(mg:Str→Option Value)(base:Heap)(x:Str)(k:Nat)(ps:List Str)(sp:DSp):Prop where
 ex:∃(f:Addr) (fd:FuncData),E8 P w K mg base CX0 k f fd ps (eA K sp)∧mg x=some (.ref f)∧PySem.W.keepIn K (.ref f)=true∧G3 K fd ps []
theorem ug{x:Str}{j:Nat}{ps:List Str}{sp:DSp}{p:Pos}{e:Expr}{es:List Expr}{t:DTA}(G:Fn X.prog X.w X.K X.mg X.base x j ps sp)(hr:z4 j X.A)(hg:Gl X x)(ha:JA X (e :: es) t)
  (hdb:(x == ("__debug__" : Str))=false:=by decide) (he:starEach (e :: es) X.env=(false,eval e X.env) :: starEach es X.env:=by rfl) (hpl:(backTo pos (starEach es X.env)).any (·.1)=false:=by rfl):JE X (.Call (.Name x p) (e :: es) [] pos) (nV sp [] Y0 t):=⟨have ha:=ha.out;by
 obtain⟨f,fd,F,hm,hk,hb⟩:=G.ex
 exact Ds F hr hg hm hk hb .nil (fun _=>.nil) Ak (fun _=>FH) ha hdb he hpl⟩
end
section
variable {P:Program} {w:World} {K:IT} {mg:Str→Option Value} {base:Heap}
theorem AB{x:Str}{st:Stmt}{f:Addr}{fd:FuncData}{N ps:List Str}{k:Nat}{sp:DSp}(F:yQ K x st f fd)(S:i4 N ps (e5 st))(len:∀ ds M R Y,sp ds M R Y→ds.length=ps.length)
  (hbody:∀(cdv:Value) (A:Around) (outer:List Env) (s:Shared) (H:Hp) (E:XK) (ds:List D) (M:Mem) (R:DK) (Y:DXK),z4 k (A.deeper (envOfC x (e5 st) s.heap.objs.size f cdv))→sp ds M R Y →
   ∃ t,JSs (D1 CX0 P w K mg base N x (e5 st) f cdv A outer s H E).nox (A4 st) t∧t { nx:=fun _ M'=>R .non M',rt:=R } (C9 N ds) M):E8 P w K mg base CX0 (k+1) f fd ps (eA K sp):=by
 obtain⟨oc,od,dV,kV,doc,pm,an,cdv,ct,osl,rfl,lk,hcd⟩:=F.ex
 refine nG lk hcd S (fun vs H Q E ⟨ds,M,R,Y,hl,_,hs,_,_⟩=>by rw[hl.length];exact len ds M R Y hs) fun A outer s H vs Q E hr zz=>?_
 obtain⟨ds,M,R,Y,hl,am,hs,fv,fx⟩:=zz
 obtain⟨t,h1,h2⟩:=hbody cdv A outer s H E ds M R Y hr hs
 refine⟨_,h1.out.nox,C9 N ds,M,_,t9.start0 hl,am,h2,⟨?_,fv,fun _ _ h=>h.elim,fun _ _ h=>h.elim⟩⟩
 exact fun e M' h σ' H' kt a o=>fv .non M' h .non H' kt a .non
theorem y2{x:Str}{st:Stmt}{N ps:List Str}{k:Nat}{sp:DSp}(d:Df K mg x st ps)(S:i4 N ps (e5 st))(len:∀ ds M R Y,sp ds M R Y→ds.length=ps.length)
  (hbody:∀(f:Addr) (cdv:Value) (A:Around) (outer:List Env) (s:Shared) (H:Hp) (E:XK) (ds:List D) (M:Mem) (R:DK) (Y:DXK),z4 k (A.deeper (envOfC x (e5 st) s.heap.objs.size f cdv))→sp ds M R Y →
   ∃ t,JSs (D1 CX0 P w K mg base N x (e5 st) f cdv A outer s H E).nox (A4 st) t∧t { nx:=fun _ M'=>R .non M',rt:=R } (C9 N ds) M):Fn P w K mg base x (k+1) ps sp:=by
 obtain⟨f,fd,F,hm,hb⟩:=d.ex
 exact⟨f,fd,AB F S len (hbody f),hm,F.kp,hb⟩
theorem t6{x:Str}{st:Stmt}{ps:List Str}{h:Heap}{f:Addr}{oc:Value}{od an:Option Addr}{osl:Array (Option Value)}{dV kV doc pm cdv ct:Value}(X:K.In h)(G:h.Ns mainGlobals mg)
  (n:PySem.W.nsIn K mainGlobals x=some (some (.ref f)))
  (l:K.lookup f=some ⟨oc,od,.func (PySem.W.fnOf x x (G1 st) (A4 st) (e5 st) dV kV doc pm an cdv ct),osl⟩)
  (c:PySem.W.codeIn K cdv x=true) (k:PySem.W.keepIn K (.ref f)=true)
  (hb:∀ us:List Value,us.length=ps.length→bindArgs (PySem.W.fnOf x x (G1 st) (A4 st) (e5 st) dV kV doc pm an cdv ct) ⟨us,[]⟩=pure (ps.zip us)):Df K mg x st ps :=
 ⟨f,_,⟨⟨oc,od,dV,kV,doc,pm,an,cdv,ct,osl,rfl,l,c⟩,k⟩,PySem.W.mg_of X G n,.all hb⟩
theorem Dp{x:Str}{st:Stmt}{ps:List Str}{h:Heap}{f:Addr}{oc:Value}{od an:Option Addr}{osl:Array (Option Value)}{dV kV doc pm cdv ct:Value}(X:K.In h)(G:h.Ns mainGlobals mg)
  (n:PySem.W.nsIn K mainGlobals x=some (some (.ref f)))
  (l:K.lookup f=some ⟨oc,od,.func (PySem.W.fnOf x x (G1 st) (A4 st) (e5 st) dV kV doc pm an cdv ct),osl⟩)
  (c:PySem.W.codeIn K cdv x=true) (k:PySem.W.keepIn K (.ref f)=true)
  (hb:∀ us:List Value,us.length=ps.length→bindArgs (PySem.W.fnOf x x (G1 st) (A4 st) (e5 st) dV kV doc pm an cdv ct) ⟨us,[]⟩=pure (ps.zip us)):DfL K mg x st ps :=
 ⟨f,_,⟨⟨oc,od,dV,kV,doc,pm,an,cdv,ct,osl,rfl,l,c⟩,k⟩,PySem.W.mg_of X G n,hb⟩
end
section
variable {X:Cx} {x:Str} {p pos:Pos} {e:Expr} {es:List Expr} {t:DTA} {id T:String} {o:Expr} {to:DTE} {a b c:Expr} {ta tb tc:DTE}
theorem f8{g:DRC}(hc:K0 X (.builtin id) g)(hg:Gl X x)(hm:X.mg x=none)(hv:bootBuiltins x=some (.builtin id))(ha:JA X (e :: es) t)
  (hn:x ≠ "__name__" := by decide) (hdb:(x == ("__debug__" : Str))=false:=by decide) (he:starEach (e :: es) X.env=(false,eval e X.env) :: starEach es X.env:=by rfl) (hpl:(backTo pos (starEach es X.env)).any (·.1)=false:=by rfl):JE X (.Call (.Name x p) (e :: es) [] pos) (dCB g t):=⟨have ha:=ha.out;(U7 hc hg hm hv ha hn hdb he hpl).imp fun _ _ _ h=>AY h⟩
theorem B9{g:DRC}(hc:K0 X (.type T) g)(hg:Gl X x)(hm:X.mg x=none)(hv:bootBuiltins x=some (.type T))(ha:JA X (e :: es) t)
  (hn:x ≠ "__name__" := by decide) (hdb:(x == ("__debug__" : Str))=false:=by decide) (he:starEach (e :: es) X.env=(false,eval e X.env) :: starEach es X.env:=by rfl) (hpl:(backTo pos (starEach es X.env)).any (·.1)=false:=by rfl):JE X (.Call (.Name x p) (e :: es) [] pos) (dCB g t):=⟨have ha:=ha.out;(dW hc hg hm hv ha hn hdb he hpl).imp fun _ _ _ h=>AY h⟩
theorem xM:OpR X (binaryOp .Add) (fun x y H Q=>∃ l b xs zs,x = .ref l∧y = .ref b∧SqL X.K H l xs∧SqL X.K H b zs∧xs.length+zs.length≤sizeLine∧∀ p,H p=none→Q (.ref p) (upd H p (.lst (xs++zs)))):=by
 intro pins s σ H x y v u Q I rx ry h
 obtain⟨l,b,xs,zs,rfl,rfl,hH,hB,hz,q⟩:=h
 cases rx
 cases ry
 obtain⟨its,r,pl,z1⟩:=I.list hH
 obtain⟨its2,r2,pl2,z2⟩:=I.list hB
 have hl:=r.length
 have hl2:=r2.length
 obtain⟨⟨cls,dd,data,sl⟩,ho,hc,n,hd⟩:=pl.isList
 obtain⟨⟨cls2,dd2,data2,sl2⟩,ho2,hc2,n2,hd2⟩:=pl2.isList
 simp only at hc hd hc2 hd2
 subst hc hd hc2 hd2
 have ea:its.toArray++its2.toArray=(its++its2).toArray:=by simp
 refine concat_meets ⟨_,ho,rfl⟩ ⟨_,ho2,rfl⟩ noFill_list_add seq_list_add PySem.F.slot_list_add PySem.F.entry_list_add (PySem.F.args_list_add_2 _ _) (list_addW l b its.toArray its2.toArray n n2 dd dd2 sl sl2 (by simp only[Jg];omega)) ⟨ho,ho2,?_⟩
 rw[ea]
 exact⟨.ref _,_,I.lnew (t':=s.toks) (r.append r2) (by rw[Jp];omega),rfl,q _ I.fresh⟩
noncomputable def C8(M:Mem):D→Option (List D)
 | .ref p=>match M p with
  | some (.lst ds)=>some ds
  | _=>none
 | .vl ds=>some ds
 | _=>none
theorem C7{K:IT}{H:Hp}{M:Mem}{v:V}{d:D}{ds:List D}(am:m7 K H M)(h:Has K H v d)(e:C8 M d=some ds):∃ a xs,v = .ref a∧SqL K H a xs∧HasL K H xs ds:=by
 cases h with
 | ref p =>
  unfold C8 at e
  cases q:M p with
  | none=>simp[q]at e
  | some o =>
   cases o with
   | lst es =>
    simp only[q]at e
    cases e
    obtain⟨xs,hx,l⟩:=am.lst q
    exact⟨p,xs,rfl,SqL.of hx,l⟩
   | ins C fs=>simp[q]at e
 | vl hq hl =>
  cases e
  exact Has.il (.vl hq hl)
 | _=>cases e
end
theorem sl(n:Nat)(h:n≤1000:=by decide):n≤sizeLine:=Jk h (by decide)
section
variable {X:Cx}
open Classical in
def Di(neg:Bool):DR2:=fun x y M R=>cl 60 x=true∧cl 60 y=true∧R (.bl (neg.xor (decide (x=y)))) M
theorem tM(hu:X.A.units+64<cLine):DOp X (compareOp .Eq) (Di false):=OpR.imp (Fs hu) (by rintro _ _ _ _ ⟨dx,dy,M,R,hx,hy,am,⟨h1,h2,h3⟩,f⟩;exact⟨dx,dy,M,R,hx,hy,am,uv h3 h1 h2,f⟩)
theorem tK(hu:X.A.units+64<cLine):DOp X (compareOp .NotEq) (Di true):=OpR.imp (GP hu) (by rintro _ _ _ _ ⟨dx,dy,M,R,hx,hy,am,⟨h1,h2,h3⟩,f⟩;exact⟨dx,dy,M,R,hx,hy,am,uv h3 h1 h2,f⟩)
theorem A0:DOp X (compareOp .Eq) (gF (fI fun i j=>.bl (decide (i=j)))):=OpR.imp Am (by
 rintro x y H Q ⟨dx,dy,M,R,hx,hy,am,⟨z,e,r⟩,f⟩
 obtain⟨i,j,e1,e2,e3⟩:=fU e
 subst e1;subst e2;subst e3
 cases hx;cases hy
 refine⟨rfl,?_⟩
 have e:decide (V.int i=V.int j)=decide (i=j):=by simp
 rw[e]
 exact f _ M r _ H (KT.refl H) am (.bl _))
theorem F3:DOp X (compareOp .NotEq) (gF (fI fun i j=>.bl (!decide (i=j)))):=OpR.imp Al (by
 rintro x y H Q ⟨dx,dy,M,R,hx,hy,am,⟨z,e,r⟩,f⟩
 obtain⟨i,j,e1,e2,e3⟩:=fU e
 subst e1;subst e2;subst e3
 cases hx;cases hy
 refine⟨rfl,?_⟩
 have e:decide (V.int i=V.int j)=decide (i=j):=by simp
 rw[e]
 exact f _ M r _ H (KT.refl H) am (.bl _))
end
theorem GU{c:Prop}[Decidable c]{A B:Prop}(h1:c→A)(h2:¬ c→B):if decide c=true then A else B:=by
 by_cases h:c
 ·rw[if_pos (decide_eq_true h)];exact h1 h
 ·rw[if_neg (by rw[decide_eq_false h];exact Jh)];exact h2 h
theorem Fv{c:Prop}[Decidable c]{A B:Prop}(h1:¬ c→A)(h2:c→B):if (!decide c)=true then A else B:=by
 by_cases h:c
 ·rw[decide_eq_true h];rw[if_neg (by decide)];exact h2 h
 ·rw[decide_eq_false h];rw[if_pos (by decide)];exact h1 h
theorem S1{n k:Nat}(h:n<2 ^ k)(hk:0<k):n.log2<k:=by
 rcases LN n with h0|h0
 ·subst h0;rw[Nat.log2_zero];exact hk
 ·exact(Mm (LI.mp h0)).mpr h
noncomputable def GR(t T:String):Option Bool:=if PySem.W.kitMeta T=true then(fastBuiltinMro t).map (·.contains (.type T))else none
theorem EV(K:IT):jr K:=by
 intro t T b h
 unfold eJ at h
 by_cases e:t=T
 ·subst e
  rw[if_pos rfl]at h
  cases h
  unfold PySem.W.kitOne
  rw[if_pos (beq_self_eq_true _)]
 ·rw[if_neg e]at h
  have hne:¬ (Value.type t == Value.type T)=true:=fun z=>e (by have:=eq_of_beq z;injection this)
  unfold PySem.W.kitOne
  rw[if_neg hne]
  show GR t T=some b
  split at h
  ·cases h;decide +kernel
  ·split at h
   ·rename_i hh
    obtain⟨ht,hT⟩:=hh
    simp only[Jj,Js,or_false]at ht hT
    cases h
    rcases ht with rfl|rfl|rfl|rfl|rfl|rfl|rfl<;>rcases hT with rfl|rfl|rfl|rfl|rfl<;>first|exact absurd rfl e|decide +kernel|(exfalso;simp_all)
   ·cases h
theorem kq{K:IT}{H:Hp}{a:Addr}{ns:List Int}(hO:pU H)(hS:SqL K H a (ns.map V.int)):Has K H (.ref a) (.vl (ns.map D.int)):=by
 rcases hS with(h|⟨o,h⟩)|h
 ·rcases hO a with z|⟨o,xs,z⟩
  ·rw[z]at h;cases h
  ·rw[z]at h;cases h
 ·exact .vl (.inl ⟨o,h⟩) (HasL.ints ns)
 ·exact .vl (.inr fun _=>.inr h) (HasL.ints ns)
theorem CM{K:IT}{H:Hp}{a:Addr}{ns:List Int}{sp:DSp}(hO:pU H)(hS:SqL K H a (ns.map V.int))(h:sp [.vl (ns.map D.int)] (fun _=>none) (fun d _=>d = .bl true) Y0) :
  eA K sp [.ref a] H (fun v _=>v = .bl true) (fun _ _ _=>False) :=
 ⟨[.vl (ns.map D.int)],fun _=>none,fun d _=>d = .bl true,Y0,.cons (kq hO hS) .nil,fun _ _ z=>(by cases z),h,fun d M' e v H' _ _ hv=>by subst e;cases hv;rfl,fun _ _ z=>z.elim⟩
section
variable {X:Cx} {o e:Expr} {es:List Expr} {to:DTE} {t:DTA} {name:Str} {apos cpos:Pos} {id:String}
noncomputable abbrev DRM:=D→List D→Mem→DK→Prop
noncomputable def upM(K:IT)(g:DRM):V→List V→Hp→VK→Prop:=fun x xs H Q=>∃ dx ds M R,Has K H x dx∧HasL K H xs ds∧m7 K H M∧g dx ds M R∧Z2 K H R Q
def DMt(X:Cx)(id:String)(g:DRM):Prop:=MtR X id (upM X.K g)
theorem MtR.imp{r r':V→List V→Hp→VK→Prop}(h:MtR X id r)(i:∀ x xs H Q,r' x xs H Q→r x xs H Q):MtR X id r':=fun pins s σ H x xs v us Q I rx rv q=>h pins s σ H x xs v us Q I rx rv (i x xs H Q q)
def dLM(g:DRM)(to:DTE)(t:DTA):DTE:=fun e M R=>to e M fun x M1=>(∃ l ds,x = .ref l∧M1 l=some (.lst ds))∧t e M1 fun xs M2=>g x xs M2 R
theorem eh{g:DRM}(slot:Slot "list" name id)(hty:typeOf (.builtin id)=pure (.type "method_descriptor"))(hm:DMt X id g)(ho:JE X o to)(ha:JA X (e :: es) t)
  (hbase:attributeBase o name X.env (eval o X.env)=eval o X.env:=by rfl)
  (hfew:((backTo cpos (starEach (e :: es) X.env)).all (fun x=>!x.1) && (backToKw cpos (keywordEach [] X.env)).all (fun x=>x.1.isSome)
   && decide ((e :: es).length+([]:List Keyword).length+(if ([]:List Keyword).isEmpty then 0 else 1)<30))=true:=by rfl)
  (hline:(apos.endLine == cpos.line)=true:=by rfl) (hs:starEach (e :: es) X.env=(false,eval e X.env) :: starEach es X.env:=by rfl) (hplain:(backTo cpos (starEach es X.env)).any (·.1)=false:=by rfl):JE X (.Call (.Attribute o name apos) (e :: es) [] cpos) (dLM g to t):=⟨have ho:=ho.out;have ha:=ha.out;(ir PySem.F.plainAttrs_list slot hty hm ho ha hbase hfew hline hs hplain).imp (by rintro σ H Q ⟨e,M,R,ok,am,t,f⟩;exact⟨e,M,_,ok,am,t,fun x M1 ⟨⟨l,ds,z,hM⟩,h1⟩ v H1 k1 a1 r1=>by
  subst z
  have r1':=r1
  cases r1
  obtain⟨xs,hx,_⟩:=a1.lst hM
  refine⟨.inl ⟨rfl,xs,SqL.of hx⟩,e,M1,_,ok.mono k1,a1,h1,fun zs M2 h2 vs H2 k2 a2 r2=>?_⟩
  exact⟨_,zs,M2,R,r1'.mono k2,r2,a2,h2,f.mono (k1.trans k2)⟩⟩)⟩
noncomputable def isB(k:Bool):Value→Bool
 | .bool b=>b == k
 | _=>false
theorem bH:∀{bs:List Bool} {us:List Value},i9 (bs.map V.bl) us→us=bs.map Value.bool
 | [],_,r=>by cases r;rfl
 | b :: bs,_,r=>by
  cases r with
  | cons r rr =>
   cases(show _=Value.bool b from r)
   rw[bH rr];rfl
theorem HasL.bools{K:IT}{H:Hp}:∀{bs:List Bool} {vs:List V},HasL K H vs (bs.map D.bl)→vs=bs.map V.bl
 | [],_,r=>by cases r;rfl
 | b :: bs,_,r=>by
  cases r with
  | cons r rr=>cases r;rw[HasL.bools rr];rfl
noncomputable def fB(f:Bool→Bool→D):D→D→Option D
 | .bl i,.bl j=>some (f i j)
 | _,_=>none
end
section
variable {X:Cx}
end
section
variable {X:Cx} {st:Stmt} {B0:List Stmt} {t u:DTS}
def AK(t u:DTS):DTS:=fun F e M=>∃ P:Ev→Mem→Prop,t { F with nx:=P } e M∧∀ e' M',P e' M'→u F e' M'
theorem eg(h1:JS X st t)(h2:JSs X B0 u):JSs X (st :: B0) (AK t u):=⟨have h1:=h1.out;have h2:=h2.out;(cc h1 h2).imp (by rintro E σ H ⟨e,M,F,ok,am,⟨P,t,hP⟩,f⟩;exact⟨e,M,{ F with nx:=P },ok,am,t,⟨fun e' M' h σ' H' k a o=>⟨e',M',F,o,a,hP e' M' h,f.mono k⟩,f.rt,f.bk,f.ct⟩⟩)⟩
end
section
variable {X:Cx}
theorem oT(bs:List Bool):(JZ bs.length).any (fun i=>bs.getD i true)=bs.any id:=by
 have:(JZ bs.length).map (fun i=>bs.getD i true)=bs:=by
  apply Me (by simp)
  intro i h1 h2
  simp[KO,h2]
 conv=>rhs;rw[← this]
 rw[List.any_map];rfl
theorem gW{prog:Program}{w:World}{A:Around}(bs:List Bool):TruthOf prog w A (fun i v=>(bs.map Value.bool).toArray[i]? = some v) (fun i=>bs.getD i true):=by
 intro i v s Q E h q
 have h':(bs.map Value.bool)[i]? = some v:=by simpa using h
 rw[Ju]at h'
 cases e:bs[i]? with
 | none=>rw[e]at h';cases h'
 | some b =>
  rw[e]at h'
  cases h'
  have q':Q b s:=by simpa[KO,e]using q
  exact wpAny_truthy_bool q'
theorem pP(hc:X.calm=true):u8 X (.builtin "any") (fun xs H Q=>∃(l:Addr) (bs:List Bool),xs=[.ref l]∧SqL X.K H l (bs.map V.bl)∧Q (.bl (bs.any id)) H):=by
 intro pins s σ H xs us Q I r h
 obtain⟨l,bs,rfl,hS,q⟩:=h
 obtain⟨u,rfl,ru⟩:=J4 r
 cases ru
 obtain⟨its,rv,p,_⟩:=I.list hS
 have hb:=bH rv
 subst hb
 have hl:s.heap.IsList l (bs.map Value.bool).toArray:=p.isList
 have hne:l≠s.heap.objs.size:=by
  obtain⟨o,e,_⟩:=id hl
  exact Jr (Jb e)
 refine call_any_walk (wpAny_pyIter_list hl ?_)
 refine⟨s.heap.objs.size,_,_,_,_,_,fun i=>bs.getD i true,rfl,Walks.list (A:=X.A.in1) (I.ok.hd hc) s.heap.objs.size l hne (bs.map Value.bool).toArray,⟨⟨_,Je _ rfl,rfl,rfl⟩,hl.at fun o e=>IV _ e⟩,gW bs,fun h' tk kk=>?_⟩
 have e:(JZ (bs.map Value.bool).toArray.size).any (fun i=>bs.getD i true)=bs.any id:=by
  rw[show(bs.map Value.bool).toArray.size=bs.length by simp];exact oT bs
 rw[e]
 exact⟨.bl (bs.any id),H,I.kept fun b o z=>kk b o (by simp;exact Jr (Jb z)) (IV _ z),rfl,q⟩
def Dj:DRC:=fun ds M R=>∃(d:D) (bs:List Bool),ds=[d]∧C8 M d=some (bs.map D.bl)∧R (.bl (bs.any id)) M
theorem Gb(hc:X.calm=true):K0 X (.builtin "any") Dj:=u8.imp (pP hc) (by
 rintro xs H Q ⟨ds,M,R,hl,am,⟨d,bs,z,hM,r⟩,f⟩
 subst z
 obtain⟨v,rfl,hv⟩:=hl.one
 obtain⟨a,vs,rfl,s,l⟩:=C7 am hv hM
 rw[l.bools]at s
 exact⟨a,bs,rfl,s,f _ M r _ H (KT.refl H) am (.bl _)⟩)
end
theorem DF:bootBuiltins "any" = some (.builtin "any"):=by decide +kernel
structure GlD(K:IT)(mg:Str→Option Value)(x:Str)(d:D):Prop where
 ex:∃(v:V) (u:Value),mg x=some u∧o8 v u∧DR K v d
theorem z5{X:Cx}{x:Str}{d:D}{pos:Pos}(hg:Gl X x)(g:GlD X.K X.mg x d)(hd:(x == ("__debug__" : Str))=false:=by decide):JE X (.Name x pos) (dC d):=⟨by
 obtain⟨v,u,h1,h2,h3⟩:=g.ex
 exact Dr hg h1 h2 h3 hd⟩
theorem ym{K:IT}{mg:Str→Option Value}{h:Heap}{x:Str}{a:Addr}{od:Option Addr}{osl:Array (Option Value)}{i j:Int}{t u:Tok}{cap:Nat}(X:K.In h)(G:h.Ns mainGlobals mg)
  (n:PySem.W.nsIn K mainGlobals x=some (some (.ref a))) (l:K.lookup a=some ⟨.type "tuple",od,.seq #[.int i t,.int j u] cap,osl⟩):GlD K mg x (.tup [.int i,.int j]) :=
 ⟨.ref a,.ref a,PySem.W.mg_of X G n,rfl,fun H=>.tup (xs:=[.int i,.int j]) (.inr ⟨_,_,_,l,rfl,rfl,(show 2≤sizeLine by decide),.cons (show o8 (.int i) (.int i t)from⟨t,rfl⟩) (.cons (show o8 (.int j) (.int j u)from⟨u,rfl⟩) .nil)⟩) (.cons (.int i) (.cons (.int j) .nil))⟩
noncomputable def fS(f:Str→Str→D):D→D→Option D
 | .str i,.str j=>some (f i j)
 | _,_=>none
theorem nM{f:Str→Str→D}{x y z:D}(h:fS f x y=some z):∃ i j,x = .str i∧y = .str j∧z=f i j:=by
 cases x with
 | str i =>
  cases y with
  | str j=>exact⟨i,j,rfl,rfl,(Option.some.inj h).symm⟩
  | _=>cases h
 | _=>cases h
section
variable {X:Cx}
theorem v7:DOp X (compareOp .Eq) (gF (fS fun i j=>.bl (decide (i=j)))):=OpR.imp Am (by
 rintro x y H Q ⟨dx,dy,M,R,hx,hy,am,⟨z,e,r⟩,f⟩
 obtain⟨i,j,e1,e2,e3⟩:=nM e
 subst e1;subst e2;subst e3
 cases hx;cases hy
 refine⟨rfl,?_⟩
 have e:decide (V.str i=V.str j)=decide (i=j):=by simp
 rw[e]
 exact f _ M r _ H (KT.refl H) am (.bl _))
theorem tJ:DOp X (compareOp .NotEq) (gF (fS fun i j=>.bl (!decide (i=j)))):=OpR.imp Al (by
 rintro x y H Q ⟨dx,dy,M,R,hx,hy,am,⟨z,e,r⟩,f⟩
 obtain⟨i,j,e1,e2,e3⟩:=nM e
 subst e1;subst e2;subst e3
 cases hx;cases hy
 refine⟨rfl,?_⟩
 have e:decide (V.str i=V.str j)=decide (i=j):=by simp
 rw[e]
 exact f _ M r _ H (KT.refl H) am (.bl _))
end
structure gk(K:IT)(H1:Hp)(J:It)(ds:List D)(stay:Mem→Prop):Prop where
 go:∀ i H' M',i<ds.length→KT H1 H'→m7 K H' M'→stay M'→J.go i H'
 yld:∀ i H' M' x H'',i<ds.length→KT H1 H'→m7 K H' M'→stay M'→J.yld i H' x H''→∃ d,ds[i]? = some d∧KT H' H''∧m7 K H'' M'∧Has K H'' x d
 stop:∀ i H' M',ds.length≤i→KT H1 H'→m7 K H' M'→stay M'→J.stop i H'
 up:∀ M' p o,stay M'→M' p=none→stay (j9 M' p o)
def upI(K:IT)(ti:DTI):TI:=fun σ H R=>∃ e M R',t9 K H σ e∧m7 K H M∧ti e M R'∧∀ ds stay M1,R' ds stay M1→∀ H1,KT H H1→m7 K H1 M1→∀ J,gk K H1 J ds stay→R J H1
def DPI(X:Cx)(tg iter:Expr)(ti:DTI):Prop:=PI X tg iter (upI X.K ti)
structure JI(X:Cx)(tg iter:Expr)(ti:DTI):Prop where
 out:DPI X tg iter ti
theorem PI.imp{X:Cx}{tg iter:Expr}{wi wi':TI}(h:PI X tg iter wi)(i:∀ σ H R,wi' σ H R→wi σ H R):PI X tg iter wi':=fun pins s σ H R I q=>h pins s σ H R I (i σ H R q)
section
variable {X:Cx} {tg iter:Expr} {ti:DTE} {ta:DTA}
theorem rn{K:IT}{H1:Hp}{a:Addr}{xs:List V}{ds:List D}(s:SqT K H1 a xs)(l:HasL K H1 xs ds):gk K H1 (Itt K a) ds (fun _=>True) where
 go:=fun i H' M' hi k _ _=>⟨xs,_,k.sq s,Ji (by rw[l.length];exact hi)⟩
 yld:=fun i H' M' x H'' hi k am _ zz=>by
  obtain⟨e,y⟩:=zz
  subst e
  obtain⟨d,hd,r⟩:=l.getV (y xs (k.sq s))
  exact⟨d,hd,KT.refl _,am,r.mono k⟩
 stop:=fun i H' M' hi k _ _=>⟨xs,k.sq s,by rw[l.length];exact hi⟩
 up:=fun _ _ _ _ _=>trivial
theorem rA{K:IT}{H1:Hp}{p:Addr}{ds:List D}:gk K H1 (Itl K p) ds (fun M'=>M' p=some (.lst ds)) where
 go:=fun i H' M' hi k am st=>by
  obtain⟨ys,hy,ly⟩:=am.lst st
  exact⟨ys,_,SqL.of hy,Ji (by rw[ly.length];exact hi)⟩
 yld:=fun i H' M' x H'' hi k am st zz=>by
  obtain⟨e,y⟩:=zz
  subst e
  obtain⟨ys,hy,ly⟩:=am.lst st
  obtain⟨d,hd,r⟩:=ly.getV (y ys (SqL.of hy))
  exact⟨d,hd,KT.refl _,am,r⟩
 stop:=fun i H' M' hi k am st=>by
  obtain⟨ys,hy,ly⟩:=am.lst st
  exact⟨ys,SqL.of hy,by rw[ly.length];exact hi⟩
 up:=fun M' q o st hq=>by rw[e7 (by intro e;subst e;rw[hq]at st;cases st)];exact st
theorem rq{K:IT}{H1:Hp}{lo:Int}{n:Nat}:gk K H1 (Itr lo n) (F2 lo n) (fun _=>True) where
 go:=fun i H' M' hi k am st=>by rw[D4]at hi;exact hi
 yld:=fun i H' M' x H'' hi k am st zz=>by
  obtain⟨e,y⟩:=zz
  subst e;subst y
  rw[D4]at hi
  exact⟨_,bZ hi,KT.refl _,am,.int _⟩
 stop:=fun i H' M' hi k am st=>by rw[D4]at hi;exact hi
 up:=fun _ _ _ _ _=>trivial
theorem fN{a:Expr}{p p2:Pos}(hr:Gl X "range")(hm:X.mg "range" = none)(ha:JA X [a] ta)(hs0:starEach [a] X.env=[(false,eval a X.env)]:=by rfl):JI X tg (.Call (.Name "range" p) [a] [] p2) (AG ta):=⟨have ha:=ha.out;PI.imp (oW hr hm ha hs0) (by rintro σ H R ⟨e,M,R',ok,am,t,f⟩;exact⟨e,M,_,ok,am,t,fun ds M1 ⟨j,z,b1,b2,r⟩ vs H1 k1 a1 r1=>by
  subst z
  obtain⟨v,rfl,hv⟩:=r1.one
  cases hv
  exact⟨j,rfl,b1,b2,f _ _ M1 r H1 k1 a1 _ rq⟩⟩)⟩
def A5(M:Mem)(x:D)(ds:List D):Prop:=x = .tup ds∨(∃ p,x = .ref p∧M p=some (.lst ds))∨x = .vl ds
noncomputable def iP:D→Bool
 | .tup _=>false
 | _=>true
theorem A7{K:IT}{H:Hp}{M:Mem}{v:V}{x:D}{ds:List D}(h:A5 M x ds)(am:m7 K H M)(r:Has K H v x):∃ a xs,v = .ref a∧SqK K (iP x) H a xs∧HasL K H xs ds:=by
 rcases h with rfl|⟨p,rfl,m⟩|rfl
 rotate_left 2
 ·obtain⟨a,xs,e,sq,l⟩:=r.il
  exact⟨a,xs,e,sq,l⟩
 ·cases r with
  | tup s l=>exact⟨_,_,rfl,s,l⟩
 ·cases r
  obtain⟨xs,hx,l⟩:=am.lst m
  exact⟨p,xs,rfl,SqL.of hx,l⟩
theorem T7{M:Mem}{x:D}{ds:List D}{q:Addr}{o:MO}(h:A5 M x ds)(hq:M q=none):A5 (j9 M q o) x ds:=by
 rcases h with h|⟨p,e,h⟩|h
 ·exact .inl h
 ·exact .inr (.inl ⟨p,e,by rw[e7 (by intro e;subst e;rw[hq]at h;cases h)];exact h⟩)
 ·exact .inr (.inr h)
noncomputable def W0(ds es:List D):List D:=List.zipWith (fun a b=>.tup [a,b]) ds es
theorem Z3(ds es:List D):(W0 ds es).length=min ds.length es.length:=by simp[W0]
theorem pV{ds es:List D}{i:Nat}{a b:D}(h1:ds[i]? = some a)(h2:es[i]? = some b):(W0 ds es)[i]? = some (.tup [a,b]):=by
 unfold W0
 rw[List.getElem?_zipWith,h1,h2]
theorem rm{K:IT}{H1:Hp}{x y:D}{l1 l2:Addr}{ds es:List D}(h1:Has K H1 (.ref l1) x)(h2:Has K H1 (.ref l2) y) :
  gk K H1 (Itz K (iP x) (iP y) l1 l2) (W0 ds es) (fun M'=>A5 M' x ds∧A5 M' y es) where
 go:=fun i H' M' hi k am zz=>by
  obtain⟨s1,s2⟩:=zz
  rw[Z3]at hi
  obtain⟨a,xs,e1,q1,m1⟩:=A7 s1 am (h1.mono k)
  obtain⟨b,ys,e2,q2,m2⟩:=A7 s2 am (h2.mono k)
  cases e1;cases e2
  exact⟨xs,ys,_,_,q1,q2,Ji (by rw[m1.length];omega),Ji (by rw[m2.length];omega)⟩
 yld:=fun i H' M' v H'' hi k am ⟨s1,s2⟩ ⟨T,a,b,hT,ev,eH,u1,u2⟩=>by
  subst ev;subst eH
  obtain⟨a',xs,e1,q1,m1⟩:=A7 s1 am (h1.mono k)
  obtain⟨b',ys,e2,q2,m2⟩:=A7 s2 am (h2.mono k)
  cases e1;cases e2
  obtain⟨d1,g1,r1⟩:=m1.getV (u1 xs q1)
  obtain⟨d2,g2,r2⟩:=m2.getV (u2 ys q2)
  have kt:KT H' (upd H' T (.tup [a,b])):=KT.alloc hT
  exact⟨_,pV g1 g2,kt,am.alloc hT,.tup (SqT.of j4) (.cons (r1.mono kt) (.cons (r2.mono kt) .nil))⟩
 stop:=fun i H' M' hi k am zz=>by
  obtain⟨s1,s2⟩:=zz
  rw[Z3]at hi
  obtain⟨a,xs,e1,q1,m1⟩:=A7 s1 am (h1.mono k)
  obtain⟨b,ys,e2,q2,m2⟩:=A7 s2 am (h2.mono k)
  cases e1;cases e2
  refine⟨xs,ys,q1,q2,?_⟩
  rw[m1.length,m2.length]
  omega
 up:=fun _ _ _ st hq=>⟨T7 st.1 hq,T7 st.2 hq⟩
def AD(ta:DTA):DTI:=fun e M R=>ta e M fun xs M1=>∃ x y ds es,xs=[x,y]∧A5 M1 x ds∧A5 M1 y es∧R (W0 ds es) (fun M'=>A5 M' x ds∧A5 M' y es) M1
theorem yb{elts:List Expr}{kx:Nat}{tp:Pos}{a b:Expr}{p pos:Pos}(hg:Gl X "zip")(hm:X.mg "zip" = none)(ha:JA X [a,b] ta)
  (hs:starEach [a,b] X.env=[(false,eval a X.env),(false,eval b X.env)]:=by rfl) (hs2:starEach [b] X.env=[(false,eval b X.env)]:=by rfl):JI X (.Tuple elts kx tp) (.Call (.Name "zip" p) [a,b] [] pos) (AD ta):=⟨have ha:=ha.out;PI.imp (Ca hg hm ha hs hs2) (by rintro σ H R ⟨e,M,R',ok,am,t,f⟩;exact⟨e,M,_,ok,am,t,fun xs M1 ⟨x,y,ds,es,z,s1,s2,r⟩ vs H1 k1 a1 r1=>by
  subst z
  obtain⟨v,v',rfl,hv,hv'⟩:=r1.two
  obtain⟨a,zs,rfl,q1,m1⟩:=A7 s1 a1 hv
  obtain⟨b,ws,rfl,q2,m2⟩:=A7 s2 a1 hv'
  exact⟨_,_,a,b,rfl,⟨zs,q1⟩,⟨ws,q2⟩,f _ _ M1 r H1 k1 a1 _ (rm hv hv')⟩⟩)⟩
end
section
variable {X:Cx} {tg iter:Expr} {body:List Stmt} {ti:DTI} {g:DTG} {tb:DTS} {pos:Pos}
theorem U9(hp:PassesOwn (model X.prog X.w) X.A X.env X.xe)(hc:X.calm=true)(hi:JI X tg iter ti)(hg:JG X tg g)(hb:JSs X body tb)
  (hs:∀ x,foldedSetIterable iter X.env x=pure x:=by intro _;rfl):JS X (.For tg iter body [] pos) (FU ti g tb):=⟨have hi:=hi.out;have hg:=hg.out;have hb:=hb.out;(BX hp hc hi hg hb hs).imp (by rintro E σ H ⟨e,M,F,ok,am,t,f⟩;exact⟨e,M,_,ok,am,t,fun ds stay M1 ⟨W,w0,hst,step,done⟩ H1 k1 a1 J wk=>by
  refine⟨fun i m σ' H'=>m=ds.length - i∧i≤ds.length∧∃ e' M',KT H1 H'∧t9 X.K H' σ' e'∧m7 X.K H' M'∧W i e' M',⟨ds.length,by simp,Jx _,e,M1,KT.refl H1,ok.mono k1,a1,w0⟩,?_⟩
  rintro i m σ2 H2 ⟨rfl,hi,e2,M2,k2,ok2,a2,w2⟩
  have st:=hst i e2 M2 hi w2
  by_cases hlt:i<ds.length
  ·refine .inr ⟨wk.go i H2 M2 hlt k2 a2 st,fun σ' H'=>∃ e' M',KT H1 H'∧t9 X.K H' σ' e'∧m7 X.K H' M'∧W (i+1) e' M',fun σ' H' h=>⟨ds.length - (i+1),by omega,rfl,hlt,h⟩,fun y H' yl=>?_⟩
   obtain⟨d,hd,k3,a3,r⟩:=wk.yld i H2 M2 y H' hlt k2 a2 st yl
   exact uz f k1 (k2.trans k3) (ok2.mono k3) a3 r (step i d e2 M2 hd w2)
  ·have e':i=ds.length:=by omega
   subst e'
   exact .inl ⟨wk.stop _ H2 M2 (Ja _) k2 a2 st,f.nx e2 M2 (done e2 M2 w2) σ2 H2 (k1.trans k2) a2 ok2⟩⟩)⟩
end
noncomputable def jj(n:Nat)(caps:List Nat)(e:Ev):Ev:=Jo n none++caps.map fun i=>(e[i]?).getD none
theorem yx{K:IT}{H:Hp}{σ:St}{e:Ev}(n:Nat)(caps:List Nat)(ok:t9 K H σ e):t9 K H (fY n caps σ) (jj n caps e):=by
 refine⟨by simp[fY,jj],fun i d h=>?_⟩
 unfold jj at h
 unfold fY
 rw[KD]at h ⊢
 rw[Kk]at h ⊢
 by_cases hi:i<n
 ·rw[if_pos hi]at h
  rw[JM]at h
  split at h<;>cases h
 ·rw[if_neg hi]at h ⊢
  rw[Ju]at h ⊢
  cases hj:caps[i - n]? with
  | none=>rw[hj]at h;cases h
  | some j =>
   rw[hj]at h
   have h':(e[j]?).getD none=some d:=by simpa using h
   have he:e[j]? = some (some d):=by
    cases q:e[j]? with
    | none=>rw[q]at h';cases h'
    | some z=>rw[q]at h';rw[show z=some d by simpa using h']
   obtain⟨v,h1,h2⟩:=ok.has j d he
   exact⟨v,by simp[h1],h2⟩
theorem Gd{p:Str→Prop}{a:Str}(h:p a):∀ x∈[a],p x:=fun x hx=>by
 simp only[Jj,Js,or_false]at hx
 subst hx;exact h
noncomputable def mO(t T1 T2:String):Option Bool:=match eJ t T1 with
 | some true=>some true
 | some false=>eJ t T2
 | none=>none
theorem oI{K:IT}(hk:jr K){t T1 T2:String}{b:Bool}(h:mO t T1 T2=some b):PySem.W.kitAny K (.type t) [.type T1,.type T2]=some b:=by
 unfold mO at h
 unfold PySem.W.kitAny
 cases e:eJ t T1 with
 | none=>rw[e]at h;cases h
 | some c =>
  rw[e]at h
  rw[hk t T1 c e]
  cases c with
  | true=>exact h
  | false =>
   dsimp only at h ⊢
   unfold PySem.W.kitAny
   rw[hk t T2 b h]
   cases b<;>rfl
section
variable {X:Cx}
def E4:DRC:=fun ds M R=>∃ d t T1 T2 b,ds=[d,.tup [.ty T1,.ty T2]]∧tyD M d=some t∧mO t T1 T2=some b∧R (.bl b) M
theorem DC(hk:jr X.K):K0 X (.builtin "isinstance") E4:=by
 intro pins s σ H xs us Q I rv h
 obtain⟨ds,M,R,hl,am,⟨d,t,T1,T2,b,rfl,ht,hb,r⟩,f⟩:=h
 obtain⟨v,v',rfl,h1,h2⟩:=hl.two
 cases h2 with
 | tup sT lT =>
  obtain⟨u,w',rfl,r1,r2⟩:=gP rv
  cases(show w'=Value.ref _ from r2)
  obtain⟨a1,a2,rfl,q1,q2⟩:=lT.two
  cases q1;cases q2
  obtain⟨its,rT,⟨o,e1,e2,n,e3⟩,_⟩:=I.tuple sT
  obtain⟨t1,t2,rfl,w1,w2⟩:=gP rT
  cases(show t1=Value.type T1 from w1)
  cases(show t2=Value.type T2 from w2)
  obtain⟨cls,dd,data,sl⟩:=o
  simp only at e2 e3
  subst e2;subst e3
  have e:=oI hk hb
  have fin:∀ tk,EP X pins σ Q (.bool b) { s with toks:=tk }:=fun tk=>⟨.bl b,H,I.tok tk,rfl,f _ M r _ H (KT.refl H) am (.bl b)⟩
  cases h1 with
  | non=>cases ht;cases(show u=Value.none from r1);exact PySem.W.kia_tup PySem.W.kitx_none I.kIn trivial e1 e (fun z=>nomatch z) fin
  | bl q=>cases ht;cases(show u=Value.bool q from r1);exact PySem.W.kia_tup PySem.W.kitx_bool I.kIn trivial e1 e (fun z=>nomatch z) fin
  | int q=>cases ht;obtain⟨tk,rfl⟩:=r1;exact PySem.W.kia_tup PySem.W.kitx_int I.kIn trivial e1 e (fun z=>nomatch z) fin
  | str q=>cases ht;obtain⟨tk,rfl⟩:=r1;exact PySem.W.kia_tup PySem.W.kitx_str I.kIn trivial e1 e (fun z=>nomatch z) fin
  | ty q=>cases ht
  | ref p =>
   unfold tyD at ht
   cases q:M p with
   | none=>simp[q]at ht
   | some o =>
    cases o with
    | lst es =>
     simp only[q]at ht
     cases ht
     obtain⟨ys,hy,_⟩:=am.lst q
     cases(show u=Value.ref _ from r1)
     obtain⟨its2,_,⟨o2,n2,g1,g2,_⟩,_⟩:=I.list (SqL.of (K:=X.K) hy)
     exact PySem.W.kia_tup PySem.W.kitx_list I.kIn ⟨o2,g1,g2⟩ e1 e (fun z=>nomatch z) fin
    | ins C fs=>simp[q]at ht
  | tup s' l =>
   cases ht
   cases(show u=Value.ref _ from r1)
   obtain⟨its2,_,⟨o2,g1,g2,_⟩,_⟩:=I.tuple s'
   exact PySem.W.kia_tup PySem.W.kitx_tuple I.kIn ⟨o2,g1,g2⟩ e1 e (fun z=>nomatch z) fin
  | vl hq hl' =>
   cases ht
   cases(show u=Value.ref _ from r1)
   obtain⟨_,_,ea,sq,_⟩:=Has.il (.vl hq hl')
   cases ea
   obtain⟨its2,_,⟨o2,n2,g1,g2,_⟩,_⟩:=I.list sq
   exact PySem.W.kia_tup PySem.W.kitx_list I.kIn ⟨o2,g1,g2⟩ e1 e (fun z=>nomatch z) fin
  | dic hq =>
   cases ht
   cases(show u=Value.ref _ from r1)
   obtain⟨o2,g1,g2⟩:=hq
   exact PySem.W.kia_tup PySem.W.kitx_dict I.kIn ⟨o2,(I.hok _ _ g1).1,g2⟩ e1 e (fun z=>nomatch z) fin
  | exc hq=>cases ht
def GX(K:IT)(tl:TE):TI:=fun σ H R=>tl σ H fun x H1=>∃(a:Addr) (k:Bool),x = .ref a∧(∃ xs,SqK K k H1 a xs)∧R (if k=true then Itl K a else Itt K a) H1
theorem Cd{tg l:Expr}{tl:TE}(hl:PE X l tl):PI X tg l (GX X.K tl):=by
 intro pins s σ H R I h
 refine thn (hl pins s σ H _ I h) fun v s1 zz=>?_
 obtain⟨x,H1,I1,r1,q1⟩:=zz
 obtain⟨a,k,e,⟨xs,hq⟩,q⟩:=q1
 subst e
 cases r1
 obtain⟨its,rv,p⟩:=I1.sqk hq
 have nf:∀ b∈[s1.heap.objs.size],T0 X pins H1 b:=fun b hb=>by
  have e:b=s1.heap.objs.size:=by simpa using hb
  subst e
  exact I1.fpOk (Ja _) (I1.hok.fresh (Ja _))
 cases k with
 | true=>exact wpAny_pyIter_list p ⟨s1.heap.objs.size,[s1.heap.objs.size],_,_,H1,rfl,I1.kept (t':=s1.toks) fun b o e=>IV _ e,oA a _,⟨_,Je _ rfl,rfl,rfl⟩,nf,q⟩
 | false=>exact wpAny_pyIter_tuple p ⟨s1.heap.objs.size,[s1.heap.objs.size],_,_,H1,rfl,I1.kept (t':=s1.toks) fun b o e=>IV _ e,jC a _,⟨_,Je _ rfl,rfl,rfl⟩,nf,q⟩
def AF(ti:DTE):DTI:=fun e M R=>ti e M fun x M1=>∃ ds,A5 M1 x ds∧R ds (fun M'=>A5 M' x ds) M1
theorem fM{tg iter:Expr}{ti:DTE}(hi:JE X iter ti):JI X tg iter (AF ti):=⟨have hi:=hi.out;PI.imp (Cd hi) (by rintro σ H R ⟨e,M,R',ok,am,t,f⟩;exact⟨e,M,_,ok,am,t,fun x M1 ⟨ds,sq,r⟩ v H1 k1 a1 r1=>by
 have sq':=sq
 rcases sq with rfl|⟨p,rfl,hm⟩|rfl
 rotate_left 2
 ·obtain⟨a,xs,rfl,sq,l⟩:=r1.il
  have wk:gk X.K H1 (Itl X.K a) ds (fun M'=>A5 M' (.vl ds) ds):=⟨fun i H' M' hi k am _=>by
    obtain⟨a',ys,e,sq',l'⟩:=(r1.mono k).il
    cases e
    exact⟨ys,_,sq',Ji (by rw[l'.length];exact hi)⟩,
   fun i H' M' x H'' hi k am _ zz=>by
    obtain⟨e,y⟩:=zz
    subst e
    obtain⟨a',ys,e,sq',l'⟩:=(r1.mono k).il
    cases e
    obtain⟨d,hd,r⟩:=l'.getV (y ys sq')
    exact⟨d,hd,KT.refl _,am,r⟩,
   fun i H' M' hi k am _=>by
    obtain⟨a',ys,e,sq',l'⟩:=(r1.mono k).il
    cases e
    exact⟨ys,sq',by rw[l'.length];exact hi⟩,fun _ _ _ st hq=>T7 st hq⟩
  exact⟨a,true,rfl,⟨xs,sq⟩,f ds _ M1 r H1 k1 a1 _ wk⟩
 ·cases r1 with
  | tup s l =>
   refine⟨_,false,rfl,⟨_,s⟩,f ds _ M1 r H1 k1 a1 _ ?_⟩
   have w:=rn (K:=X.K) s l
   exact⟨fun i H' M' a b c _=>w.go i H' M' a b c trivial,fun i H' M' y H2 a b c _ g=>w.yld i H' M' y H2 a b c trivial g,fun i H' M' a b c _=>w.stop i H' M' a b c trivial,fun _ _ _ st hq=>T7 st hq⟩
 ·cases r1
  obtain⟨xs,hx,l⟩:=a1.lst hm
  refine⟨p,true,rfl,⟨xs,SqL.of hx⟩,f ds _ M1 r H1 k1 a1 _ ?_⟩
  have w:=rA (K:=X.K) (H1:=H1) (p:=p) (ds:=ds)
  have cv:∀{M':Mem},A5 M' (.ref p) ds→M' p=some (.lst ds):=fun z=>by
   rcases z with z|⟨p',z,h⟩|z
   ·cases z
   ·cases z;exact h
   ·cases z
  exact⟨fun i H' M' a b c z=>w.go i H' M' a b c (cv z),fun i H' M' y H2 a b c z g=>w.yld i H' M' y H2 a b c (cv z) g,fun i H' M' a b c z=>w.stop i H' M' a b c (cv z),fun _ _ _ st hq=>T7 st hq⟩⟩)⟩
end
theorem kr{K:IT}{mg:Str→Option Value}{h:Heap}{x:Str}{i:Int}{t:Tok}(X:K.In h)(G:h.Ns mainGlobals mg)(n:PySem.W.nsIn K mainGlobals x=some (some (.int i t))):GlD K mg x (.int i) :=
 ⟨.int i,.int i t,PySem.W.mg_of X G n,⟨t,rfl⟩,fun _=>.int i⟩
section
variable {X:Cx}
def yr:DRC:=fun ds M R=>∃ x ys,ds=[x]∧A5 M x ys∧∀ p,M p=none→R (.ref p) (j9 M p (.lst ys))
theorem vh:K0 X (.type "list") yr:=u8.imp fZ (by
 rintro xs H Q ⟨ds,M,R,hl,am,⟨x,ys,z,e,r⟩,f⟩
 subst z
 obtain⟨v,rfl,hv⟩:=hl.one
 rcases e with rfl|⟨p,rfl,hm⟩|rfl
 rotate_left 2
 ·obtain⟨a,xs,rfl,sq,l⟩:=hv.il
  exact⟨a,xs,rfl,.inl sq,fun p hp=>f _ _ (r p (am.fresh hp)) _ _ (KT.alloc hp) (am.new hp l) (.ref p)⟩
 ·cases hv with
  | tup s l=>exact⟨_,_,rfl,.inr s,fun p hp=>f _ _ (r p (am.fresh hp)) _ _ (KT.alloc hp) (am.new hp l) (.ref p)⟩
 ·cases hv
  obtain⟨zs,hx,l⟩:=am.lst hm
  exact⟨p,zs,rfl,.inl (SqL.of hx),fun q hq=>f _ _ (r q (am.fresh hq)) _ _ (KT.alloc hq) (am.new hq l) (.ref q)⟩)
end
section
variable {X:Cx}
def fT:DRM:=fun x xs M R=>∃ l ds v,x = .ref l∧xs=[v]∧M l=some (.lst ds)∧ds.length<sizeLine∧R .non (j9 M l (.lst (ds++[v])))
theorem J8:DMt X "list.append" fT:=MtR.imp (r:=mW) ee (by
 rintro x xs H Q ⟨dx,ds,M,R,hx,hl,am,⟨l,es,v,e1,e2,hM,hz,r⟩,f⟩
 subst e1;subst e2
 cases hx
 obtain⟨w,rfl,hw⟩:=hl.one
 obtain⟨ys,hy,ly⟩:=am.lst hM
 exact⟨l,ys,w,rfl,rfl,hy,by rw[ly.length];exact hz,f _ _ r _ _ (KT.write hy) (am.write hy (ly.append (.cons hw .nil))) .non⟩)
def nE:DRM:=fun x xs M R=>∃ l b ds es,x = .ref l∧xs=[.ref b]∧M l=some (.lst ds)∧M b=some (.lst es)∧ds.length+es.length≤sizeLine∧R .non (j9 M l (.lst (ds++es)))
theorem pH:DMt X "list.extend" nE:=MtR.imp (r:=mV) pd (by
 rintro x xs H Q ⟨dx,ds,M,R,hx,hl,am,⟨l,b,es,vs,e1,e2,hM,hB,hz,r⟩,f⟩
 subst e1;subst e2
 cases hx
 obtain⟨w,rfl,hw⟩:=hl.one
 cases hw
 obtain⟨ys,hy,ly⟩:=am.lst hM
 obtain⟨zs,hz',lz⟩:=am.lst hB
 exact⟨l,b,ys,zs,rfl,rfl,hy,hz',by rw[ly.length,lz.length];exact hz,f _ _ r _ _ (KT.write hy) (am.write hy (ly.append lz)) .non⟩)
end
theorem jl{xs:List D}{x:D}:atI (xs++[x]) (-1)=some x:=by
 unfold atI ixN
 rw[if_neg (by decide),Jp,Lr]
 rw[if_pos (by omega)]
 have e:((-1:Int)+((xs.length+1:Nat):Int)).toNat=xs.length:=by omega
 rw[e]
 simp
theorem HasL.rep{K:IT}{H:Hp}{xs:List V}{ds:List D}(h:HasL K H xs ds):∀ k:Nat,HasL K H (Jo k xs).flatten (Jo k ds).flatten
 | 0=>.nil
 | k+1=>by
  rw[JQ,JQ,Kb,Kb]
  exact h.append (HasL.rep h k)
section
variable {X:Cx}
def Hb:DR2:=fun x y M R=>∃ l k ds,x = .ref l∧y = .int k∧M l=some (.lst ds)∧0≤k∧k<2 ^ 62∧ds.length*k.toNat≤sizeLine∧∀ p,M p=none→R (.ref p) (j9 M p (.lst (Jo k.toNat ds).flatten))
theorem Fo:DOp X (binaryOp .Mult) Hb:=OpR.imp Cu (by
 rintro x y H Q ⟨dx,dy,M,R,hx,hy,am,⟨l,k,ds,e1,e2,hm,h0,h1,hz,r⟩,f⟩
 subst e1;subst e2
 cases hx;cases hy
 obtain⟨xs,hx,lx⟩:=am.lst hm
 exact⟨l,k,xs,rfl,rfl,hx,by omega,by omega,by rw[lx.length];exact hz,fun p hp=>f _ _ (r p (am.fresh hp)) _ _ (KT.alloc hp) (am.new hp (lx.rep _)) (.ref p)⟩)
end
noncomputable abbrev DTO:=Ev→Mem→(Option Int→Mem→Prop)→Prop
def upO(K:IT)(t:DTO):TO:=fun σ H Q=>∃ e M R,t9 K H σ e∧m7 K H M∧t e M R∧∀ o M',R o M'→∀ H',KT H H'→m7 K H' M'→Q o H'
def DPO(X:Cx)(e:Option Expr)(t:DTO):Prop:=PO X e (upO X.K t)
structure JO(X:Cx)(e:Option Expr)(t:DTO):Prop where
 out:DPO X e t
def nT:DTO:=fun _ M R=>R none M
def AM(t:DTE):DTO:=fun e M R=>t e M fun x M1=>∃ i,x = .int i∧R (some i) M1
theorem PO.imp{X:Cx}{e:Option Expr}{t t':TO}(h:PO X e t)(i:∀ σ H Q,t' σ H Q→t σ H Q):PO X e t':=fun pins s σ H Q I q=>h pins s σ H Q I (i σ H Q q)
section
variable {X:Cx} {e:Expr} {te:DTE} {lo hi:Option Expr} {tl th:DTO} {pos p2:Pos}
theorem B5:JO X none nT:=⟨PO.imp xA (by rintro σ H Q ⟨e,M,R,ok,am,t,f⟩;exact f none M t H (KT.refl H) am)⟩
theorem B4(h:JE X e te):JO X (some e) (AM te):=⟨have h:=h.out;PO.imp (xy h) (by rintro σ H Q ⟨e,M,R,ok,am,t,f⟩;exact⟨e,M,_,ok,am,t,fun x M1 ⟨i,z,r⟩ v H1 k1 a1 r1=>by
 subst z;cases r1
 exact⟨i,rfl,f (some i) M1 r H1 k1 a1⟩⟩)⟩
noncomputable def Z0(ds:List D)(lo hi:Option Int):List D:=(ds.drop (HT.sIx ds.length 0 lo)).take (HT.sIx ds.length ds.length hi - HT.sIx ds.length 0 lo)
theorem HasL.cut{K:IT}{H:Hp}{xs:List V}{ds:List D}(h:HasL K H xs ds)(lo hi:Option Int):HasL K H (jb xs lo hi) (Z0 ds lo hi):=by
 unfold jb Z0
 rw[h.length]
 exact(h.drop _).take _
end
section
variable {X:Cx} {ta:DTA}
end
noncomputable def Y9(M:Mem)(a:Addr):Mem:=fun b=>if b=a then none else M b
theorem A9{M:Mem}{a b:Addr}(h:b≠a):Y9 M a b=M b:=by unfold Y9;rw[if_neg h]
theorem cI{M:Mem}{a:Addr}{o:MO}(h:M a=none):Y9 (j9 M a o) a=M:=by
 funext b;unfold Y9 j9;by_cases e:b=a
 ·rw[if_pos e,e,h]
 ·rw[if_neg e,if_neg e]
section
variable {K:IT} {H:Hp} {M:Mem} {p:Addr}
theorem m7.at{o:HO}(h:m7 K H M)(k:KT0 H (upd H p o))(hp:M p=none):m7 K (upd H p o) M:=fun a u m=>by
 cases u with
 | lst ds =>
  obtain⟨xs,z,l⟩:=h a _ m
  have hn:a≠p:=by intro e;subst e;rw[hp]at m;cases m
  exact⟨xs,by rw[i3 hn];exact z,l.mono0 k⟩
 | ins C fs =>
  obtain⟨C0,dx,ys,z,l,hc⟩:=h a _ m
  have hn:a≠p:=by intro e;subst e;rw[hp]at m;cases m
  exact⟨C0,dx,ys,by rw[i3 hn];exact z,l.mono0 k,hc⟩
theorem m7.del(h:m7 K H M):m7 K H (Y9 M p):=fun a u m=>by
 by_cases e:a=p
 ·subst e;unfold Y9 at m;rw[if_pos rfl]at m;cases m
 ·rw[A9 e]at m;exact h a u m
theorem Y8:Y9 M p p=none:=by unfold Y9;rw[if_pos rfl]
theorem m7.none_ext{φ:Heap→Prop}(h:m7 K H M)(e:H p=some (.ext φ)):M p=none:=by
 cases q:M p with
 | none=>rfl
 | some o =>
  cases o with
  | lst ds=>obtain⟨xs,z,_⟩:=h p _ q;rw[e]at z;cases z
  | ins C fs=>obtain⟨_,dx,ys,z,_⟩:=h p _ q;rw[e]at z;cases z
end
section
variable {X:Cx} {x:Expr} {t:DTE} {es:List Expr} {tr:DTA} {pos:Pos}
def FT(t:DTE):DTE:=fun e M R=>t e M fun x M1=>∃ p ds,x = .ref p∧M1 p=some (.lst ds)∧R (.vl ds) (Y9 M1 p)
theorem fP(h:JE X x t):JE X x (FT t):=⟨have h:=h.out;(X4 h).imp (by rintro σ H Q ⟨e,M,R,ok,am,t,f⟩;exact⟨e,M,_,ok,am,t,fun d M1 ⟨p,ds,z,hm,r⟩ v H1 k1 a1 r1=>by
 subst z
 cases r1
 obtain⟨xs,hx,lx⟩:=a1.lst hm
 exact⟨p,xs,rfl,hx,fun o=>f _ _ r _ _ (k1.trans (KT.any hx)) (a1.del.at (KT.any hx).toKT0 Y8) (.vl (.inl ⟨o,j4⟩) (lx.mono (KT.any hx)))⟩⟩)⟩
def FW(t:DTE):DTE:=fun e M R=>t e M fun x M1=>∃ M2:Mem,(∀ b o,M2 b=some o→M1 b=some o)∧R x M2
theorem E2(h:JE X x t):JE X x (FW t):=⟨have h:=h.out;PE.imp h (by rintro σ H Q ⟨e,M,R,ok,am,t,f⟩;exact⟨e,M,_,ok,am,t,fun d M1 ⟨M2,hs,r⟩ v H1 k1 a1 r1=>f d M2 r v H1 k1 (fun a o q=>a1 a o (hs a o q)) r1⟩)⟩
def uP(t:DTA):DTE:=fun e M R=>t e M fun ds M1=>ds.length≤sizeLine∧R (.vl ds) M1
theorem V2{K:IT}{H0 H:Hp}{M:Mem}{R:DK}{Q:VK}{vs:List V}{ds:List D}(f:Z2 K H0 R Q)(k:KT H0 H)(am:m7 K H M)(l:HasL K H vs ds)(r:R (.vl ds) M)(p:Addr)(hp:H p=none) :
  ∃ q xs,V.ref p = .ref q∧upd H p (.lst vs) q=some (.lst xs)∧∀ o,Q (.ref p) (upd (upd H p (.lst vs)) q (.frz o (.lst xs))) :=
 ⟨p,vs,rfl,j4,fun o=>by
  rw[T6]
  exact f _ M r _ _ (k.trans (KT.alloc hp)) (am.alloc hp) (.vl (.inl ⟨o,j4⟩) (l.mono (KT.alloc hp)))⟩
theorem u6(h:JA X es tr):JE X (.List es pos) (uP tr):=⟨have h:=h.out;(X4 (jX h)).imp (by rintro σ H Q ⟨e,M,R,ok,am,t,f⟩;exact⟨e,M,_,ok,am,t,fun ds M1 ⟨hz,h1⟩ vs H1 k1 a1 r1=>⟨by rw[r1.length];exact hz,fun p hp=>V2 f k1 a1 r1 h1 p hp⟩⟩)⟩
def ux(x y:D)(M:Mem)(R:DK):Prop:=∃ xs ys,C8 M x=some xs∧C8 M y=some ys∧xs.length+ys.length≤sizeLine∧R (.vl (xs++ys)) M
def AR(ta tb:DTE):DTE:=fun e M R=>ta e M fun x M1=>tb e M1 fun y M2=>ux x y M2 R
theorem P6{a b:Expr}{ta tb:DTE}(ha:JE X a ta)(hb:JE X b tb):JE X (.BinOp a .Add b pos) (AR ta tb):=⟨have ha:=ha.out;have hb:=hb.out;(X4 (Ai xM ha hb)).imp (by rintro σ H Q ⟨e,M,R,ok,am,t,f⟩;exact⟨e,M,_,ok,am,t,fun x M1 h1 v H1 k1 a1 r1=>⟨e,M1,_,ok.mono k1,a1,h1,fun y M2 ⟨xs,ys,e1,e2,hz,r⟩ u H2 k2 a2 r2=>by
  obtain⟨a,vs,rfl,s1,l1⟩:=C7 a2 (r1.mono k2) e1
  obtain⟨b,ws,rfl,s2,l2⟩:=C7 a2 r2 e2
  exact⟨a,b,vs,ws,rfl,rfl,s1,s2,by rw[l1.length,l2.length];exact hz,fun p hp=>V2 f (k1.trans k2) a2 (l1.append l2) r p hp⟩⟩⟩)⟩
def yq(x:D)(lo hi:Option Int)(M:Mem)(R:DK):Prop:=(∃ ds,C8 M x=some ds∧R (.vl (Z0 ds lo hi)) M) ∨ ∃ ds,x = .tup ds∧¬ (HT.sIx ds.length 0 lo=0∧HT.sIx ds.length ds.length hi=ds.length)∧R (.tup (Z0 ds lo hi)) M
def FJ(te:DTE)(tl th:DTO):DTE:=fun e M R=>te e M fun x M1=>tl e M1 fun l M2=>th e M2 fun u M3=>yq x l u M3 R
theorem J6{e:Expr}{te:DTE}{lo hi:Option Expr}{tl th:DTO}{p2:Pos}(he:JE X e te)(hl:JO X lo tl)(hu:JO X hi th):JE X (.Subscript e (.Slice lo hi none p2) pos) (FJ te tl th):=⟨have he:=he.out;have hl:=hl.out;have hu:=hu.out;(xG (ik (SlR.or xj By) he hl hu)).imp (by rintro σ H Q ⟨e,M,R,ok,am,t,f⟩;exact⟨e,M,_,ok,am,t,fun x M1 h1 v H1 k1 a1 r1=>⟨e,M1,_,ok.mono k1,a1,h1,fun l M2 h2 H2 k2 a2=>⟨e,M2,_,(ok.mono k1).mono k2,a2,h2,fun u M3 h3 H3 k3 a3=>by
  rcases h3 with⟨ds,hi,r⟩|⟨ds,rfl,hw,r⟩
  ·obtain⟨a,xs,rfl,sq,lx⟩:=C7 a3 ((r1.mono k2).mono k3) hi
   exact .inl ⟨a,xs,rfl,sq,fun p hp=>.inl (V2 f (k1.trans (k2.trans k3)) a3 (lx.cut l u) r p hp)⟩
  ·cases(r1.mono k2).mono k3 with
   | tup sq lx =>
    exact .inr ⟨_,_,rfl,sq,by rw[lx.length];exact hw,fun p hp=>.inr (f _ M3 r _ _ ((k1.trans (k2.trans k3)).trans (KT.alloc hp)) (a3.alloc hp) (.tup (SqT.of j4) ((lx.cut l u).mono (KT.alloc hp))))⟩⟩⟩⟩)⟩
end
section
variable {X:Cx} {e:Expr} {es:List Expr} {t:DTA} {x:Str} {p pos:Pos}
variable {te:DTE} {pos':Pos}
end
section
variable {X:Cx}
noncomputable def nJ:D→Option V
 | .non=>some .non
 | .bl b=>some (.bl b)
 | .int i=>some (.int i)
 | .str x=>some (.str x)
 | _=>none
theorem Y5{K:IT}{H:Hp}{v w:V}{d:D}(h:Has K H v d)(e:nJ d=some w):v=w∧Q6 w=true:=by
 cases h with
 | non=>cases e;exact⟨rfl,rfl⟩
 | bl b=>cases e;exact⟨rfl,rfl⟩
 | int i=>cases e;exact⟨rfl,rfl⟩
 | str x=>cases e;exact⟨rfl,rfl⟩
 | _=>cases e
theorem Y6{K:IT}{H:Hp}:∀{vs ws:List V} {ds:List D},HasL K H vs ds→ds.map nJ=ws.map some→vs=ws∧ws.all Q6=true
 | _,[],_,.nil,_=>⟨rfl,rfl⟩
 | _,_ :: _,_,.nil,e=>by cases e
 | _,[],_,.cons _ _,e=>by cases e
 | _,w :: ws,_,.cons h t,e=>by
  rw[IY,IY]at e
  injection e with e1 e2
  obtain⟨rfl,f⟩:=Y5 h e1
  obtain⟨rfl,f2⟩:=Y6 t e2
  exact⟨rfl,by rw[Ld,f,f2];rfl⟩
def gIn(neg:Bool):DR2:=fun x y M R=>∃(v:V) (ds:List D) (ws:List V),nJ x=some v∧A5 M y ds∧ds.map nJ=ws.map some∧R (.bl (if neg then !inV v ws else inV v ws)) M
theorem Fp:DOp X (compareOp .In) (gIn false):=OpR.imp oX (by
 rintro x y H Q ⟨dx,dy,M,R,hx,hy,am,⟨v,ds,ws,e1,sq,e2,r⟩,f⟩
 obtain⟨rfl,fv⟩:=Y5 hx e1
 obtain⟨a,xs,rfl,q1,m1⟩:=A7 sq am hy
 obtain⟨rfl,fs⟩:=Y6 m1 e2
 refine⟨a,xs,rfl,?_,fv,fs,f _ M r _ H (KT.refl H) am (.bl _)⟩
 cases hk:iP dy with
 | true=>rw[hk]at q1;exact .inl q1
 | false=>rw[hk]at q1;exact .inr q1)
theorem xR:DOp X (compareOp .NotIn) (gIn true):=OpR.imp fq (by
 rintro x y H Q ⟨dx,dy,M,R,hx,hy,am,⟨v,ds,ws,e1,sq,e2,r⟩,f⟩
 obtain⟨rfl,fv⟩:=Y5 hx e1
 obtain⟨a,xs,rfl,q1,m1⟩:=A7 sq am hy
 obtain⟨rfl,fs⟩:=Y6 m1 e2
 refine⟨a,xs,rfl,?_,fv,fs,f _ M r _ H (KT.refl H) am (.bl _)⟩
 cases hk:iP dy with
 | true=>rw[hk]at q1;exact .inl q1
 | false=>rw[hk]at q1;exact .inr q1)
open Classical in
def Dh(neg:Bool):DR2:=fun x y M R=>∃ p xs ys,x = .ref p∧y = .vl ys∧M p=some (.lst xs)∧clL 50 xs=true∧clL 50 ys=true∧R (.bl (neg.xor (decide (xs=ys)))) M
open Classical in
theorem uw{neg:Bool}{x y:D}{M:Mem}{R:DK}(h:Dh neg x y M R):gEq neg x y M R:=by
 obtain⟨p,xs,ys,rfl,rfl,h1,c1,c2,r⟩:=h
 obtain⟨a,b,c⟩:=clL_py (M:=M) c1
 obtain⟨a2,b2,c2'⟩:=clL_py (M:=M) c2
 refine⟨_,_,.lst h1 a,.vl a2,?_,?_,?_⟩
 ·simp only[SeqAt.shaped,PyData.canLay0,b,KG,PyData.depth];exact decide_eq_true (by omega)
 ·simp only[SeqAt.shaped,PyData.canLay0,b2,KG,PyData.depth];exact decide_eq_true (by omega)
 ·have e:PyData.eqv (.list (pyDL xs)) (.list (pyDL ys))=decide (xs=ys):=by
   have:=clL_eqv c1 c2
   simp only[PyData.eqv]
   by_cases q:xs=ys
   ·rw[decide_eq_true q];exact this.mpr q
   ·rw[decide_eq_false q]
    cases z:PyData.eqvAll (pyDL xs) (pyDL ys)with
    | false=>rfl
    | true=>exact absurd (this.mp z) q
  rw[e];exact r
theorem Fq(hu:X.A.units+64<cLine):DOp X (compareOp .Eq) (Dh false):=OpR.imp (Fs hu) (by rintro _ _ _ _ ⟨dx,dy,M,R,hx,hy,am,h,f⟩;exact⟨dx,dy,M,R,hx,hy,am,uw h,f⟩)
end
noncomputable abbrev O9:=Ev→Mem→(Bool→Mem→Prop)→Prop
abbrev Gk(X:Cx)(ifs:List Expr)(t:O9):Prop:=az X ifs (upT X.K t)
structure DP(X:Cx)(ifs:List Expr)(t:O9):Prop where
 out:Gk X ifs t
def Dt:O9:=fun _ M R=>R true M
theorem az.imp{X:Cx}{ifs:List Expr}{t t':TT}(h:az X ifs t)(i:∀ σ H Q,t' σ H Q→t σ H Q):az X ifs t':=fun pins s σ H Q I q=>h pins s σ H Q I (i σ H Q q)
theorem P5{X:Cx}:DP X [] Dt:=⟨az.imp tj (by rintro σ H Q ⟨e,M,R,ok,am,t,f⟩;exact f true M t H (KT.refl H) am)⟩
theorem pv{X:Cx}{c:Expr}{t:DTT}(h:JT X c t):DP X [c] t:=⟨have h:=h.out;tf h⟩
structure ox(e0:Ev)(g:DTG)(tc:O9)(te:DTE)(ds:List D)(stay:Mem→Prop)(M1:Mem)(E:List D→Mem→Prop)(W:Nat→List D→Mem→Prop):Prop where
 start:W 0 [] M1
 stays:∀ i ys M,i≤ds.length→W i ys M→stay M
 turn:∀(i:Nat) (d:D) ys M,ds[i]? = some d→W i ys M→g d e0 M fun e2 M2=>tc e2 M2 fun b M3=>if b=true then te e2 M3 fun v M4=>ys.length<sizeLine∧W (i+1) (ys++[v]) M4 else W (i+1) ys M3
 done:∀ ys M,W ds.length ys M→E ys M
def Bc(e0:Ev)(g:DTG)(tc:O9)(te:DTE)(ds:List D)(stay:Mem→Prop)(M1:Mem)(R:DK):Prop:=∃ W,ox e0 g tc te ds stay M1 (fun ys M=>R (.vl ys) M) W
def uT(n:Nat)(caps:List Nat)(ti:DTI)(g:DTG)(tc:O9)(te:DTE):DTE:=fun e M R=>ti e M fun ds stay M1=>Bc (jj n caps e) g tc te ds stay M1 R
section
variable {X:Cx} {elt tg iter:Expr} {scope:Scope} {tgs cps:List Str} {caps:List Nat} {ti:DTI} {g:DTG} {tc:O9} {te:DTE} {pos:Pos} {ifs:List Expr}
def CWH(K:IT)(H1:Hp)(D0:Addr)(len:Nat)(W:Nat→List D→Mem→Prop)(i m:Nat)(H':Hp):Prop:=m=len - i∧i≤len∧∃ M' ys xs,KT H1 H'∧m7 K H' M'∧H' D0=some (.lst xs)∧M' D0=none∧HasL K H' xs ys∧W i ys M'
theorem pK{K:IT}{H1:Hp}{J:It}{ds:List D}{stay:Mem→Prop}{M1:Mem}{n:Nat}{caps:List Nat}{σ:St}{e:Ev}{E:List D→Mem→Prop}{W:Nat→List D→Mem→Prop}{D0:Addr}{Qd:Hp→Prop}(ok:t9 K H1 σ e)(a1:m7 K H1 M1)(wk:gk K H1 J ds stay)(hD:H1 D0=none)
  (C:ox (jj n caps e) g tc te ds stay M1 E W) (fin:∀ ys M xs H',KT H1 H'→m7 K H' M→H' D0=some (.lst xs)→M D0=none→HasL K H' xs ys→E ys M→Qd H') (i m:Nat) (H2:Hp) (w:CWH K H1 D0 ds.length W i m H2) :
  (J.stop i H2∧Qd H2)∨(J.go i H2∧∀ x H',J.yld i H2 x H'→(∃ p,rJ p (upG K g) x (fY n caps σ) H' fun σ2 H3=>∃ p,rH p (upT K tc) σ2 H3 fun b H3'=>if b=true then ∃ p,rK p (up K te) σ2 H3' fun v H4 =>
   ∃ ys,H4 D0=some (.lst ys)∧ys.length<sizeLine∧∃ m',m'<m∧CWH K H1 D0 ds.length W (i+1) m' (upd H4 D0 (.lst (ys++[v])))else ∃ m',m'<m∧CWH K H1 D0 ds.length W (i+1) m' H3')):=by
 obtain⟨rfl,hi,M2,ys,xs,k2,a2,hx,hM,lx,w2⟩:=w
 have a2':m7 K H2 (j9 M2 D0 (.lst ys)):=fun a o q=>by
  by_cases e:a=D0
  ·subst e;rw[d9]at q;cases q;exact⟨xs,hx,lx⟩
  ·rw[e7 e]at q;exact a2 a o q
 have st:=wk.up _ D0 (.lst ys) (C.stays i ys M2 hi w2) hM
 by_cases hlt:i<ds.length
 ·refine .inr ⟨wk.go i H2 _ hlt k2 a2' st,fun y H' yl=>?_⟩
  obtain⟨d,hd,k3,a3',r⟩:=wk.yld i H2 _ y H' hlt k2 a2' st yl
  obtain⟨xs',hx',lx'⟩:=a3'.lst d9
  have a3:m7 K H' M2:=fun a o q=>by
   have e:a≠D0:=by intro e;subst e;rw[hM]at q;cases q
   exact a3' a o (by rw[e7 e];exact q)
  have kh:KT H' (upd H' D0 (V0 D0 xs')):=KT.any hx'
  have k1h:=(k2.trans k3).trans kh
  have same:∀{H3:Hp},H3 D0=some (V0 D0 xs')→upd (upd H3 D0 (.lst xs')) D0 (V0 D0 xs')=H3:=fun{H3} q=>by
   rw[T6];funext b;by_cases e:b=D0
   ·subst e;rw[j4,q]
   ·rw[i3 e]
  refine⟨D0,xs',hx',d,jj n caps e,M2,_,r.mono kh,yx n caps (ok.mono k1h),a3.at kh.toKT0 hM,C.turn i d ys M2 hd w2,fun e3 M3 h3 σ3 H3 k4 a4 ok3=>?_⟩
  have q3:H3 D0=some (V0 D0 xs'):=k4.ex D0 _ j4
  refine⟨q3,D0,xs',j4,?_⟩
  rw[same q3]
  refine⟨e3,M3,_,ok3,a4,h3,fun b M4 h4 H4 k5 a5=>?_⟩
  have q4:H4 D0=some (V0 D0 xs'):=k5.ex D0 _ q3
  refine⟨q4,?_⟩
  have kk:=k1h.trans (k4.trans k5)
  cases b with
  | false =>
   have h4':W (i+1) ys M4:=h4
   show ∃ m',m'<ds.length - i∧CWH K H1 D0 ds.length W (i+1) m' (upd H4 D0 (.lst xs'))
   exact⟨ds.length - (i+1),by omega,rfl,hlt,M4,ys,xs',kk.new hD,a5.at (KT0.ext q4) (a5.none_ext q4),j4,a5.none_ext q4,(lx'.mono (kh.trans (k4.trans k5))).mono0 (KT0.ext q4),h4'⟩
  | true =>
   show ∃ p,rK p (up K te) σ3 (upd H4 D0 (.lst xs')) _
   refine⟨D0,xs',j4,?_⟩
   rw[same q4]
   refine⟨e3,M4,_,ok3.mono k5,a5,h4,fun dv M5 ⟨hz,w5⟩ vv H5 k6 a6 r6=>?_⟩
   have q5:H5 D0=some (V0 D0 xs'):=k6.ex D0 _ q4
   refine⟨q5,xs',j4,by rw[lx'.length];exact hz,ds.length - (i+1),by omega,rfl,hlt,M5,ys++[dv],xs'++[vv],?_,?_,j4,a6.none_ext q5,?_,w5⟩
   ·rw[T6];exact(kk.trans k6).new hD
   ·rw[T6];exact a6.at (KT0.ext q5) (a6.none_ext q5)
   ·rw[T6];exact((lx'.mono (kh.trans (k4.trans (k5.trans k6)))).mono0 (KT0.ext q5)).append (.cons (r6.mono0 (KT0.ext q5)) .nil)
 ·have e':i=ds.length:=by omega
  subst e'
  exact .inl ⟨wk.stop _ H2 _ (Ja _) k2 a2' st,fin ys M2 xs H2 k2 a2 hx hM lx (C.done ys M2 w2)⟩
theorem O5(caps:List Nat)(tgs cps:List Str)(hc:X.calm=true)(hcell:∀ x∈scope.names,x.2 ≠ .cell)(hkind:scope.kind = .function)(hnames:∀ x∈scope.names,x.2 = .local→scope.names.lookup x.1=some .local)
  (hfr:∀ x∈scope.names,x.2 = .free→x.1∈cps) (hN:caps.map (fun i=>X.N[i]?)=cps.map some) (hX:∀ x∈cps,X.env.scope.names.lookup x=some .cell∧scope.names.lookup x=some .free)
  (hsc:∀ x∈cps,(relabel scope X.env).names.lookup x=some .cell∨(relabel scope X.env).names.lookup x=some .free)
  (hi:JI X tg iter ti) (hg:∀ cl s3 H3 C fp pins,JG (cxF X scope cl (tgs++cps) s3 H3 C fp pins) tg g) (hq:∀ cl s3 H3 C fp pins,DP (cxF X scope cl (tgs++cps) s3 H3 C fp pins) ifs tc) (he:∀ cl s3 H3 C fp pins,JE (cxF X scope cl (tgs++cps) s3 H3 C fp pins) elt te)
  (hs:∀ x,foldedSetIterable iter X.env x=pure x:=by intro _;rfl):JE X (.ListComp elt [⟨tg,iter,ifs,0⟩] scope pos) (uT tgs.length caps ti g tc te):=⟨have hi:=hi.out;have hg:=fun v0 v1 v2 v3 v4 v5=>(hg v0 v1 v2 v3 v4 v5).out;have hq:=fun v0 v1 v2 v3 v4 v5=>(hq v0 v1 v2 v3 v4 v5).out;have he:=fun v0 v1 v2 v3 v4 v5=>(he v0 v1 v2 v3 v4 v5).out;(X4 (tE (tgs:=tgs) (cps:=cps) (caps:=caps) hc hcell hkind hnames hfr hN hX hsc hi (fun cl s3 H3 C fp pins=>xE (hg cl s3 H3 C fp pins)) (fun cl s3 H3 C fp pins=>oV (hq cl s3 H3 C fp pins)) (fun cl s3 H3 C fp pins=>xF (he cl s3 H3 C fp pins)) hs)).imp (by rintro σ H Q ⟨e,M,R,ok,am,t,f⟩;exact⟨e,M,_,ok,am,t,fun ds stay M1 hW H1 k1 a1 J wk=>by
  intro D0 hD
  obtain⟨W,C⟩:=hW
  refine⟨fun i m H'=>CWH X.K H1 D0 ds.length W i m H',⟨ds.length,by simp,Jx _,M1,[],[],KT.alloc hD,a1.alloc hD,j4,a1.fresh hD,.nil,C.start⟩,fun i m H2 w=>pK (Qd:=fun H'=>∃ p xs,V.ref D0 = .ref p∧H' p=some (.lst xs)∧∀ o,Q (.ref D0) (upd H' p (.frz o (.lst xs)))) (ok.mono k1) a1 wk hD C (fun ys M2 xs H' k2 a2 hx hM lx r=>?_) i m H2 w⟩
  exact⟨D0,xs,rfl,hx,fun o=>f _ M2 r _ _ (k1.trans (k2.trans (KT.any hx))) (a2.at (KT.any hx).toKT0 hM) (.vl (.inl ⟨o,j4⟩) (lx.mono (KT.any hx)))⟩⟩)⟩
end
section
variable {X:Cx} {e:Expr} {te:DTE} {p1 p2 pos pos2:Pos}
theorem SqL.upd{K:IT}{H:Hp}{a it:Addr}{xs:List V}{o:HO}(h:SqL K H a xs)(ne:a≠it):SqL K (upd H it o) a xs:=h.elim (fun z=>.inl (by unfold Rd at z ⊢;rw[i3 ne];exact z)) .inr
theorem SqK.upd{K:IT}{k:Bool}{H:Hp}{a it:Addr}{xs:List V}{o:HO}(h:SqK K k H a xs)(ne:a≠it):SqK K k (L2.upd H it o) a xs:=by
 cases k with
 | true=>exact SqL.upd (show SqL K H a xs from h) ne
 | false=>exact(show SqT K H a xs from h).elim (fun z=>.inl (by unfold Rd at z ⊢;rw[i3 ne];exact z)) .inr
def vL(ds:List D)(M:Mem)(Q:List D→(Mem→Prop)→Mem→Prop):Prop:=∃ xs,ds=[.vl xs]∧Q xs.reverse (fun _=>True) M
def uI(ta:DTA):DTI:=fun e M Q=>ta e M fun ds M1=>vL ds M1 Q
theorem oy{K:IT}{H1:Hp}{a:Addr}{xs:List V}{ds:List D}(h:Has K H1 (.ref a) (.vl ds))(lx:HasL K H1 xs ds):gk K H1 (Itb K a xs.length) ds.reverse (fun _=>True) where
 go:=fun i H' M' hi k am _=>by
  rw[JU,← lx.length]at hi
  obtain⟨a',ys,e,sq',l'⟩:=(h.mono k).il
  cases e
  have hy:ys.length=xs.length:=by rw[l'.length,lx.length]
  exact⟨hi,ys,_,sq',Ji (by omega)⟩
 yld:=fun i H' M' x H'' hi k am _ q=>by
  obtain⟨e,y⟩:=q
  subst e
  rw[JU,← lx.length]at hi
  obtain⟨a',ys,e,sq',l'⟩:=(h.mono k).il
  cases e
  obtain⟨d,hd,r⟩:=l'.getV (y ys sq')
  refine⟨d,?_,KT.refl _,am,r⟩
  rw[Lv (by rw[← lx.length];exact hi),← lx.length]
  exact hd
 stop:=fun i H' M' hi k am _=>by
  rw[JU,← lx.length]at hi
  exact hi
 up:=fun _ _ _ _ _=>trivial
theorem tX{tg a:Expr}{ta:DTA}{p pos:Pos}(g1:Gl X "reversed")(m1:X.mg "reversed" = none)(v1:bootBuiltins "reversed" = some (.type "reversed"))(ha:JA X [a] ta)
  (hs:starEach [a] X.env=[(false,eval a X.env)]:=by rfl):JI X tg (.Call (.Name "reversed" p) [a] [] pos) (uI ta):=⟨have ha:=ha.out;PI.imp (xB g1 m1 v1 ha hs) (by
  rintro σ H R ⟨e,M,R',ok,am,t,f⟩
  exact⟨e,M,_,ok,am,t,fun ds M1 z vs H1 k1 a1 r1=>by
   obtain⟨xs,rfl,r⟩:=z
   obtain⟨v,rfl,hv⟩:=r1.one
   obtain⟨a,ws,e1,sq,lx⟩:=hv.il
   subst e1
   exact⟨a,ws,rfl,sq,f _ _ M1 r H1 k1 a1 _ (oy hv lx)⟩⟩)⟩
end
end DL
namespace L2
open PySem PySem.Spec PyProof.Rows
section
variable {X:Cx} {pos:Pos}
end
end L2
namespace DL
open PySem PySem.Spec L2
open PyProof.Rows hiding St
section
variable {X:Cx}
end
section
variable {X:Cx}
end
section
variable {X:Cx} {a b c:Expr} {ta tb tc:DTE} {pos:Pos}
end
structure ju(K:IT)(u:Value)(d:D):Prop where
 ex:∃ v,o8 v u∧DR K v d
inductive m6 (K:IT):List Value→List D→Prop
 | nil:m6 K [] []
 | cons {u:Value} {d:D} {us:List Value} {ds:List D}:ju K u d→m6 K us ds→m6 K (u :: us) (d :: ds)
section
variable {K:IT}
theorem p5{x:Str}{t:Tok}:ju K (.str x t) (.str x):=⟨.str x,⟨t,rfl⟩,fun _=>.str x⟩
theorem m6.out:∀{us:List Value} {ds:List D},m6 K us ds→∃ vs,i9 vs us∧∀ H,HasL K H vs ds
 | _,_,.nil=>⟨[],.nil,fun _=>.nil⟩
 | _,_,.cons h t=>by
  obtain⟨v,r,k⟩:=h.ex
  obtain⟨vs,rs,ks⟩:=m6.out t
  exact⟨v :: vs,.cons r rs,fun H=>.cons (k H) (ks H)⟩
theorem z7{a:Addr}{od:Option Addr}{osl:Array (Option Value)}{us:List Value}{ds:List D}{cap:Nat}(l:K.lookup a=some ⟨.type "tuple",od,.seq us.toArray cap,osl⟩)(n:decide (us.length≤1000)=true)(h:m6 K us ds):ju K (.ref a) (.tup ds):=by
 obtain⟨vs,r,k⟩:=h.out
 have hn:vs.length≤sizeLine:=Jk (by rw[r.length];exact of_decide_eq_true n) (show 1000≤sizeLine by decide)
 exact⟨.ref a,rfl,fun H=>.tup (xs:=vs) (.inr ⟨_,_,_,l,rfl,rfl,Jk (of_decide_eq_true n) (show 1000≤sizeLine by decide),r⟩) (k H)⟩
theorem Y4{mg:Str→Option Value}{h:Heap}{x:Str}{u:Value}{d:D}(X:K.In h)(G:h.Ns mainGlobals mg)(n:PySem.W.nsIn K mainGlobals x=some (some u))(c:ju K u d):GlD K mg x d:=by
 obtain⟨v,r,k⟩:=c.ex
 exact⟨v,u,PySem.W.mg_of X G n,r,k⟩
end
section
variable {X:Cx} {x:Expr} {t:DTE}
end
theorem X7{P:Program}{w:World}{H:Hp}{h:Heap}{a:Addr}{o:HO}(x:A1 P w H h a o):∃ u,h.get? a=some u:=by
 cases o with
 | lst _=>obtain⟨_,_,_,_,e⟩:=x;exact⟨_,e⟩
 | tup _=>obtain⟨_,_,_,o,e,_⟩:=x;exact⟨_,e⟩
 | dK _=>obtain⟨_,_,_,_,o,_,_,e,_⟩:=x;exact⟨_,e⟩
 | dT _=>obtain⟨_,_,_,_,o,_,_,e,_⟩:=x;exact⟨_,e⟩
 | set _ _=>obtain⟨o,_,_,_,e,_⟩:=x;exact⟨_,e⟩
 | ins _ _ _=>obtain⟨_,_,_,e,_⟩:=x;exact⟨_,e⟩
 | own _=>exact x
 | xd _=>obtain⟨_,⟨_,_,_,e,_⟩,_⟩:=x;exact⟨_,e⟩
 | rng _ _=>obtain⟨_,_,_,e⟩:=x;exact⟨_,e⟩
 | frz _ _=>exact⟨_,x.1⟩
 | tbl _=>exact⟨_,show h.get? a=some _ from x⟩
 | met _ _=>exact⟨_,show h.get? a=some _ from x⟩
 | ext _=>exact x.2.1
noncomputable def nr(X:Cx):St:=Jo X.N.length none
theorem uj{X:Cx}{pins:List (Addr × Obj)}{σ:St}{H:Hp}{s:Shared}(I:Inv X pins σ H s):Inv X [] (nr X) H s:=by
 refine(I.pins_of (pins':=[]) fun p hp=>by cases hp).weak (by rw[nr,Kk];exact I.len.symm) fun i v h=>?_
 rw[nr,JM]at h
 split at h
 ·exact absurd (Option.some.inj h) (by intro z;cases z)
 ·cases h
def Cov(B s0:Heap)(H':Hp)(fs:List Addr)(h:Heap):Prop:=∀ b o,h.get? b=some o→((∃ u,H' b=some u) ∨ ∃ o0,s0.get? b=some o0)→b∉fs→B.get? b=some o
def CXr(P:Program)(w:World)(base:Heap):CXT:=fun outer H s E e s'=>∃ a cls a0 H' B,e = .ref a∧s'.os=s.os∧AllBare s'.gens∧Un (frs outer) [] H H' s.heap s'.heap∧HOk P w H' s'.heap∧KT H H' ∧
 base.StaysIn B∧Cov B s.heap H' (frs outer) s'.heap∧Heap.FlyingW B outer a cls a0 s'.heap∧E cls none H'
def Air(B:Heap)(l:List Env)(a:Addr)(cls a0:Value)(h:Heap):Prop:=Heap.FlyingW B l a cls a0 h ∨ ∃ env l' L,l=env :: l'∧env.frame=some L∧Heap.HeldW B l a cls a0 L h
section
variable {M:Model} {A:Around} {E:Value→Shared→Prop} {s:Shared} {B:Heap} {l outer:List Env} {env:Env} {L a:Addr} {cls a0:Value} {Q:Unit→Shared→Prop}
theorem Air.frames{h:Heap}(x:Air B l a cls a0 h):h.FunFrames B l:=by
 rcases x with x|⟨_,_,_,_,_,x⟩
 ·exact x.2.2.1
 ·exact x.2.2.1
theorem Air.base{h:Heap}(x:Air B l a cls a0 h):B.StaysIn h∧B.get? a=none:=by
 rcases x with x|⟨_,_,_,_,_,x⟩
 ·exact⟨x.1,x.2.1⟩
 ·exact⟨x.1,x.2.1⟩
theorem Air.data{h:Heap}(x:Air B l a cls a0 h):∃ oe vs,h.get? a=some oe∧oe.data = .fields vs:=by
 rcases x with⟨_,_,_,oe,vs,_,_,_,h1,_,h2,_⟩|⟨_,_,_,_,_,_,_,_,oe,vs,_,_,_,h1,_,h2,_⟩<;>exact⟨oe,vs,h1,h2⟩
theorem Air.leaves(hfr:A.frames=some (env :: outer))(hf:env.frame=some L)(x:Air B (env :: outer) a cls a0 s.heap)
  (hQ:∀ h',Heap.FlyingW B outer a cls a0 h'→s.heap.UpToSlots h'→Q () { s with heap:=h' }):wpAny M A (leaving env (.ref a)) Q E s:=by
 rcases x with x|⟨_,_,_,e1,e2,x⟩
 ·exact wpAny_leaves_onW hfr hf x hQ
 ·injection e1 with e1 e3
  subst e1 e3
  obtain rfl:=Option.some.inj (hf.symm.trans e2)
  unfold leaving
  refine IU (wpAny_noteFrame_againW hf x.2.2.2 ?_)
  refine wpAny_landsW x fun h' hfl hu=>?_
  obtain⟨k1,k2,⟨_,_,k3⟩,k4⟩:=hfl
  exact hQ h' ⟨k1,k2,k3,k4⟩ hu
theorem eB(h:Heap):h.UpToSlots h:=fun b o hb _=>⟨o.slots,hb⟩
theorem Air.looks(hfr:A.frames=some (env :: outer))(hf:env.frame=some L)(x:Air B (env :: outer) a cls a0 s.heap)
  (hQ:∀ h',Heap.HeldW B (env :: outer) a cls a0 L h'→s.heap.UpToSlots h'→Q () { s with heap:=h' }):wpAny M A (noteFrame (.ref a) env) Q E s:=by
 rcases x with x|⟨_,_,_,e1,e2,x⟩
 ·exact wpAny_looks_onW hfr hf x hQ
 ·injection e1 with e1 e3
  subst e1 e3
  obtain rfl:=Option.some.inj (hf.symm.trans e2)
  exact wpAny_noteFrame_againW hf x.2.2.2 (hQ s.heap x (eB _))
end
noncomputable def XP(X:Cx)(mk:Bool)(EX:Value→Hp→Prop):Value→Shared→Prop:=fun e s' =>
 (mk=true∧∃ a cls h vs H',e = .ref a∧EX cls H'∧Heap.MadeExcOf h s'.heap a cls vs∧Inv X [] (nr X) H' { s' with heap:=h }) ∨
 (∃ pins σ Hc sc a cls a0 H' B,Inv X pins σ Hc sc∧e = .ref a∧s'.os=sc.os∧AllBare s'.gens∧Un (frs X.stack) [] Hc H' sc.heap s'.heap∧HOk X.prog X.w H' s'.heap ∧
  X.base.StaysIn B∧Cov B sc.heap H' (frs X.stack) s'.heap∧Air B X.stack a cls a0 s'.heap∧EX cls H')
theorem iu{X:Cx}{mk:Bool}{EX:Value→Hp→Prop}:O8 (CXr X.prog X.w X.base) (X.wish (XP X mk EX)) (fun cls _ H'=>EX cls H'):=fun pins σ H s e s' I h=>by
 obtain⟨a,cls,a0,H',B,rfl,ho,hg,un,hok,_,hB,cov,fl,hE⟩:=h
 exact .inr ⟨pins,σ,H,s,a,cls,a0,H',B,I.unwish,rfl,ho,hg,un,hok,hB,cov,.inl fl,hE⟩
section
variable {P:Program} {w:World} {K:IT} {mg:Str→Option Value} {base:Heap} {N:List Str} {qual:Str} {scope:Scope} {f:Addr} {cd:Value} {A:Around} {outer:List Env} {s:Shared} {H:Hp} {E:XK}
theorem uy{env:Env}{L:Addr}{outer:List Env}(hf:env.frame=some L):frs (env :: outer)=L :: frs outer:=by unfold frs;rw[Kq,hf]
theorem ny{EX:Value→Hp→Prop}(hEX:∀ cls H',EX cls H'→KT H H'∧E cls none H'){e:Value}{s':Shared}
  (h:XP (D1 (CXr P w base) P w K mg base N qual scope f cd A outer s H E) true EX e s'):(D1 (CXr P w base) P w K mg base N qual scope f cd A outer s H E).xe e s':=by
 have hfc:frs (D1 (CXr P w base) P w K mg base N qual scope f cd A outer s H E).stack=s.heap.objs.size :: frs outer:=uy rfl
 have noL:s.heap.get? s.heap.objs.size=none:=LA (Ja _)
 show wpAny (model P w) (A.deeper (envOfC qual scope s.heap.objs.size f cd)) (leaving (envOfC qual scope s.heap.objs.size f cd) e) (fun _ s''=>CXr P w base outer H s E e s'') (fun e' s''=>CXr P w base outer H s E e' s'') s'
 rcases h with⟨_,a,cls,h,vs,H',rfl,hE,mx,I⟩|⟨pins,σ,Hc,sc,a,cls,a0,H',B,I,rfl,ho,hg,un,hok,hB,cov,fl,hE⟩
 ·obtain⟨k0,eE⟩:=hEX cls H' hE
  have hst:=I.stack
  have fre:=I.stkFree
  have hfr:=I.ok.frames
  have inL:∀ b,b∉frs outer→b≠s.heap.objs.size→b∉frs (D1 (CXr P w base) P w K mg base N qual scope f cd A outer s H E).stack:=fun b n1 n2 hm=>by
   rw[hfc]at hm
   rcases Jj.mp hm with z|z
   ·exact n2 z
   ·exact n1 z
  have inO:∀ b,b∈frs outer→b∈frs (D1 (CXr P w base) P w K mg base N qual scope f cd A outer s H E).stack:=fun b hb=>by rw[hfc];exact Jc _ hb
  refine wpAny_leaves_madeW (base:=PySem.W.hideAll h (frs (D1 (CXr P w base) P w K mg base N qual scope f cd A outer s H E).stack)) (h:=h) (L:=s.heap.objs.size) (outer:=outer) hfr rfl (fun b o q=>PySem.W.of_hideAll _ q)
   (PySem.W.funFrames_hide hst fun env he b hb=>KQ.mpr ⟨env,he,hb⟩) mx fun h'' t fl _ _ ups=>?_
  have keepB:∀ b o,h.get? b=some o→b∉frs (D1 (CXr P w base) P w K mg base N qual scope f cd A outer s H E).stack→h''.get? b=some o:=fun b o q nm=>fl.1 b o (PySem.W.hideAll_get _ q nm)
  have slotB:∀ b o,h.get? b=some o→b∈frs (D1 (CXr P w base) P w K mg base N qual scope f cd A outer s H E).stack→∃ sl,h''.get? b=some { o with slots:=sl }:=fun b o q hm=>by
   obtain⟨_,o',ho',hnf⟩:=hst.mem hm
   have e:o=o':=Option.some.inj (q.symm.trans ho')
   subst e
   exact ups b o (mx.keeps b o q) hnf
  have trk:∀ b u,H' b=some u→b∉frs (D1 (CXr P w base) P w K mg base N qual scope f cd A outer s H E).stack:=fun b u q hm=>by rw[fre b hm]at q;cases q
  refine⟨a,cls,.ref t,H',_,rfl,I.os,I.bare,⟨fun b o q n hb _=>?_,fun b o q n hb _=>?_,fun b o q n hx=>I.base.free b o q n hx,fun b o q hx=>?_,I.base.tups,I.base.frzs,I.base.tbls⟩,fun b u q=>?_,k0,fun b o q=>?_,fun b o e1 e2 nb=>?_,fl,eE⟩
  ·have z:=I.base.keep b o q n hb (by intro hz;cases hz)
   exact keepB b o z (inL b hb (Jr (Jb q)))
  ·obtain⟨sl,z⟩:=I.base.slot b o q n hb (by intro hz;cases hz)
   obtain⟨sl2,z2⟩:=slotB b _ z (inO b hb)
   exact⟨sl2,z2⟩
  ·obtain⟨o1,z⟩:=I.base.there b o q hx
   by_cases hm:b∈frs (D1 (CXr P w base) P w K mg base N qual scope f cd A outer s H E).stack
   ·obtain⟨sl,z2⟩:=slotB b _ z hm;exact⟨_,z2⟩
   ·exact⟨_,keepB b _ z hm⟩
  ·refine(I.hok b u q).stay (fun c v hc q2=>keepB c v q2 ?_) (fun _ q=>q) fun _ _ q=>q
   rcases hc with rfl|hc
   ·exact trk c u q
   ·exact trk c _ hc
  ·exact PySem.W.hideAll_get _ (I.bk b o q) fun hm=>by
    have z:base.get? b=none:=(hst.mem hm).1
    rw[z]at q;cases q
  ·have nL:b≠s.heap.objs.size:=fun z=>by
    subst z
    rcases e2 with⟨u,e2⟩|⟨o0,e2⟩
    ·exact absurd (by rw[hfc];exact IZ) (trk _ u e2)
    ·rw[noL]at e2;cases e2
   have nm:=inL b nb nL
   obtain⟨o1,z⟩:∃ o1,h.get? b=some o1:=by
    rcases e2 with⟨u,e2⟩|⟨o0,e2⟩
    ·exact X7 (I.hok b u e2)
    ·exact I.base.there b o0 e2 (by intro hz;cases hz)
   have e3:=keepB b o1 z nm
   rw[e1]at e3
   cases e3
   exact PySem.W.hideAll_get _ z nm
 ·obtain⟨k0,eE⟩:=hEX cls H' hE
  have hfr:=I.ok.frames
  have fre:∀ b∈frs (D1 (CXr P w base) P w K mg base N qual scope f cd A outer s H E).stack,H' b=none:=fun b hb=>by
   obtain⟨_,o,hob,_⟩:=I.stack.mem hb
   exact un.free b o hob (I.stkFree b hb) (by simp)
  have inL:∀ b,b∉frs outer→b≠s.heap.objs.size→b∉frs (D1 (CXr P w base) P w K mg base N qual scope f cd A outer s H E).stack:=fun b n1 n2 hm=>by
   rw[hfc]at hm
   rcases Jj.mp hm with z|z
   ·exact n2 z
   ·exact n1 z
  have inO:∀ b,b∈frs outer→b∈frs (D1 (CXr P w base) P w K mg base N qual scope f cd A outer s H E).stack:=fun b hb=>by rw[hfc];exact Jc _ hb
  refine Air.leaves (L:=s.heap.objs.size) (outer:=outer) hfr rfl fl fun h'' fl2 ups=>?_
  have pre:∀ b o,s.heap.get? b=some o→∃ o1,sc.heap.get? b=some o1:=fun b o q=>I.base.there b o q (by intro hz;cases hz)
  have keepB:∀ b o,s'.heap.get? b=some o→((∃ u,H' b=some u) ∨ ∃ o0,sc.heap.get? b=some o0)→b∉frs (D1 (CXr P w base) P w K mg base N qual scope f cd A outer s H E).stack→h''.get? b=some o:=fun b o q c nm=>fl2.1 b o (cov b o q c nm)
  have slotB:∀ b o,s'.heap.get? b=some o→b∈frs (D1 (CXr P w base) P w K mg base N qual scope f cd A outer s H E).stack→∃ sl,h''.get? b=some { o with slots:=sl }:=fun b o q hm=>by
   obtain⟨_,o',ho',hnf⟩:=fl.frames.mem hm
   have e:o=o':=Option.some.inj (q.symm.trans ho')
   subst e
   exact ups b o q hnf
  have trk:∀ b u,H' b=some u→b∉frs (D1 (CXr P w base) P w K mg base N qual scope f cd A outer s H E).stack:=fun b u q hm=>by rw[fre b hm]at q;cases q
  refine⟨a,cls,a0,H',B,rfl,ho.trans I.os,hg,⟨fun b o q n hb _=>?_,fun b o q n hb _=>?_,fun b o q n hx=>?_,fun b o q hx=>?_,fun b xs q=>un.tups b xs (I.base.tups b xs q),fun b o u q=>un.frzs b o u (I.base.frzs b o u q),fun b ps q=>?_⟩,fun b u q=>?_,k0,hB,fun b o e1 e2 nb=>?_,fl2,eE⟩
  ·have z:=I.base.keep b o q n hb (by intro hz;cases hz)
   have nm:=inL b hb (Jr (Jb q))
   have z2:=un.keep b o z (I.base.free b o q n (by intro hz;cases hz)) nm (by simp)
   exact keepB b o z2 (.inr ⟨o,z⟩) nm
  ·obtain⟨sl,z⟩:=I.base.slot b o q n hb (by intro hz;cases hz)
   obtain⟨sl2,z2⟩:=un.slot b _ z (I.base.free b o q n (by intro hz;cases hz)) (inO b hb) (by simp)
   obtain⟨sl3,z3⟩:=slotB b _ z2 (inO b hb)
   exact⟨sl3,z3⟩
  ·obtain⟨o1,z⟩:=pre b o q
   exact un.free b o1 z (I.base.free b o q n (by intro hz;cases hz)) (by simp)
  ·obtain⟨o1,z⟩:=pre b o q
   obtain⟨o2,z2⟩:=un.there b o1 z (by simp)
   by_cases hm:b∈frs (D1 (CXr P w base) P w K mg base N qual scope f cd A outer s H E).stack
   ·obtain⟨sl,z3⟩:=slotB b _ z2 hm;exact⟨_,z3⟩
   ·exact⟨_,keepB b _ z2 (.inr ⟨o1,z⟩) hm⟩
  ·obtain⟨m1,z1⟩:=I.base.tbls b ps q
   obtain⟨m2,z2⟩:=un.tbls b _ z1
   exact⟨m1++m2,by rw[z2,Array.append_assoc]⟩
  ·refine(hok b u q).stay (fun c v hc q2=>?_) (fun _ q=>q) fun _ _ q=>q
   rcases hc with rfl|hc
   ·exact keepB c v q2 (.inl ⟨u,q⟩) (trk c u q)
   ·exact keepB c v q2 (.inl ⟨_,hc⟩) (trk c _ hc)
  ·have nL:b≠s.heap.objs.size:=fun z=>by
    subst z
    rcases e2 with⟨u,e2⟩|⟨o0,e2⟩
    ·exact absurd (by rw[hfc];exact IZ) (trk _ u e2)
    ·rw[noL]at e2;cases e2
   have nm:=inL b nb nL
   have c2:(∃ u,H' b=some u) ∨ ∃ o0,sc.heap.get? b=some o0:=e2.imp id fun⟨o0,z⟩=>pre b o0 z
   obtain⟨o1,z⟩:∃ o1,s'.heap.get? b=some o1:=by
    rcases c2 with⟨u,c2⟩|⟨o0,c2⟩
    ·exact X7 (hok b u c2)
    ·exact un.there b o0 c2 (by simp)
   have e3:=keepB b o1 z c2 nm
   rw[e1]at e3
   cases e3
   exact cov b o z c2 nm
end
noncomputable def xN(x:Str):Value:=.str x 0
noncomputable def gp(X:Cx)(H₀:Hp)(Y:DXK):Value→Hp→Prop:=fun c H'=>KT H₀ H'∧∃(x:Str) (C:Addr) (M':Mem),c = .ref C∧X.mg x=some (.ref C)∧m7 X.K H' M'∧Y (xN x) M'
noncomputable abbrev Cx.ex'(X:Cx)(mk:Bool)(H₀:Hp)(Y:DXK):Cx:=X.wish (XP X mk (gp X H₀ Y))
def xf(K:IT)(H₀:Hp)(t:DTS):TS:=fun E σ H=>KT H₀ H∧upS K t E σ H
structure JX(X:Cx)(mk:Bool)(H₀:Hp)(Y:DXK)(st:Stmt)(t:DTS):Prop where
 out:PS (Cx.ex' X mk H₀ Y) st (xf X.K H₀ t)
structure JXs(X:Cx)(mk:Bool)(H₀:Hp)(Y:DXK)(st:List Stmt)(t:DTS):Prop where
 out:PSs (Cx.ex' X mk H₀ Y) st (xf X.K H₀ t)
section
variable {X:Cx} {mk:Bool} {H₀:Hp} {Y:DXK} {st:Stmt} {B0:List Stmt} {t u:DTS} {pos:Pos}
theorem yP{pins:List (Addr × Obj)}{D:T4}{E:Value→Shared→Prop}{s':Shared}:∀{f:Flow},SP X pins D f s'→SP (X.wish E) pins D f s'
 | .next,⟨σ',H',I,q⟩=>⟨σ',H',I.wish _,q⟩
 | .brk,⟨σ',H',I,q⟩=>⟨σ',H',I.wish _,q⟩
 | .cont,⟨σ',H',I,q⟩=>⟨σ',H',I.wish _,q⟩
 | .ret _,⟨v,σ',H',I,r,q⟩=>⟨v,σ',H',I.wish _,r,q⟩
theorem wZ{E:Value→Shared→Prop}{t:TS}(h:PS X.nox st t):PS (X.wish E) st t:=fun pins s σ H D I hw =>
 wpAny_mono (h pins s σ H D (I.unwish.wish _) hw) (fun _ _ q=>yP q.unwish) fun _ _ z=>False.elim z
theorem mH{E:Value→Shared→Prop}{e:Expr}{t:TT}(h:PT X.nox e t):PT (X.wish E) e t:=fun pins s σ H Q I hw =>
 wpAny_mono (h pins s σ H Q (I.unwish.wish _) hw) (fun _ _ ⟨H',I',q⟩=>⟨H',I'.unwish.wish _,q⟩) fun _ _ z=>False.elim z
theorem mI{E:Value→Shared→Prop}{es:List Expr}{t:TA}(h:PA X.nox es t):PA (X.wish E) es t:=fun pos pins s σ H Q I hw =>
 wpAny_mono (h pos pins s σ H Q (I.unwish.wish _) hw) (fun _ _ ⟨v,H',I',r,q⟩=>⟨v,H',I'.unwish.wish _,r,q⟩) fun _ _ z=>False.elim z
theorem p8(h:JS X.nox st t):JX X mk H₀ Y st t:=⟨PS.imp (wZ h.out) fun _ _ _ q=>q.2⟩
theorem A6:JXs X mk H₀ Y [] uN:=⟨PSs.imp ng fun E σ H ⟨k,e,M,F,ok,am,t,f⟩=>f.nx e M t σ H (KT.refl H) am ok⟩
theorem q9(h:JX X mk H₀ Y st t):JXs X mk H₀ Y [st] t:=⟨nc h.out⟩
theorem j0(h1:JX X mk H₀ Y st t)(h2:JXs X mk H₀ Y B0 u):JXs X mk H₀ Y (st :: B0) (Dv t u) :=
 ⟨PSs.imp (cc h1.out h2.out) fun E σ H ⟨k,e,M,F,ok,am,tt,f⟩=>⟨k,e,M,_,ok,am,tt,⟨fun e' M' h σ' H' kt a o=>⟨k.trans kt,e',M',F,o,a,h,f.mono kt⟩,f.rt,f.bk,f.ct⟩⟩⟩
theorem G4{c:Expr}{a b:List Stmt}{tc:DTT}(hc:JT X.nox c tc)(ha:JXs X mk H₀ Y a t)(hb:JXs X mk H₀ Y b u):JX X mk H₀ Y (.If c a b pos) (Dy tc t u) :=
 ⟨PS.imp (Ah (mH hc.out) ha.out hb.out) fun E σ H ⟨k,e,M,F,ok,am,tt,f⟩=>⟨e,M,_,ok,am,tt,fun bb M1 h1 H1 k1 a1=>by
  cases bb with
  | true=>exact⟨k.trans k1,e,M1,F,ok.mono k1,a1,h1,f.mono k1⟩
  | false=>exact⟨k.trans k1,e,M1,F,ok.mono k1,a1,h1,f.mono k1⟩⟩⟩
end
def Hk(K:IT)(mg:Str→Option Value)(H:Hp)(Y:DXK)(E:XK):Prop:=∀(x:Str) (C:Addr) (M':Mem),mg x=some (.ref C)→Y (xN x) M'→∀ H',KT H H'→m7 K H' M'→E (.ref C) none H'
noncomputable def Ab(K:IT)(mg:Str→Option Value)(sp:DSp):Sp:=fun vs H Q E=>∃ ds M R Y,HasL K H vs ds∧m7 K H M∧sp ds M R Y∧Z2 K H R Q∧Hk K mg H Y E
structure FnX(P:Program)(w:World)(K:IT)(mg:Str→Option Value)(base:Heap)(x:Str)(k:Nat)(ps:List Str)(sp:DSp):Prop where
 ex:∃(f:Addr) (fd:FuncData),E8 P w K mg base (CXr P w base) k f fd ps (Ab K mg sp)∧mg x=some (.ref f)∧PySem.W.keepIn K (.ref f)=true∧G3 K fd ps []
section
variable {P:Program} {w:World} {K:IT} {mg:Str→Option Value} {base:Heap}
theorem S5{x:Str}{st:Stmt}{N ps:List Str}{k:Nat}{sp:DSp}(d:Df K mg x st ps)(S:i4 N ps (e5 st))(len:∀ ds M R Y,sp ds M R Y→ds.length=ps.length)
  (hbody:∀(f:Addr) (cdv:Value) (A:Around) (outer:List Env) (s:Shared) (H:Hp) (E:XK) (ds:List D) (M:Mem) (R:DK) (Y:DXK),z4 k (A.deeper (envOfC x (e5 st) s.heap.objs.size f cdv))→sp ds M R Y →
   ∃ t,JXs (D1 (CXr P w base) P w K mg base N x (e5 st) f cdv A outer s H E) true H Y (A4 st) t∧t { nx:=fun _ M'=>R .non M',rt:=R } (C9 N ds) M):FnX P w K mg base x (k+1) ps sp:=by
 obtain⟨f,fd,F,hm,hb⟩:=d.ex
 refine⟨f,fd,?_,hm,F.kp,hb⟩
 obtain⟨oc,od,dV,kV,doc,pm,an,cdv,ct,osl,rfl,lk,hcd⟩:=F.ex
 refine nG lk hcd S (fun vs H Q E ⟨ds,M,R,Y,hl,_,hs,_,_⟩=>by rw[hl.length];exact len ds M R Y hs) fun A outer s H vs Q E hr ⟨ds,M,R,Y,hl,am,hs,fv,fx⟩=>?_
 obtain⟨t,h1,h2⟩:=hbody f cdv A outer s H E ds M R Y hr hs
 refine⟨xf K H t,fun pins s1 σ H1 D I hw=>?_,KT.refl H,C9 N ds,M,_,t9.start0 hl,am,h2,⟨?_,fv,fun _ _ h=>h.elim,fun _ _ h=>h.elim⟩⟩
 ·refine wpAny_mono (h1.out pins s1 σ H1 D (I.wish _) hw) (fun _ _ q=>q.unwish) fun e s2 hx=>ny (fun cls H' ⟨k1,x',C,M',e1,e2,e3,e4⟩=>⟨k1,by rw[e1];exact fx x' C M' e2 e4 H' k1 e3⟩) hx
 ·exact fun e M' h σ' H' kt a o=>fv .non M' h .non H' kt a .non
theorem FnX.fn{x:Str}{k:Nat}{ps:List Str}{sp sp':DSp}(G:FnX P w K mg base x k ps sp)(h:∀ ds M R Y,sp' ds M R Y→sp ds M R fun _ _=>False):Fn P w K mg base x k ps sp':=by
 obtain⟨f,fd,F,h1,h2,h3⟩:=G.ex
 refine⟨f,fd,⟨fun vs H Q E ⟨ds,M,R,Y,hl,am,hs,fv,_⟩=>F.len vs H Q (fun _ _ _=>False) ⟨ds,M,R,_,hl,am,h ds M R Y hs,fv,fun _ _ _ _ z=>z.elim⟩,fun A outer s H args us vs Q E hr he hb hv ⟨ds,M,R,Y,hl,am,hs,fv,_⟩=>?_⟩,h1,h2,h3⟩
 refine codeAny_mono (F.run A outer s H args us vs Q (fun _ _ _=>False) hr he hb hv ⟨ds,M,R,_,hl,am,h ds M R Y hs,fv,fun _ _ _ _ z=>z.elim⟩) fun r s' q=>?_
 cases r with
 | error e=>obtain⟨_,_,_,_,_,_,_,_,_,_,_,_,_,_,z⟩:=q;exact z.elim
 | ok fl=>cases fl<;>exact q
end
section
variable {X:Cx} {mk:Bool} {H₀:Hp} {Y:DXK} {pos cpos:Pos} {x:Str} {j:Nat} {ps:List Str} {sp:DSp} {p:Pos} {e:Expr} {es:List Expr} {t:DTA}
def uU(sp:DSp)(Y:DXK)(t:DTA):DTE:=fun e M R=>t e M fun ds M1=>sp (ds++[]) M1 R Y
structure JXE(X:Cx)(mk:Bool)(H₀:Hp)(Y:DXK)(e:Expr)(t:DTE):Prop where
 out:PE (Cx.ex' X mk H₀ Y) e (fun σ H Q=>KT H₀ H∧up X.K t σ H Q)
theorem K1(G:FnX X.prog X.w X.K X.mg X.base x j ps sp)(hr:z4 j X.A)(hg:Gl X x)(ha:JA X.nox (e :: es) t)
  (hdb:(x == ("__debug__" : Str))=false:=by decide) (he:starEach (e :: es) X.env=(false,eval e X.env) :: starEach es X.env:=by rfl) (hpl:(backTo cpos (starEach es X.env)).any (·.1)=false:=by rfl) :
  JXE X mk H₀ Y (.Call (.Name x p) (e :: es) [] cpos) (uU sp Y t):=by
 obtain⟨f,fd,F,hm,hk,hb⟩:=G.ex
 refine⟨PE.imp (ni (X:=Cx.ex' X mk H₀ Y) (ds:=[]) (dvs:=[]) F hr hg hm hk hb .nil iu (mI ha.out) hdb he hpl) fun σ H Q ⟨k,e',M,R,ok,am,tt,ff⟩=>?_⟩
 refine⟨e',M,_,ok,am,tt,fun ds M1 h1 vs H1 k1 a1 r1=>⟨ds++[],M1,R,Y,r1.append .nil,a1,h1,ff.mono k1,fun y C M' hy z H' kt a=>⟨(k.trans k1).trans kt,y,C,M',rfl,hy,a,z⟩⟩⟩
theorem mG{te:DTE}(h:JXE X mk H₀ Y e te):JX X mk H₀ Y (.Return (some e) pos) (Dw te) :=
 ⟨PS.imp (sZ h.out) fun E σ H ⟨k,e',M,F,ok,am,tt,f⟩=>⟨k,e',M,_,ok,am,tt,f.rt⟩⟩
end
section
variable {X:Cx} {mk:Bool} {H₀:Hp} {Y:DXK} {pos:Pos} {e:Expr} {te:DTE}
theorem mF{i:Nat}{y:Str}{pos':Pos}(hN:X.N.Nodup)(hi:X.N[i]? = some y)(hx:Loc X.env.scope y)(h:JXE X mk H₀ Y e te)(hs:swapsWith e (some (.Name y pos')) pos.line X.env=pure false:=by rfl)(hf:X.fn y=true∨X.env.scope.names.lookup y=some .local:=by first|exact .inl rfl|exact .inr rfl|assumption) :
  JX X mk H₀ Y (.Assign [.Name y pos'] e pos) (uV te (Y7 i)) :=
 ⟨PS.imp (sY (X:=Cx.ex' X mk H₀ Y) hN hi hx h.out hs hf) fun E σ H ⟨k,e',M,F,ok,am,tt,f⟩=>⟨k,e',M,_,ok,am,tt,fun d M1 h1 v H1 k1 a1 r1=>f.nx _ M1 h1 _ H1 k1 a1 ((ok.mono k1).set r1 i)⟩⟩
end
section
variable {X:Cx} {mk:Bool} {EX:Value→Hp→Prop}
end
section
variable {X:Cx} {mk:Bool} {H₀:Hp} {Y:DXK} {pos:Pos} {c:Expr} {body:List Stmt} {tc:DTT} {tb:DTS}
end
noncomputable def bmV:List Value:=[.type "ValueError",.type "Exception",.type "BaseException",.type "object"]
structure ExD(K:IT)(mg:Str→Option Value)(x:Str):Prop where
 ex:∃ C,mg x=some (.ref C)∧PySem.W.excIn K C bmV "ValueError.__new__" = true
theorem cF{K:IT}{mg:Str→Option Value}{h:Heap}{x:Str}{C:Addr}(X:K.In h)(G:h.Ns mainGlobals mg)(n:PySem.W.nsIn K mainGlobals x=some (some (.ref C)))(q:PySem.W.excIn K C [.type "ValueError",.type "Exception",.type "BaseException",.type "object"] "ValueError.__new__" = true):ExD K mg x :=
 ⟨C,PySem.W.mg_of X G n,q⟩
theorem yw{K:IT}{h:Heap}{C:Addr}{bmB:List Value}{newId:String}(X:K.In h)(q:PySem.W.excIn K C bmB newId=true) :
  ∃ bm N nm qn bs hdct sn sub ab col dd k0 k1 k2 k3 k5 mN,h.get? C=some (excClassObj nm qn C N bs bm hdct sn sub ab col dd k0 k1 k2 k3 k5 newId)∧h.Ns N mN∧mN "__init__" = none∧OwnTail h bmB bm:=by
 unfold PySem.W.excIn at q
 cases lk:K.lookup C with
 | none=>rw[lk]at q;cases q
 | some ob =>
  obtain⟨oc,od,dt,sl⟩:=ob
  rw[lk]at q
  cases dt with
  | cls cd =>
   cases oc with
   | type tn =>
    by_cases ht:tn = "type"
    ·subst ht
     simp only at q
     split at q
     ·rename_i C' bm k0 k1 k2 k3 n k5 hm hs
      simp only[JH,beq_iff_eq,Lb]at q
      obtain⟨⟨⟨⟨⟨q1,q2⟩,q3⟩,q4⟩,q5⟩,q6⟩:=q
      subst q1
      subst q2
      obtain⟨nm,bs,mro,ns,qn,hd,sn,sub,ab,col,del⟩:=cd
      dsimp only at hm q3 q5 q6
      subst hm
      subst q3
      have es:sl = #[k0,k1,k2,k3,some (.builtin n),k5]:=by
       cases sl with
       | mk l=>exact congrArg Array.mk hs
      subst es
      exact⟨bm,ns,nm,qn,bs,hd,sn,sub,ab,col,od,k0,k1,k2,k3,k5,_,X _ _ lk,.of_isNs (PySem.W.isNs_of_in X q5),PySem.W.nsMap_none_of_in X q5 q6,PySem.W.tail_of_in X q4⟩
     ·cases q
    ·exfalso
     revert q
     split
     ·rename_i e;cases e;exact absurd rfl ht
     ·intro z;cases z
   | _=>exfalso;simp at q
  | _=>exfalso;revert q;split<;>(intro z;first|cases z|(rename_i e;cases e))
section
variable {X:Cx} {H₀:Hp} {Y:DXK} {pos cpos np:Pos} {x:Str} {e₀:Expr} {te:DTE}
def uM(x:Str)(Y:DXK)(te:DTE):DTS:=fun _ e M=>te e M fun _ M1=>Y (xN x) M1
theorem v8(G:ExD X.K X.mg x)(hc:X.calm=true)(hg:Gl X x)(h0:JE X.nox e₀ te)(hdb:(x == ("__debug__" : Str))=false:=by decide)
  (he:starEach [e₀] X.env=(false,eval e₀ X.env) :: starEach [] X.env:=by rfl) (hp:(backTo cpos (starEach [e₀] X.env)).any (·.1)=false:=by rfl) :
  JX X true H₀ Y (.Raise (some (.Call (.Name x np) [e₀] [] cpos)) none pos) (uM x Y te):=by
 refine⟨fun pins s σ H D I ⟨k,ev,M,F,ok,am,hy,f⟩=>?_⟩
 obtain⟨C,hm,hq⟩:=G.ex
 have I0:Inv X pins σ H s:=I.unwish
 obtain⟨bm,N,nm,qn,bs,hdct,sn,sub,ab,col,dd,k0,k1,k2,k3,k5,mN,hC,hN,hni,T⟩:=yw I0.mod.kin hq
 refine wpAny_Raise_call_subT (C:=C) (nm:=nm) (q:=qn) (N:=N) (bs:=bs) (bm:=bm) (hdct:=hdct) (sn:=sn) (sub:=sub) (ab:=ab) (col:=col) (dd:=dd) (k0:=k0) (k1:=k1) (k2:=k2) (k3:=k3) (k5:=k5)
  PySem.F.excBase_ValueError (mN:=mN) (T.hasType (by decide)) (I0.ok.hd hc) hp hni (P4 (X:=X) I0 hg hm ⟨rfl,?_⟩ hdb)
 have h1:wpAny (model X.prog X.w) X.A (spliced (backTo cpos (starEach [e₀] X.env))) (AP (Cx.ex' X true H₀ Y) pins σ fun vs H1=>vs.length=1∧gp X H₀ Y (.ref C) H1) (XP X true (gp X H₀ Y)) s :=
  (mI (E:=XP X true (gp X H₀ Y)) (A8 h0.out L5 he)) cpos pins s σ H _ I ⟨ev,M,_,ok,am,hy,fun d M1 y v H1 k1 a1 _=>⟨rfl,k.trans k1,x,C,M1,rfl,hm,a1,y⟩⟩
 rw[he]at h1 ⊢
 refine Calls.evalArgs_plain (wpAny_mono h1 (fun us s2 ⟨vs,H1,I1,r1,hv,q⟩=>⟨rfl,?_,I1.bk _ _ hC,hN.keeps I1.bk,T.keeps I1.bk,fun h' e2 mx=>?_⟩) fun _ _ z=>z)
 ·show us.length≤sizeLine
  rw[← r1.length,hv];decide
 ·exact .inl ⟨rfl,e2,.ref C,s2.heap,us,H1,rfl,q,mx,uj I1.unwish⟩
end
noncomputable abbrev Cx.pinned(X:Cx)(pn:List (Addr × Obj)):Cx:={ X with pn:=pn }
noncomputable abbrev Cx.hand(X:Cx)(a:Addr):Cx:={ X with A:=X.A.mark (some (.ref a)),calm:=false }
section
variable {X:Cx} {pins pn:List (Addr × Obj)} {σ:St} {H:Hp} {s:Shared}
theorem oY(ok:X.Ok):(Cx.pinned X pn).Ok:=⟨ok.mod,ok.kind,ok.glob,ok.blt,ok.above,ok.inj,ok.has,ok.cab,ok.hd,ok.frames,ok.stk,ok.exf,ok.bs,ok.bsz,ok.noex,ok.exfs,ok.funs,ok.frf⟩
theorem iA(ok:(Cx.pinned X pn).Ok):X.Ok:=⟨ok.mod,ok.kind,ok.glob,ok.blt,ok.above,ok.inj,ok.has,ok.cab,ok.hd,ok.frames,ok.stk,ok.exf,ok.bs,ok.bsz,ok.noex,ok.exfs,ok.funs,ok.frf⟩
theorem S4(I:Inv X pins σ H s):Inv (Cx.pinned X (X.pn++pins)) [] σ H s:=⟨oY I.ok,I.os,I.bare,I.base,I.loc,I.cell,I.free,I.freeC,fun p hp=>I.pin p (by rwa [Jy]at hp),I.hok,I.len⟩
theorem E7{ps:List (Addr × Obj)}(I:Inv (Cx.pinned X (X.pn++pins)) ps σ H s):Inv X pins σ H s:=⟨iA I.ok,I.os,I.bare,I.base,I.loc,I.cell,I.free,I.freeC,fun p hp=>I.pin p (Ko _ hp),I.hok,I.len⟩
theorem gX{ps:List (Addr × Obj)}{D:T4}:∀{f:Flow},SP (Cx.pinned X (X.pn++pins)) ps D f s→SP X pins D f s
 | .next,⟨σ',H',I,q⟩=>⟨σ',H',E7 I,q⟩
 | .brk,⟨σ',H',I,q⟩=>⟨σ',H',E7 I,q⟩
 | .cont,⟨σ',H',I,q⟩=>⟨σ',H',E7 I,q⟩
 | .ret _,⟨v,σ',H',I,r,q⟩=>⟨v,σ',H',E7 I,r,q⟩
theorem xP{a:Addr}(ok:X.Ok):(Cx.hand X a).Ok:=⟨ok.mod,ok.kind,ok.glob,ok.blt,ok.above,ok.inj,ok.has,ok.cab,fun z=>(by cases z),ok.frames,ok.stk,ok.exf,ok.bs,ok.bsz,ok.noex,ok.exfs,ok.funs,ok.frf⟩
theorem iU{a:Addr}(I:Inv X pins σ H s):Inv (Cx.hand X a) pins σ H s:=⟨xP I.ok,I.os,I.bare,I.base,I.loc,I.cell,I.free,I.freeC,I.pin,I.hok,I.len⟩
theorem L8{a:Addr}(ok:X.Ok)(I:Inv (Cx.hand X a) pins σ H s):Inv X pins σ H s:=⟨ok,I.os,I.bare,I.base,I.loc,I.cell,I.free,I.freeC,I.pin,I.hok,I.len⟩
theorem oM{a:Addr}{D:T4}(ok:X.Ok):∀{f:Flow},SP (Cx.hand X a) pins D f s→SP X pins D f s
 | .next,⟨σ',H',I,q⟩=>⟨σ',H',L8 ok I,q⟩
 | .brk,⟨σ',H',I,q⟩=>⟨σ',H',L8 ok I,q⟩
 | .cont,⟨σ',H',I,q⟩=>⟨σ',H',L8 ok I,q⟩
 | .ret _,⟨v,σ',H',I,r,q⟩=>⟨v,σ',H',L8 ok I,r,q⟩
theorem pz{Hc H':Hp}{sc s1:Shared}{B:Heap}{a:Addr}{cls a0:Value}{h':Heap}(I:Inv X pins σ Hc sc)(ho:s1.os=sc.os)(hg:AllBare s1.gens)(un:Un (frs X.stack) [] Hc H' sc.heap s1.heap)(hok:HOk X.prog X.w H' s1.heap)
  (cov:Cov B sc.heap H' (frs X.stack) s1.heap) (fl:Air B X.stack a cls a0 s1.heap) (st:B.StaysIn h') (ups:s1.heap.UpToSlots h'):Inv X pins σ H' { s1 with heap:=h' }:=by
 have fre:∀ b∈frs X.stack,H' b=none:=fun b hb=>by
  obtain⟨_,o,hob,_⟩:=I.stack.mem hb
  exact un.free b o hob (I.stkFree b hb) (by simp)
 have trk:∀ b u,H' b=some u→b∉frs X.stack:=fun b u q hm=>by rw[fre b hm]at q;cases q
 have keepB:∀ b o,s1.heap.get? b=some o→((∃ u,H' b=some u) ∨ ∃ o0,sc.heap.get? b=some o0)→b∉frs X.stack→h'.get? b=some o:=fun b o q c nm=>st b o (cov b o q c nm)
 have slotB:∀ b o,s1.heap.get? b=some o→b∈frs X.stack→∃ sl,h'.get? b=some { o with slots:=sl }:=fun b o q hm=>by
  obtain⟨_,o',ho',hnf⟩:=fl.frames.mem hm
  have e:o=o':=Option.some.inj (q.symm.trans ho')
  subst e
  exact ups b o q hnf
 have un':Un (frs X.stack) [] Hc H' sc.heap h':=⟨fun b o q n hb hx=>keepB b o (un.keep b o q n hb hx) (.inr ⟨o,q⟩) hb,fun b o q n hb hx=>by
   obtain⟨sl,z⟩:=un.slot b o q n hb hx
   obtain⟨sl2,z2⟩:=slotB b _ z hb
   exact⟨sl2,z2⟩,un.free,fun b o q hx=>by
   obtain⟨o1,z⟩:=un.there b o q hx
   by_cases hm:b∈frs X.stack
   ·obtain⟨sl,z2⟩:=slotB b _ z hm;exact⟨_,z2⟩
   ·exact⟨_,keepB b _ z (.inr ⟨o,q⟩) hm⟩,un.tups,un.frzs,un.tbls⟩
 refine I.call' (s':={ s1 with heap:=h' }) ho un' (fun b u q=>?_) hg fun b hb=>by cases hb
 refine(hok b u q).stay (fun c v hc q2=>?_) (fun _ q=>q) fun _ _ q=>q
 rcases hc with rfl|hc
 ·exact keepB c v q2 (.inl ⟨u,q⟩) (trk c u q)
 ·exact keepB c v q2 (.inl ⟨_,hc⟩) (trk c _ hc)
end
section
variable {X:Cx} {body suite:List Stmt} {b0:Stmt} {c:Str} {np hpos pos:Pos} {tb:DXK→DTS} {ts:DTS}
end
section
variable {X:Cx} {body suite:List Stmt} {b0:Stmt} {c:Str} {np hpos pos:Pos} {tb:DXK→DTS} {ts:DTS}
end
end DL
namespace DL
open PySem PySem.Spec L2
def BlK(x:D)(M:Mem)(Q:Bool→Mem→Prop):Prop:=∃ k,x = .bl k∧Q k M
def IfK(c:Bool)(A B:Prop):Prop:=if c=true then A else B
def SzK(n:Nat)(A:Prop):Prop:=n≤sizeLine∧A
def Gi(i j:Nat)(ds:List D)(F:E5)(e:Ev)(M:Mem):Prop:=∃ x y,ds=[x,y]∧F.nx ((e.set i (some x)).set j (some y)) M
def DN(x:D)(M:Mem)(Q:List D→(Mem→Prop)→Mem→Prop):Prop:=∃ ds,A5 M x ds∧Q ds (fun M'=>A5 M' x ds) M
def vA(xs:List D)(M:Mem)(Q:List D→(Mem→Prop)→Mem→Prop):Prop:=∃ x y ds es,xs=[x,y]∧A5 M x ds∧A5 M y es∧Q (W0 ds es) (fun M'=>A5 M' x ds∧A5 M' y es) M
def Gh(xs:List D)(M:Mem)(Q:List D→(Mem→Prop)→Mem→Prop):Prop:=∃ j:Int,xs=[.int j]∧-(2 ^ 62)≤j∧j<2 ^ 62∧Q (F2 0 j.toNat) (fun _=>True) M
def kI(g:DTG)(tb:DTS)(F:E5)(ds:List D)(stay:Mem→Prop)(e:Ev)(M1:Mem):Prop:=∃ W:Nat→Ev→Mem→Prop,W 0 e M1∧(∀ i e M,i≤ds.length→W i e M→stay M) ∧
 (∀(i:Nat) (d:D) e M,ds[i]? = some d→W i e M→g d e M fun e2 M2=>tb { F with nx:=W (i+1),ct:=W (i+1),bk:=F.nx } e2 M2)∧∀ e M,W ds.length e M→F.nx e M
def Hj(x:D)(M1:Mem)(R:DK):Prop:=∃ p ds,x = .ref p∧M1 p=some (.lst ds)∧R (.vl ds) (Y9 M1 p)
def Ba(x:D)(M:Mem)(Q:Option Int→Mem→Prop):Prop:=∃ i,x = .int i∧Q (some i) M
def DU(x:D)(M1:Mem)(R:DK):Prop:=∃ M2:Mem,(∀ b o,M2 b=some o→M1 b=some o)∧R x M2
def LMK(x:D)(M:Mem)(A:Prop):Prop:=(∃ l ds,x = .ref l∧M l=some (.lst ds))∧A
end DL
namespace DL
open PySem PySem.Spec L2
open PyProof.Rows hiding St
section
variable {e:Ev} {M:Mem} {R:DK} {F:E5} {ta tb tc:DTE} {tA tB:DTT} {tr:DTA} {t u:DTS}
theorem z_C{d:D}:dC d e M R=R d M:=rfl
theorem EB{g:DR2}:dOp g ta tb e M R=ta e M fun x M1=>tb e M1 fun y M2=>g x y M2 R:=rfl
theorem Ez{g:D→Mem→DK→Prop}:dUn g ta e M R=ta e M fun x M1=>g x M1 R:=rfl
theorem Ex{f:Int→Int→D}{i j:Int}:gF (fI f) (.int i) (.int j) M R=R (f i j) M:=propext ⟨fun zz=>by obtain⟨_,h,r⟩:=zz;cases h;exact r,fun r=>⟨_,rfl,r⟩⟩
theorem Ey{f:Bool→Bool→D}{i j:Bool}:gF (fB f) (.bl i) (.bl j) M R=R (f i j) M:=propext ⟨fun zz=>by obtain⟨_,h,r⟩:=zz;cases h;exact r,fun r=>⟨_,rfl,r⟩⟩
theorem Ew{f:Str→Str→D}{i j:Str}:gF (fS f) (.str i) (.str j) M R=R (f i j) M:=propext ⟨fun zz=>by obtain⟨_,h,r⟩:=zz;cases h;exact r,fun r=>⟨_,rfl,r⟩⟩
theorem Eu{C:Int→Int→Prop}{f:Int→Int→D}{i j:Int}:gI C f (.int i) (.int j) M R=(C i j∧R (f i j) M):=propext ⟨fun zz=>by obtain⟨_,_,h1,h2,c,r⟩:=zz;cases h1;cases h2;exact⟨c,r⟩,fun⟨c,r⟩=>⟨_,_,rfl,rfl,c,r⟩⟩
theorem Et{f:Int→D}{i:Int}:gU f (.int i) M R=R (f i) M:=propext ⟨fun zz=>by obtain⟨_,h,r⟩:=zz;cases h;exact r,fun r=>⟨_,rfl,r⟩⟩
theorem qF{Q:Bool→Mem→Prop}:ja ta e M Q=ta e M fun x M'=>BlK x M' Q:=rfl
theorem zW{b:Bool}{Q:Bool→Mem→Prop}:BlK (.bl b) M Q=Q b M:=propext ⟨fun zz=>by obtain⟨_,h,r⟩:=zz;cases h;exact r,fun r=>⟨_,rfl,r⟩⟩
theorem zY{Q:Bool→Mem→Prop}:FX tA tB e M Q=tA e M fun c M1=>IfK c (tB e M1 Q) (Q false M1):=rfl
theorem EA{Q:Bool→Mem→Prop}:dOr tA tB e M Q=tA e M fun c M1=>IfK c (Q true M1) (tB e M1 Q):=rfl
theorem zx{Q:Bool→Mem→Prop}:FO tA e M Q=tA e M fun c M1=>Q (!c) M1:=rfl
theorem rj:AS ta tb e M R=ta e M fun x M1=>BlK x M1 fun c M1=>IfK c (tb e M1 R) (R (.bl false) M1):=rfl
theorem zw:FN ta tb e M R=ta e M fun x M1=>BlK x M1 fun c M1=>IfK c (R (.bl true) M1) (tb e M1 R):=rfl
theorem qQ:AN ta e M R=ta e M fun x M1=>BlK x M1 fun c M1=>R (.bl (!c)) M1:=rfl
theorem ED:dIf tA ta tb e M R=tA e M fun c M1=>IfK c (ta e M1 R) (tb e M1 R):=rfl
theorem zO:Dy tA t u F e M=tA e M fun c M1=>IfK c (t F e M1) (u F e M1):=rfl
theorem zy{Q:List D→Mem→Prop}:yy e M Q=Q [] M:=rfl
theorem rd{Q:List D→Mem→Prop}:uS ta tr e M Q=ta e M fun x M1=>tr e M1 fun xs M2=>Q (x :: xs) M2:=rfl
theorem zp:Du tr e M R=tr e M fun ds M1=>SzK ds.length (R (.tup ds) M1):=rfl
theorem zH:FP tr e M R=tr e M fun ds M1=>SzK ds.length (∀ p,M1 p=none→R (.ref p) (j9 M1 p (.lst ds))):=rfl
theorem Q2{x y z:D}(h:ixD M x y=some z):gIx x y M R=R z M:=propext ⟨fun zz=>by obtain⟨_,h',r⟩:=zz;rw[h]at h';cases h';exact r,fun r=>⟨_,h,r⟩⟩
theorem zV{neg:Bool}{x y:D}:Di neg x y M R=(cl 60 x=true∧cl 60 y=true∧R (.bl (neg.xor (@decide (x=y) (Ke _)))) M):=rfl
theorem rh{sp:DSp}{dds:List D}{Y:DXK}:nV sp dds Y tr e M R=tr e M fun ds M1=>sp (ds++dds) M1 R Y:=rfl
theorem EE{g:DRC}:dCB g tr e M R=tr e M fun ds M1=>g ds M1 R:=rfl
theorem qR:uN F e M=F.nx e M:=rfl
theorem zt:Dv t u F e M=t { F with nx:=u F } e M:=rfl
theorem rb:AQ ta F e M=ta e M fun _ M1=>F.nx e M1:=rfl
theorem zu:Dw ta F e M=ta e M F.rt:=rfl
theorem mr:uO F e M=False:=rfl
variable {Q:Ev→Mem→Prop}
theorem lY{i:Nat}{d:D}:Y7 i d e M Q=Q (e.set i (some d)) M:=rfl
theorem qE:AI [] e M Q=Q e M:=propext ⟨fun h=>h.2,fun h=>⟨rfl,h⟩⟩
theorem lZ{g:DTG}{gs:V9}{d:D}{ds:List D}:uJ g gs (d :: ds) e M Q=g d e M fun e' M'=>gs ds e' M' Q:=propext ⟨fun zz=>by obtain⟨_,_,h,r⟩:=zz;cases h;exact r,fun r=>⟨_,_,rfl,r⟩⟩
theorem bF{n:Nat}{gs:V9}{ds:List D}(h:ds.length=n):iZ n gs (.tup ds) e M Q=gs ds e M Q:=propext ⟨fun zz=>by obtain⟨_,h',_,r⟩:=zz;cases h';exact r,fun r=>⟨_,rfl,h,r⟩⟩
theorem qB{to ti:DTE}{ts:vI}{d:D}:AH to ti ts d e M Q=to e M fun o M1=>ti e M1 fun i M2=>ts o i d M2 fun M3=>Q e M3:=rfl
theorem zX{g:DTG}:uV ta g F e M=ta e M fun x M1=>g x e M1 F.nx:=rfl
theorem zv{i j:Nat}:FL i j tr F e M=tr e M fun ds M1=>Gi i j ds F e M1:=rfl
theorem qP{i j:Nat}{x y:D}:Gi i j [x,y] F e M=F.nx ((e.set i (some x)).set j (some y)) M:=propext ⟨fun zz=>by obtain⟨_,_,h,r⟩:=zz;cases h;exact r,fun r=>⟨_,_,rfl,r⟩⟩
theorem zZ{i:Int}:FG [.int i] M R=R (.int (i.natAbs:Int)) M:=propext ⟨fun zz=>by obtain⟨_,h,r⟩:=zz;cases h;exact r,fun r=>⟨_,rfl,r⟩⟩
theorem zG{i j:Int}:FC [.int i,.int j] M R=R (.int (max i j)) M:=propext ⟨fun zz=>by obtain⟨_,_,h,r⟩:=zz;cases h;exact r,fun r=>⟨_,_,rfl,r⟩⟩
theorem my{d:D}{n:Nat}(h:iN M d=some n):pC [d] M R=R (.int (n:Int)) M:=propext ⟨fun zz=>by obtain⟨_,_,h',h2,r⟩:=zz;cases h';rw[h]at h2;cases h2;exact r,fun r=>⟨_,_,rfl,h,r⟩⟩
theorem o9{d:D}{ty T:String}{b:Bool}(h1:tyD M d=some ty)(h2:eJ ty T=some b):y9 [d,.ty T] M R=R (.bl b) M:=propext ⟨fun zz=>by
 obtain⟨_,_,_,_,h,h1',h2',r⟩:=zz
 injection h with h h';subst h;injection h' with h';injection h' with h';subst h'
 rw[h1]at h1';cases h1';rw[h2]at h2';cases h2';exact r,fun r=>⟨_,_,_,_,rfl,h1,h2,r⟩⟩
theorem B6{d:D}{ty T1 T2:String}{b:Bool}(h1:tyD M d=some ty)(h2:mO ty T1 T2=some b):E4 [d,.tup [.ty T1,.ty T2]] M R=R (.bl b) M:=propext ⟨fun zz=>by
 obtain⟨_,_,_,_,_,h,h1',h2',r⟩:=zz
 injection h with h h';subst h;injection h' with h';injection h' with h';injection h' with h3 h4;injection h3 with h3;injection h4 with h4;injection h4 with h4;subst h3;subst h4
 rw[h1]at h1';cases h1';rw[h2]at h2';cases h2';exact r,fun r=>⟨_,_,_,_,_,rfl,h1,h2,r⟩⟩
theorem zP{c:Bool}{A B:Prop}:IfK c A B=((c=true→A)∧(c=false→B)):=by cases c<;>simp[IfK]
theorem zN{A B:Prop}:IfK true A B=A:=by simp[IfK]
theorem zQ{A B:Prop}:IfK false A B=B:=by simp[IfK]
theorem u9{n:Nat}{A:Prop}(h:n≤1000):SzK n A=A:=propext ⟨fun h=>h.2,fun a=>⟨sl n h,a⟩⟩
theorem Eh{d:D}{r:Ev}:ax 0 (some d :: r) M R=R d M:=propext ⟨fun zz=>by obtain⟨_,h,q⟩:=zz;cases h;exact q,fun q=>⟨_,rfl,q⟩⟩
theorem Es{y z:Option D}{r:Ev}:(y :: r:Ev).set 0 z=z :: r:=rfl
theorem Eg{x0:Option D}{d:D}{r:Ev}:ax 1 (x0 :: some d :: r) M R=R d M:=propext ⟨fun zz=>by obtain⟨_,h,q⟩:=zz;cases h;exact q,fun q=>⟨_,rfl,q⟩⟩
theorem Er{x0:Option D}{y z:Option D}{r:Ev}:(x0 :: y :: r:Ev).set 1 z=x0 :: z :: r:=rfl
theorem Ef{x0 x1:Option D}{d:D}{r:Ev}:ax 2 (x0 :: x1 :: some d :: r) M R=R d M:=propext ⟨fun zz=>by obtain⟨_,h,q⟩:=zz;cases h;exact q,fun q=>⟨_,rfl,q⟩⟩
theorem Ep{x0 x1:Option D}{y z:Option D}{r:Ev}:(x0 :: x1 :: y :: r:Ev).set 2 z=x0 :: x1 :: z :: r:=rfl
theorem Ee{x0 x1 x2:Option D}{d:D}{r:Ev}:ax 3 (x0 :: x1 :: x2 :: some d :: r) M R=R d M:=propext ⟨fun zz=>by obtain⟨_,h,q⟩:=zz;cases h;exact q,fun q=>⟨_,rfl,q⟩⟩
theorem Eo{x0 x1 x2:Option D}{y z:Option D}{r:Ev}:(x0 :: x1 :: x2 :: y :: r:Ev).set 3 z=x0 :: x1 :: x2 :: z :: r:=rfl
theorem Ed{x0 x1 x2 x3:Option D}{d:D}{r:Ev}:ax 4 (x0 :: x1 :: x2 :: x3 :: some d :: r) M R=R d M:=propext ⟨fun zz=>by obtain⟨_,h,q⟩:=zz;cases h;exact q,fun q=>⟨_,rfl,q⟩⟩
theorem En{x0 x1 x2 x3:Option D}{y z:Option D}{r:Ev}:(x0 :: x1 :: x2 :: x3 :: y :: r:Ev).set 4 z=x0 :: x1 :: x2 :: x3 :: z :: r:=rfl
theorem Ec{x0 x1 x2 x3 x4:Option D}{d:D}{r:Ev}:ax 5 (x0 :: x1 :: x2 :: x3 :: x4 :: some d :: r) M R=R d M:=propext ⟨fun zz=>by obtain⟨_,h,q⟩:=zz;cases h;exact q,fun q=>⟨_,rfl,q⟩⟩
theorem Em{x0 x1 x2 x3 x4:Option D}{y z:Option D}{r:Ev}:(x0 :: x1 :: x2 :: x3 :: x4 :: y :: r:Ev).set 5 z=x0 :: x1 :: x2 :: x3 :: x4 :: z :: r:=rfl
theorem Eb{x0 x1 x2 x3 x4 x5:Option D}{d:D}{r:Ev}:ax 6 (x0 :: x1 :: x2 :: x3 :: x4 :: x5 :: some d :: r) M R=R d M:=propext ⟨fun zz=>by obtain⟨_,h,q⟩:=zz;cases h;exact q,fun q=>⟨_,rfl,q⟩⟩
theorem El{x0 x1 x2 x3 x4 x5:Option D}{y z:Option D}{r:Ev}:(x0 :: x1 :: x2 :: x3 :: x4 :: x5 :: y :: r:Ev).set 6 z=x0 :: x1 :: x2 :: x3 :: x4 :: x5 :: z :: r:=rfl
theorem Ea{x0 x1 x2 x3 x4 x5 x6:Option D}{d:D}{r:Ev}:ax 7 (x0 :: x1 :: x2 :: x3 :: x4 :: x5 :: x6 :: some d :: r) M R=R d M:=propext ⟨fun zz=>by obtain⟨_,h,q⟩:=zz;cases h;exact q,fun q=>⟨_,rfl,q⟩⟩
theorem Ek{x0 x1 x2 x3 x4 x5 x6:Option D}{y z:Option D}{r:Ev}:(x0 :: x1 :: x2 :: x3 :: x4 :: x5 :: x6 :: y :: r:Ev).set 7 z=x0 :: x1 :: x2 :: x3 :: x4 :: x5 :: x6 :: z :: r:=rfl
theorem DZ{x0 x1 x2 x3 x4 x5 x6 x7:Option D}{d:D}{r:Ev}:ax 8 (x0 :: x1 :: x2 :: x3 :: x4 :: x5 :: x6 :: x7 :: some d :: r) M R=R d M:=propext ⟨fun zz=>by obtain⟨_,h,q⟩:=zz;cases h;exact q,fun q=>⟨_,rfl,q⟩⟩
theorem Ej{x0 x1 x2 x3 x4 x5 x6 x7:Option D}{y z:Option D}{r:Ev}:(x0 :: x1 :: x2 :: x3 :: x4 :: x5 :: x6 :: x7 :: y :: r:Ev).set 8 z=x0 :: x1 :: x2 :: x3 :: x4 :: x5 :: x6 :: x7 :: z :: r:=rfl
theorem DY{x0 x1 x2 x3 x4 x5 x6 x7 x8:Option D}{d:D}{r:Ev}:ax 9 (x0 :: x1 :: x2 :: x3 :: x4 :: x5 :: x6 :: x7 :: x8 :: some d :: r) M R=R d M:=propext ⟨fun zz=>by obtain⟨_,h,q⟩:=zz;cases h;exact q,fun q=>⟨_,rfl,q⟩⟩
theorem Ei{x0 x1 x2 x3 x4 x5 x6 x7 x8:Option D}{y z:Option D}{r:Ev}:(x0 :: x1 :: x2 :: x3 :: x4 :: x5 :: x6 :: x7 :: x8 :: y :: r:Ev).set 9 z=x0 :: x1 :: x2 :: x3 :: x4 :: x5 :: x6 :: x7 :: x8 :: z :: r:=rfl
theorem yV{x0 x1 x2 x3 x4 x5 x6 x7 x8 x9:Option D}{d:D}{r:Ev}:ax 10 (x0 :: x1 :: x2 :: x3 :: x4 :: x5 :: x6 :: x7 :: x8 :: x9 :: some d :: r) M R=R d M:=propext ⟨fun zz=>by obtain⟨_,h,q⟩:=zz;cases h;exact q,fun q=>⟨_,rfl,q⟩⟩
theorem zl{x0 x1 x2 x3 x4 x5 x6 x7 x8 x9:Option D}{y z:Option D}{r:Ev}:(x0 :: x1 :: x2 :: x3 :: x4 :: x5 :: x6 :: x7 :: x8 :: x9 :: y :: r:Ev).set 10 z=x0 :: x1 :: x2 :: x3 :: x4 :: x5 :: x6 :: x7 :: x8 :: x9 :: z :: r:=rfl
theorem D6{M:Mem}{ds es:List D}:A5 M (.tup ds) es=(es=ds):=by
 apply propext
 constructor
 ·intro h
  rcases h with h|⟨_,h,_⟩|h
  ·injection h with h;exact h.symm
  ·exact absurd h (by intro z;cases z)
  ·exact absurd h (by intro z;cases z)
 ·intro h;exact .inl (by rw[h])
theorem D3{M:Mem}{ds es:List D}:A5 M (.vl ds) es=(es=ds):=by
 apply propext
 constructor
 ·intro h
  rcases h with h|⟨_,h,_⟩|h
  ·exact absurd h (by intro z;cases z)
  ·exact absurd h (by intro z;cases z)
  ·injection h with h;exact h.symm
 ·intro h;exact .inr (.inr (by rw[h]))
theorem y3{ds:List D}{n:Nat}{d:D}(h:ds[n]? = some d):atI ds (n:Int)=some d:=by
 obtain⟨hl,_⟩:=Jm.mp h
 unfold atI ixN
 rw[if_pos (LO n),if_pos (by omega)]
 simpa using h
theorem qU:uP tr e M R=tr e M fun ds M1=>SzK ds.length (R (.vl ds) M1):=rfl
theorem rg:AR ta tb e M R=ta e M fun x M1=>tb e M1 fun y M2=>ux x y M2 R:=rfl
theorem zq{tl th:DTO}:FJ ta tl th e M R=ta e M fun x M1=>tl e M1 fun l M2=>th e M2 fun u M3=>yq x l u M3 R:=rfl
theorem gN{Q:Option Int→Mem→Prop}:nT e M Q=Q none M:=rfl
theorem qO{Q:Option Int→Mem→Prop}:AM ta e M Q=ta e M fun x M1=>Ba x M1 Q:=rfl
theorem mq{i:Int}{Q:Option Int→Mem→Prop}:Ba (.int i) M Q=Q (some i) M:=propext ⟨fun zz=>by obtain⟨_,h,r⟩:=zz;cases h;exact r,fun r=>⟨_,rfl,r⟩⟩
open Classical in
theorem yu{neg:Bool}{p:Addr}{xs ys:List D}(h:M p=some (.lst xs))(c1:clL 50 xs=true)(c2:clL 50 ys=true)(r:R (.bl (neg.xor (decide (xs=ys)))) M):Dh neg (.ref p) (.vl ys) M R:=⟨p,xs,ys,rfl,rfl,h,c1,c2,r⟩
theorem gJ{xs ys:List D}:ux (.vl xs) (.vl ys) M R=SzK (xs.length+ys.length) (R (.vl (xs++ys)) M):=propext ⟨fun zz=>by obtain⟨_,_,h,h2,z,r⟩:=zz;cases h;cases h2;exact⟨z,r⟩,fun⟨z,r⟩=>⟨_,_,rfl,rfl,z,r⟩⟩
theorem lW{xs:List D}{lo hi:Option Int}:yq (.vl xs) lo hi M R=R (.vl (Z0 xs lo hi)) M:=propext ⟨fun h=>by
 rcases h with⟨_,h,r⟩|⟨_,h,_⟩
 ·cases h;exact r
 ·exact(nomatch h),fun r=>.inl ⟨_,rfl,r⟩⟩
theorem lV{xs:List D}{lo hi:Option Int}:yq (.tup xs) lo hi M R=(¬ (HT.sIx xs.length 0 lo=0∧HT.sIx xs.length xs.length hi=xs.length)∧R (.tup (Z0 xs lo hi)) M):=propext ⟨fun h=>by
 rcases h with⟨_,h,r⟩|⟨_,h,hw,r⟩
 ·cases h
 ·cases h;exact⟨hw,r⟩,fun⟨hw,r⟩=>.inr ⟨_,rfl,hw,r⟩⟩
theorem zR:FT ta e M R=ta e M fun x M1=>Hj x M1 R:=rfl
theorem mC{n:Nat}{caps:List Nat}{ti:DTI}{g:DTG}{tc:O9}{te:DTE}:uT n caps ti g tc te e M R=ti e M fun ds stay M1=>Bc (jj n caps e) g tc te ds stay M1 R:=rfl
theorem zo{Q:Bool→Mem→Prop}:Dt e M Q=Q true M:=rfl
section
variable {Q:List D→(Mem→Prop)→Mem→Prop}
theorem me:AF ta e M Q=ta e M fun x M1=>DN x M1 Q:=rfl
theorem qL{ds:List D}:DN (.tup ds) M Q=Q ds (fun M'=>A5 M' (.tup ds) ds) M:=propext ⟨fun zz=>by obtain⟨_,h,r⟩:=zz;rw[D6]at h;subst h;exact r,fun r=>⟨_,.inl rfl,r⟩⟩
theorem qK{ds:List D}:DN (.vl ds) M Q=Q ds (fun M'=>A5 M' (.vl ds) ds) M:=propext ⟨fun zz=>by obtain⟨_,h,r⟩:=zz;rw[D3]at h;subst h;exact r,fun r=>⟨_,.inr (.inr rfl),r⟩⟩
theorem ma:AD tr e M Q=tr e M fun xs M1=>vA xs M1 Q:=rfl
theorem mm{ds es:List D}:vA [.tup ds,.tup es] M Q=Q (W0 ds es) (fun M'=>A5 M' (.tup ds) ds∧A5 M' (.tup es) es) M:=propext ⟨fun zz=>by obtain⟨_,_,_,_,h,h2,h3,r⟩:=zz;cases h;rw[D6]at h2 h3;subst h2;subst h3;exact r,fun r=>⟨_,_,_,_,rfl,.inl rfl,.inl rfl,r⟩⟩
theorem mh{ds es:List D}:vA [.vl ds,.vl es] M Q=Q (W0 ds es) (fun M'=>A5 M' (.vl ds) ds∧A5 M' (.vl es) es) M:=propext ⟨fun zz=>by obtain⟨_,_,_,_,h,h2,h3,r⟩:=zz;cases h;rw[D3]at h2 h3;subst h2;subst h3;exact r,fun r=>⟨_,_,_,_,rfl,.inr (.inr rfl),.inr (.inr rfl),r⟩⟩
theorem ml{ds es:List D}:vA [.tup ds,.vl es] M Q=Q (W0 ds es) (fun M'=>A5 M' (.tup ds) ds∧A5 M' (.vl es) es) M:=propext ⟨fun zz=>by obtain⟨_,_,_,_,h,h2,h3,r⟩:=zz;cases h;rw[D6]at h2;rw[D3]at h3;subst h2;subst h3;exact r,fun r=>⟨_,_,_,_,rfl,.inl rfl,.inr (.inr rfl),r⟩⟩
theorem mj{ds es:List D}:vA [.vl ds,.tup es] M Q=Q (W0 ds es) (fun M'=>A5 M' (.vl ds) ds∧A5 M' (.tup es) es) M:=propext ⟨fun zz=>by obtain⟨_,_,_,_,h,h2,h3,r⟩:=zz;cases h;rw[D3]at h2;rw[D6]at h3;subst h2;subst h3;exact r,fun r=>⟨_,_,_,_,rfl,.inr (.inr rfl),.inl rfl,r⟩⟩
theorem mf:AG tr e M Q=tr e M fun xs M1=>Gh xs M1 Q:=rfl
theorem qM{j:Int}:Gh [.int j] M Q=((-(2 ^ 62)≤j∧j<2 ^ 62)∧Q (F2 0 j.toNat) (fun _=>True) M):=propext ⟨fun zz=>by obtain⟨_,h,a,b,r⟩:=zz;cases h;exact⟨⟨a,b⟩,r⟩,fun⟨⟨a,b⟩,r⟩=>⟨_,rfl,a,b,r⟩⟩
theorem gK:uI tr e M Q=tr e M fun ds M1=>vL ds M1 Q:=rfl
theorem mE{xs:List D}:vL [.vl xs] M Q=Q xs.reverse (fun _=>True) M:=propext ⟨fun zz=>by obtain⟨_,h,r⟩:=zz;cases h;exact r,fun r=>⟨_,rfl,r⟩⟩
end
theorem zS{ti:DTI}{g:DTG}:FU ti g t F e M=ti e M fun ds stay M1=>kI g t F ds stay e M1:=rfl
theorem kI.by{g:DTG}{ds:List D}{stay:Mem→Prop}{M1:Mem}(W:Nat→Ev→Mem→Prop)(w0:W 0 e M1)(st:∀ i e M,i≤ds.length→W i e M→stay M)
  (turn:∀(i:Nat) (d:D) e M,ds[i]? = some d→W i e M→g d e M fun e2 M2=>t { F with nx:=W (i+1),ct:=W (i+1),bk:=F.nx } e2 M2) (done:∀ e M,W ds.length e M→F.nx e M):kI g t F ds stay e M1:=⟨W,w0,st,turn,done⟩
theorem oo{F:E5}(W:Nat→Ev→Mem→Prop)(m:Nat)(w0:W m e M)(turn:∀ m e M,W m e M→tA e M fun b M1=>IfK b (t { F with nx:=fun e' M'=>∃ m',m'<m∧W m' e' M',ct:=fun e' M'=>∃ m',m'<m∧W m' e' M',bk:=F.nx } e M1) (F.nx e M1)):uL tA t F e M:=⟨W,⟨m,w0⟩,turn⟩
theorem vF{F:E5}(P:Ev→Mem→Prop)(h1:t { F with nx:=P } e M)(h2:∀ e' M',P e' M'→u F e' M'):AK t u F e M:=⟨P,h1,h2⟩
theorem EC{g:DRM}:dLM g ta tr e M R=ta e M fun x M1=>LMK x M1 (tr e M1 fun xs M2=>g x xs M2 R):=rfl
theorem bh{x0:D}{r:List D}:gIx (.tup (x0 :: r)) (.int 0) M R=R x0 M:=Q2 (y3 (n:=0) rfl)
theorem qv{x0:D}{r:List D}:gIx (.vl (x0 :: r)) (.int 0) M R=R x0 M:=Q2 (y3 (n:=0) rfl)
theorem bg{x0 x1:D}{r:List D}:gIx (.tup (x0 :: x1 :: r)) (.int 1) M R=R x1 M:=Q2 (y3 (n:=1) rfl)
theorem qu{x0 x1:D}{r:List D}:gIx (.vl (x0 :: x1 :: r)) (.int 1) M R=R x1 M:=Q2 (y3 (n:=1) rfl)
theorem jy{x0 x1 x2:D}{r:List D}:gIx (.tup (x0 :: x1 :: x2 :: r)) (.int 2) M R=R x2 M:=Q2 (y3 (n:=2) rfl)
theorem qt{x0 x1 x2:D}{r:List D}:gIx (.vl (x0 :: x1 :: x2 :: r)) (.int 2) M R=R x2 M:=Q2 (y3 (n:=2) rfl)
theorem qA{x0 x1 x2 x3:D}{r:List D}:gIx (.tup (x0 :: x1 :: x2 :: x3 :: r)) (.int 3) M R=R x3 M:=Q2 (y3 (n:=3) rfl)
theorem qr{x0 x1 x2 x3:D}{r:List D}:gIx (.vl (x0 :: x1 :: x2 :: x3 :: r)) (.int 3) M R=R x3 M:=Q2 (y3 (n:=3) rfl)
theorem qz{x0 x1 x2 x3 x4:D}{r:List D}:gIx (.tup (x0 :: x1 :: x2 :: x3 :: x4 :: r)) (.int 4) M R=R x4 M:=Q2 (y3 (n:=4) rfl)
theorem qp{x0 x1 x2 x3 x4:D}{r:List D}:gIx (.vl (x0 :: x1 :: x2 :: x3 :: x4 :: r)) (.int 4) M R=R x4 M:=Q2 (y3 (n:=4) rfl)
theorem qy{x0 x1 x2 x3 x4 x5:D}{r:List D}:gIx (.tup (x0 :: x1 :: x2 :: x3 :: x4 :: x5 :: r)) (.int 5) M R=R x5 M:=Q2 (y3 (n:=5) rfl)
theorem qo{x0 x1 x2 x3 x4 x5:D}{r:List D}:gIx (.vl (x0 :: x1 :: x2 :: x3 :: x4 :: x5 :: r)) (.int 5) M R=R x5 M:=Q2 (y3 (n:=5) rfl)
theorem qx{x0 x1 x2 x3 x4 x5 x6:D}{r:List D}:gIx (.tup (x0 :: x1 :: x2 :: x3 :: x4 :: x5 :: x6 :: r)) (.int 6) M R=R x6 M:=Q2 (y3 (n:=6) rfl)
theorem qm{x0 x1 x2 x3 x4 x5 x6:D}{r:List D}:gIx (.vl (x0 :: x1 :: x2 :: x3 :: x4 :: x5 :: x6 :: r)) (.int 6) M R=R x6 M:=Q2 (y3 (n:=6) rfl)
theorem qw{x0 x1 x2 x3 x4 x5 x6 x7:D}{r:List D}:gIx (.tup (x0 :: x1 :: x2 :: x3 :: x4 :: x5 :: x6 :: x7 :: r)) (.int 7) M R=R x7 M:=Q2 (y3 (n:=7) rfl)
theorem ql{x0 x1 x2 x3 x4 x5 x6 x7:D}{r:List D}:gIx (.vl (x0 :: x1 :: x2 :: x3 :: x4 :: x5 :: x6 :: x7 :: r)) (.int 7) M R=R x7 M:=Q2 (y3 (n:=7) rfl)
theorem zk{A:Prop}:SzK (0) A=A:=u9 (by decide)
theorem zj{A:Prop}:SzK (0+1) A=A:=u9 (by decide)
theorem zi{A:Prop}:SzK (0+1+1) A=A:=u9 (by decide)
theorem zh{A:Prop}:SzK (0+1+1+1) A=A:=u9 (by decide)
theorem ze{A:Prop}:SzK (0+1+1+1+1) A=A:=u9 (by decide)
theorem zc{A:Prop}:SzK (0+1+1+1+1+1) A=A:=u9 (by decide)
theorem yZ{A:Prop}:SzK (0+1+1+1+1+1+1) A=A:=u9 (by decide)
theorem yY{A:Prop}:SzK (0+1+1+1+1+1+1+1) A=A:=u9 (by decide)
theorem yX{A:Prop}:SzK (0+1+1+1+1+1+1+1+1) A=A:=u9 (by decide)
theorem yW{A:Prop}:SzK (0+1+1+1+1+1+1+1+1+1) A=A:=u9 (by decide)
theorem wO{i:Int}:cl 60 (.int i)=true:=rfl
theorem wI:cl 60 .non=true:=rfl
theorem wx{ds:List D}:cl 60 (.tup ds)=clL 59 ds:=rfl
theorem wg{ds:List D}:cl 60 (.vl ds)=clL 59 ds:=rfl
theorem vS:clL 59 []=true:=rfl
theorem vY{d:D}{r:List D}:clL 59 (d :: r)=(cl 59 d && clL 59 r):=rfl
theorem wQ{i:Int}:cl 59 (.int i)=true:=rfl
theorem wJ:cl 59 .non=true:=rfl
theorem wy{ds:List D}:cl 59 (.tup ds)=clL 58 ds:=rfl
theorem wj{ds:List D}:cl 59 (.vl ds)=clL 58 ds:=rfl
theorem vT:clL 58 []=true:=rfl
theorem vZ{d:D}{r:List D}:clL 58 (d :: r)=(cl 58 d && clL 58 r):=rfl
theorem wR{i:Int}:cl 58 (.int i)=true:=rfl
theorem wK:cl 58 .non=true:=rfl
theorem wz{ds:List D}:cl 58 (.tup ds)=clL 57 ds:=rfl
theorem wm{ds:List D}:cl 58 (.vl ds)=clL 57 ds:=rfl
theorem vU:clL 57 []=true:=rfl
theorem wb{d:D}{r:List D}:clL 57 (d :: r)=(cl 57 d && clL 57 r):=rfl
theorem wU{i:Int}:cl 57 (.int i)=true:=rfl
theorem wL:cl 57 .non=true:=rfl
theorem wA{ds:List D}:cl 57 (.tup ds)=clL 56 ds:=rfl
theorem wq{ds:List D}:cl 57 (.vl ds)=clL 56 ds:=rfl
theorem vV:clL 56 []=true:=rfl
theorem wc{d:D}{r:List D}:clL 56 (d :: r)=(cl 56 d && clL 56 r):=rfl
theorem wV{i:Int}:cl 56 (.int i)=true:=rfl
theorem wM:cl 56 .non=true:=rfl
theorem wB{ds:List D}:cl 56 (.tup ds)=clL 55 ds:=rfl
theorem wt{ds:List D}:cl 56 (.vl ds)=clL 55 ds:=rfl
theorem vW:clL 55 []=true:=rfl
theorem wd{d:D}{r:List D}:clL 55 (d :: r)=(cl 55 d && clL 55 r):=rfl
theorem wW{i:Int}:cl 55 (.int i)=true:=rfl
theorem wN:cl 55 .non=true:=rfl
theorem wC{ds:List D}:cl 55 (.tup ds)=clL 54 ds:=rfl
theorem wu{ds:List D}:cl 55 (.vl ds)=clL 54 ds:=rfl
theorem vX:clL 54 []=true:=rfl
theorem we{d:D}{r:List D}:clL 54 (d :: r)=(cl 54 d && clL 54 r):=rfl
theorem qV{xs:List D}:pC [.vl xs] M R=R (.int (xs.length:Int)) M:=my rfl
theorem qW{xs:List D}:pC [.tup xs] M R=R (.int (xs.length:Int)) M:=my rfl
theorem Bn{A:Prop}:SzK 1 A=A:=u9 (by decide)
theorem Bm{A:Prop}:SzK 2 A=A:=u9 (by decide)
theorem Bl{A:Prop}:SzK 3 A=A:=u9 (by decide)
theorem Bk{A:Prop}:SzK 4 A=A:=u9 (by decide)
theorem Bj{A:Prop}:SzK 5 A=A:=u9 (by decide)
theorem Bi{A:Prop}:SzK 6 A=A:=u9 (by decide)
theorem Bh{A:Prop}:SzK 7 A=A:=u9 (by decide)
theorem Bg{A:Prop}:SzK 8 A=A:=u9 (by decide)
theorem Bf{A:Prop}:SzK 9 A=A:=u9 (by decide)
theorem vR{A:Prop}:SzK 10 A=A:=u9 (by decide)
theorem vQ{A:Prop}:SzK 11 A=A:=u9 (by decide)
theorem vP{A:Prop}:SzK 12 A=A:=u9 (by decide)
theorem jz{bs:List Bool}:Dj [.vl (bs.map D.bl)] M R=R (.bl (bs.any id)) M:=propext ⟨fun zz=>by
 obtain⟨_,bs',e,h,r⟩:=zz
 cases e
 have e2:bs.map D.bl=bs'.map D.bl:=Option.some.inj h
 have e3:bs=bs':=(Ks (fun a b z=>by injection z)).mp e2
 subst e3;exact r,fun r=>⟨_,bs,rfl,rfl,r⟩⟩
theorem lO{ds:List D}:E4 [.tup ds,.tup [.ty "tuple",.ty "list"]] M R=R (.bl true) M:=B6 rfl rfl
theorem lN{ds:List D}:E4 [.vl ds,.tup [.ty "tuple",.ty "list"]] M R=R (.bl true) M:=B6 rfl rfl
theorem lR{i:Int}:E4 [.int i,.tup [.ty "tuple",.ty "list"]] M R=R (.bl false) M:=B6 rfl rfl
theorem lQ:E4 [.non,.tup [.ty "tuple",.ty "list"]] M R=R (.bl false) M:=B6 rfl rfl
theorem lP{x:Str}:E4 [.str x,.tup [.ty "tuple",.ty "list"]] M R=R (.bl false) M:=B6 rfl rfl
theorem lU{b:Bool}:E4 [.bl b,.tup [.ty "tuple",.ty "list"]] M R=R (.bl false) M:=B6 rfl rfl
theorem aa:y9 [.dic,.ty "tuple"] M R=R (.bl false) M:=o9 rfl rfl
theorem bA:y9 [.dic,.ty "list"] M R=R (.bl false) M:=o9 rfl rfl
theorem dO:y9 [.dic,.ty "int"] M R=R (.bl false) M:=o9 rfl rfl
theorem bB:y9 [.dic,.ty "bool"] M R=R (.bl false) M:=o9 rfl rfl
theorem dN:y9 [.dic,.ty "str"] M R=R (.bl false) M:=o9 rfl rfl
theorem lS:E4 [.dic,.tup [.ty "tuple",.ty "list"]] M R=R (.bl false) M:=B6 rfl rfl
theorem lH{ds:List D}:E4 [.tup ds,.tup [.ty "list",.ty "tuple"]] M R=R (.bl true) M:=B6 rfl rfl
theorem lG{ds:List D}:E4 [.vl ds,.tup [.ty "list",.ty "tuple"]] M R=R (.bl true) M:=B6 rfl rfl
theorem lK{i:Int}:E4 [.int i,.tup [.ty "list",.ty "tuple"]] M R=R (.bl false) M:=B6 rfl rfl
theorem lJ:E4 [.non,.tup [.ty "list",.ty "tuple"]] M R=R (.bl false) M:=B6 rfl rfl
theorem lI{x:Str}:E4 [.str x,.tup [.ty "list",.ty "tuple"]] M R=R (.bl false) M:=B6 rfl rfl
theorem lM{b:Bool}:E4 [.bl b,.tup [.ty "list",.ty "tuple"]] M R=R (.bl false) M:=B6 rfl rfl
theorem lL:E4 [.dic,.tup [.ty "list",.ty "tuple"]] M R=R (.bl false) M:=B6 rfl rfl
def vB(x:D)(A:Prop):Prop:=∃ sk,x = .str sk∧A
theorem qI{x:Str}{A:Prop}:vB (.str x) A=A:=propext ⟨fun⟨_,_,a⟩=>a,fun a=>⟨_,rfl,a⟩⟩
theorem Z6{ds:List D}:y9 [.tup ds,.ty "tuple"] M R=R (.bl true) M:=o9 rfl rfl
theorem bp{ds:List D}:y9 [.tup ds,.ty "list"] M R=R (.bl false) M:=o9 rfl rfl
theorem dE{ds:List D}:y9 [.tup ds,.ty "int"] M R=R (.bl false) M:=o9 rfl rfl
theorem bq{ds:List D}:y9 [.tup ds,.ty "bool"] M R=R (.bl false) M:=o9 rfl rfl
theorem dD{ds:List D}:y9 [.tup ds,.ty "str"] M R=R (.bl false) M:=o9 rfl rfl
theorem Z5{ds:List D}:y9 [.vl ds,.ty "tuple"] M R=R (.bl false) M:=o9 rfl rfl
theorem bj{ds:List D}:y9 [.vl ds,.ty "list"] M R=R (.bl true) M:=o9 rfl rfl
theorem dB{ds:List D}:y9 [.vl ds,.ty "int"] M R=R (.bl false) M:=o9 rfl rfl
theorem bo{ds:List D}:y9 [.vl ds,.ty "bool"] M R=R (.bl false) M:=o9 rfl rfl
theorem dA{ds:List D}:y9 [.vl ds,.ty "str"] M R=R (.bl false) M:=o9 rfl rfl
theorem Z9{i:Int}:y9 [.int i,.ty "tuple"] M R=R (.bl false) M:=o9 rfl rfl
theorem bx{i:Int}:y9 [.int i,.ty "list"] M R=R (.bl false) M:=o9 rfl rfl
theorem dM{i:Int}:y9 [.int i,.ty "int"] M R=R (.bl true) M:=o9 rfl rfl
theorem bz{i:Int}:y9 [.int i,.ty "bool"] M R=R (.bl false) M:=o9 rfl rfl
theorem dJ{i:Int}:y9 [.int i,.ty "str"] M R=R (.bl false) M:=o9 rfl rfl
theorem Z8:y9 [.non,.ty "tuple"] M R=R (.bl false) M:=o9 rfl rfl
theorem bu:y9 [.non,.ty "list"] M R=R (.bl false) M:=o9 rfl rfl
theorem dI:y9 [.non,.ty "int"] M R=R (.bl false) M:=o9 rfl rfl
theorem bw:y9 [.non,.ty "bool"] M R=R (.bl false) M:=o9 rfl rfl
theorem dH:y9 [.non,.ty "str"] M R=R (.bl false) M:=o9 rfl rfl
theorem Z7{x:Str}:y9 [.str x,.ty "tuple"] M R=R (.bl false) M:=o9 rfl rfl
theorem br{x:Str}:y9 [.str x,.ty "list"] M R=R (.bl false) M:=o9 rfl rfl
theorem dG{x:Str}:y9 [.str x,.ty "int"] M R=R (.bl false) M:=o9 rfl rfl
theorem bt{x:Str}:y9 [.str x,.ty "bool"] M R=R (.bl false) M:=o9 rfl rfl
theorem dF{x:Str}:y9 [.str x,.ty "str"] M R=R (.bl true) M:=o9 rfl rfl
theorem ae{b:Bool}:y9 [.bl b,.ty "tuple"] M R=R (.bl false) M:=o9 rfl rfl
theorem bC{b:Bool}:y9 [.bl b,.ty "list"] M R=R (.bl false) M:=o9 rfl rfl
theorem dQ{b:Bool}:y9 [.bl b,.ty "int"] M R=R (.bl true) M:=o9 rfl rfl
theorem bD{b:Bool}:y9 [.bl b,.ty "bool"] M R=R (.bl true) M:=o9 rfl rfl
theorem dP{b:Bool}:y9 [.bl b,.ty "str"] M R=R (.bl false) M:=o9 rfl rfl
theorem zU:FW ta e M R=ta e M fun x M1=>DU x M1 R:=rfl
theorem S9{l:Addr}{ds:List D}{A:Prop}(h:M l=some (.lst ds))(a:A):LMK (.ref l) M A:=⟨⟨l,ds,rfl,h⟩,a⟩
theorem DX{l:Addr}{ds:List D}{v:D}(h:M l=some (.lst ds))(hz:ds.length<1000)(r:R .non (j9 M l (.lst (ds++[v])))):fT (.ref l) [v] M R:=⟨l,ds,v,rfl,rfl,h,IX hz (by decide),r⟩
theorem oq{p:Addr}{ds:List D}{j:Nat}{v:D}{Q:Mem→Prop}(h:M p=some (.lst ds))(hj:j<ds.length)(r:Q (j9 M p (.lst (ds.set j v)))):Au (.ref p) (.int (j:Int)) v M Q:=⟨p,ds,j,j,rfl,rfl,h,by unfold ixN;rw[if_pos (by omega),if_pos (by omega)];rfl,r⟩
theorem DV{l b:Addr}{ds es:List D}(h:M l=some (.lst ds))(hb:M b=some (.lst es))(hz:ds.length+es.length≤1000)(r:R .non (j9 M l (.lst (ds++es)))):nE (.ref l) [.ref b] M R:=⟨l,b,ds,es,rfl,rfl,h,hb,Jk hz (by decide),r⟩
theorem fL{α:Type}{xs ys:List α}(h:xs.map some=ys.map some):xs=ys:=(Ks (fun a b z=>Option.some.inj z)).mp h
theorem zM{neg:Bool}{a b c:Str}:gIn neg (.str a) (.vl [.str b,.str c]) M R=R (.bl (if neg then !(b == a || c == a)else(b == a || c == a))) M:=propext ⟨fun zz=>by
 obtain⟨v,ds,ws,e1,sq,e2,r⟩:=zz
 cases e1
 rw[D3]at sq
 subst sq
 have e3:ws=[.str b,.str c]:=(fL (xs:=[V.str b,V.str c]) e2).symm
 subst e3
 simpa[inV,eqV]using r,fun r=>⟨.str a,_,[.str b,.str c],rfl,.inr (.inr rfl),rfl,by simpa[inV,eqV]using r⟩⟩
theorem vH{x:D}{M1 M2:Mem}(h:∀ b o,M2 b=some o→M1 b=some o)(r:R x M2):DU x M1 R:=⟨M2,h,r⟩
theorem gr{l:Addr}{ds:List D}{v:D}(h:M l=some (.lst ds))(hz:ds.length<100000)(r:R .non (j9 M l (.lst (ds++[v])))):fT (.ref l) [v] M R:=⟨l,ds,v,rfl,rfl,h,IX hz (show 100000≤sizeLine by decide),r⟩
theorem mn{x:Str}{Y:DXK}{te:DTE}{F:E5}:uM x Y te F e M=te e M fun _ M1=>Y (xN x) M1:=rfl
theorem mD{sp:DSp}{Y:DXK}:uU sp Y tr e M R=tr e M fun ds M1=>sp (ds++[]) M1 R Y:=rfl
end
theorem jo{p:Str→Prop}:∀ x∈([]:List Str),p x:=fun _ h=>nomatch h
section
variable {e0:Ev} {g:DTG} {te:DTE} {tc:O9} {ds:List D} {stay:Mem→Prop} {M1:Mem} {E:List D→Mem→Prop}
theorem P9{α:Type}{xs:List α}{enc:α→D}(f:α→D)(hn:xs.length≤1000)(hst:stay M1)(step:∀ x∈xs,∀ Q:DK,Q (f x) M1→g (enc x) e0 M1 fun e2 M2=>te e2 M2 Q)(h:E (xs.map f) M1):∃ W,ox e0 g Dt te (xs.map enc) stay M1 E W:=by
 refine⟨fun i ys M=>M=M1∧ys=(xs.take i).map f,⟨⟨rfl,rfl⟩,fun i ys M _ w=>by rw[w.1];exact hst,fun i d ys M hd w=>?_,fun ys M w=>?_⟩⟩
 ·obtain⟨rfl,rfl⟩:=w
  rw[Ju]at hd
  cases hx:xs[i]? with
  | none=>rw[hx]at hd;cases hd
  | some x =>
   rw[hx]at hd
   obtain rfl:enc x=d:=by simpa using hd
   refine step x (JC hx) _ ⟨?_,rfl,?_⟩
   ·rw[IW,Jw]
    exact Kh (Jk (Lf _ _) hn) (by decide)
   ·obtain⟨hl,he⟩:=Jm.mp hx
    rw[JN hl,Jt,he];rfl
 ·obtain⟨rfl,rfl⟩:=w
  rw[IW,Kf];exact h
theorem V5{α:Type}{xs:List α}{enc:α→D}(p:α→Bool)(f:α→D)(hn:xs.length≤1000)(hst:stay M1)
  (step:∀ x∈xs,∀(Q:DK) (N:Prop),(p x=true→Q (f x) M1)→(p x=false→N)→g (enc x) e0 M1 fun e2 M2=>tc e2 M2 fun b M3=>IfK b (te e2 M3 Q) (M3=M1∧N)) (h:E ((xs.filter p).map f) M1):∃ W,ox e0 g tc te (xs.map enc) stay M1 E W:=by
 refine⟨fun i ys M=>M=M1∧ys=((xs.take i).filter p).map f,⟨⟨rfl,rfl⟩,fun i ys M _ w=>by rw[w.1];exact hst,fun i d ys M hd w=>?_,fun ys M w=>?_⟩⟩
 ·obtain⟨rfl,rfl⟩:=w
  rw[Ju]at hd
  cases hx:xs[i]? with
  | none=>rw[hx]at hd;cases hd
  | some x =>
   rw[hx]at hd
   obtain rfl:enc x=d:=by simpa using hd
   obtain⟨hl,he⟩:=Jm.mp hx
   have hle:(((xs.take i).filter p).map f).length<sizeLine:=by
    rw[IW]
    have h1:=List.length_filter_le p (xs.take i)
    rw[Jw]at h1
    exact Kh (Jk h1 (Jk (Lf _ _) hn)) (by decide)
   have hs:=step x (JC hx) (fun v M4=>(((xs.take i).filter p).map f).length<sizeLine∧M4=M∧((xs.take i).filter p).map f++[v]=((xs.take (i+1)).filter p).map f) (((xs.take i).filter p).map f=((xs.take (i+1)).filter p).map f)
    (fun hp=>⟨hle,rfl,by rw[JN hl,LP,Jt,he];simp[hp]⟩)
    (fun hp=>by rw[JN hl,LP,Jt,he];simp[hp])
   exact hs
 ·obtain⟨rfl,rfl⟩:=w
  rw[IW,Kf];exact h
end
section
variable {X:Cx} {pos:Pos}
theorem jc{x:Str}{j k:Nat}{ps:List Str}{sp:DSp}{p:Pos}{e:Expr}{es:List Expr}{t:DTA}(G:Fn X.prog X.w X.K X.mg X.base x j ps sp)(hr:z4 k X.A)(ha:JA X (e :: es) t)(hk:j≤k:=by decide)(hg:Gl X x:=by rfl)
  (hdb:(x == ("__debug__" : Str))=false:=by decide) (he:starEach (e :: es) X.env=(false,eval e X.env) :: starEach es X.env:=by rfl) (hpl:(backTo pos (starEach es X.env)).any (·.1)=false:=by rfl):JE X (.Call (.Name x p) (e :: es) [] pos) (nV sp [] Y0 t):=ug G (hr.mono hk) hg ha hdb he hpl
theorem jx{a b:Expr}{ta tb:DTE}(ha:JE X a ta)(hb:JE X b tb)(hs:bc b:=by exact fun _ _=>rfl):JE X (.Subscript a b pos) (dOp gIx ta tb):=Fu Fx ha hb hs
theorem jst(i:Nat){x:Str}{e:Expr}{tx:DTE}{q:Pos}(hN:X.N.Nodup)(he:JE X e tx)(hi:X.N[i]? = some x:=by rfl)(hx:Loc X.env.scope x:=by first|exact .inl rfl|exact .inr rfl)(hs:swapsWith e (some (.Name x q)) pos.line X.env=pure false:=by rfl)
  (hf:X.fn x=true∨X.env.scope.names.lookup x=some .local:=by first|exact .inl rfl|exact .inr rfl|assumption):JS X (.Assign [.Name x q] e pos) (uV tx (Y7 i)):=yd hN hi hx he hs hf
theorem jn(i:Nat){x:Str}(hN:X.N.Nodup)(hi:X.N[i]? = some x:=by rfl)(hx:Loc X.env.scope x:=by first|exact .inl rfl|exact .inr rfl)(hf:X.fn x=true∨X.env.scope.names.lookup x=some .local:=by first|exact .inl rfl|exact .inr rfl|assumption):JG X (.Name x pos) (Y7 i):=ua hN hi hx hf
theorem jm{op:CmpOp}{g:DR2}{a b:Expr}{ta tb:DTE}(ho:DOp X (compareOp op) g)(ha:JE X a ta)(hb:JE X b tb)(hm:behindInMarks op b=false:=by first|exact tP _|with_unfolding_all rfl):JE X (.Compare a [op] [b] pos) (dOp g ta tb):=CV ho ha hb hm
theorem jtm{op:CmpOp}{g:DR2}{a b:Expr}{ta tb:DTE}(ho:DOp X (compareOp op) g)(ha:JE X a ta)(hb:JE X b tb)(hm:behindInMarks op b=false:=by first|exact tP _|with_unfolding_all rfl):JT X (.Compare a [op] [b] pos) (ja (dOp g ta tb)):=ye ho ha hb hm
end
end DL
namespace GM
open PySem PySem.Spec L2 DL
open PyProof.Rows hiding St
noncomputable def g8(q:Rat):D:=.tup [.int q.num,.int (q.den:Int)]
theorem O3{q r:Rat}(h:g8 q=g8 r):q=r:=by
 unfold g8 at h
 injection h with h
 injection h with h1 h2
 injection h1 with h1
 injection h2 with h2 _
 injection h2 with h2
 exact Rat.ext h1 (by omega)
theorem i7{q r:Rat}:g8 q=g8 r↔q=r:=⟨O3,fun h=>by rw[h]⟩
structure y0(M:Mem)(p:Addr):Prop where
 ex:∃ x y z:Int,M p=some (.lst [.int x,.int y,.int z])
def MK(M M':Mem):Prop:=∀ b o,M b=some o→M' b=some o
theorem MK.refl(M:Mem):MK M M:=fun _ _ h=>h
theorem MK.trans{M M1 M2:Mem}(a:MK M M1)(b:MK M1 M2):MK M M2:=fun c o h=>b c o (a c o h)
theorem MK.new{M:Mem}{p:Addr}{o:MO}(h:M p=none):MK M (j9 M p o):=fun b u e=>by
 have:b≠p:=by intro z;subst z;rw[h]at e;cases e
 rw[e7 this];exact e
theorem MK.pool{M M':Mem}(k:MK M M'){p:Addr}(h:y0 M p):y0 M' p:=let ⟨x,y,z,e⟩:=h.ex;⟨x,y,z,k _ _ e⟩
structure z6(p:Addr)(M M':Mem):Prop where
 keep:∀ b o,b≠p→M b=some o→M' b=some o
 pool:y0 M' p
theorem z6.refl{p:Addr}{M:Mem}(h:y0 M p):z6 p M M:=⟨fun _ _ _ h=>h,h⟩
theorem z6.trans{p:Addr}{M M1 M2:Mem}(a:z6 p M M1)(b:z6 p M1 M2):z6 p M M2:=⟨fun c o n h=>b.keep c o n (a.keep c o n h),b.pool⟩
theorem z6.upd{p:Addr}{M:Mem}(x y z:Int):z6 p M (j9 M p (.lst [.int x,.int y,.int z])):=⟨fun b o n h=>by rw[e7 n];exact h,⟨x,y,z,d9⟩⟩
theorem y0.ne{M:Mem}{p l:Addr}(h:y0 M p)(hl:M l=none):l≠p:=by
 intro e;subst e;obtain⟨x,y,z,q⟩:=h.ex;rw[hl]at q;cases q
def jG:DSp:=fun ds M R _=>∃ c:Int,ds=[.int c]∧∀ p M',M p=none→MK M M'→y0 M' p→R (.ref p) M'
def bO:DSp:=fun ds M R _=>∃(p:Addr) (b:Int),ds=[.ref p,.int b]∧y0 M p∧0<b∧b.natAbs.log2<9000∧∀(r:Int) M',0≤r→r<b→z6 p M M'→R (.int r) M'
def rS:DSp:=fun ds M R _=>∃ a b:Int,ds=[.int a,.int b]∧b≠0∧b.natAbs.log2<9000∧R (g8 (Lc a b)) M
def bN:DSp:=fun ds M R _=>∃ p:Addr,ds=[.ref p]∧y0 M p∧∀(q:Rat) M',RM.sz q≤41→z6 p M M'→R (g8 q) M'
theorem FY:vK 10 18:=⟨by decide,by decide,by decide⟩
theorem FZ:vK 10 12:=⟨by decide,by decide,by decide⟩
theorem CK{a b:Int}(h1:-(2 ^ 64)<a)(h2:a<2 ^ 64):IntMulOk a b:=.of_left (intBits_le_64 h1 h2)
theorem GQ{x m k b:Int}(hm:0<m)(hm2:m<2 ^ 60)(hk:0≤k)(hk2:k<2 ^ 60):IntMulOk (x % m+k) b:=by
 have h1:=KI x (show m≠0 by omega)
 have h2:=Kt x hm
 exact CK (by omega) (by omega)
theorem Ft{x m b:Int}(hm:0<m)(hm2:m<2 ^ 60):IntMulOk (x % m) b:=by
 have h1:=KI x (show m≠0 by omega)
 have h2:=Kt x hm
 exact CK (by omega) (by omega)
theorem Hf{i:Int}:CFd i 8:=⟨by decide,by decide⟩
theorem yp{a b:Int}(hb:b≠0)(h:b.natAbs.log2<9000):((JK a.natAbs b.natAbs:Nat):Int).natAbs.log2<9000:=by
 have hp:0<b.natAbs:=Mz.mpr hb
 have hle:JK a.natAbs b.natAbs≤b.natAbs:=Nat.gcd_le_right _ hp
 have h1:b.natAbs<2 ^ 9000:=(Mm (by omega)).mp h
 rw[Jl]
 exact S1 (Kh hle h1) (by decide)
theorem Dd{a b:Int}(hb:b≠0):((JK a.natAbs b.natAbs:Nat):Int)≠0:=by
 have hp:0<b.natAbs:=Mz.mpr hb
 have:=Nat.gcd_pos_of_pos_right a.natAbs hp
 omega
theorem xY{a b s:Int}(hb:b≠0)(hs:s=if b<0 then -((JK a.natAbs b.natAbs:Nat):Int)else((JK a.natAbs b.natAbs:Nat):Int)){M:Mem}{R:DK}(k:R (g8 (Lc a b)) M) :
  R (.tup [.int (a.fdiv s),.int (b.fdiv s)]) M:=by
 obtain⟨h1,h2⟩:=RM.CL a b hb s hs
 rw[h1,h2];exact k
theorem kg{a b:Int}{n:Nat}(hn:0<n)(h1:a.natAbs<2 ^ n)(h2:b.natAbs<2 ^ n)(hb:b≠0):RM.sz (Lc a b)≤n :=
 Jk (RM.W5 a b hb) (LU.mpr ⟨RM.cM h1 hn,RM.cM h2 hn⟩)
end GM
namespace GM
open PySem PySem.Spec L2 DL
def mQ:DSp:=fun ds _ R _=>∃ ns:List Int,ds=[.vl (ns.map D.int)]∧ns.length≤63∧∀ M',R (.bl true) M'
end GM
namespace GM
open PySem PySem.Spec L2 DL
open RM (sz)
def W6:DSp:=fun ds M R _=>∃ a b:Nat,ds=[.int (a:Int),.int (b:Int)]∧R (.int ((JK a b:Nat):Int)) M
noncomputable def pS(q:Rat):Rat:=if 0≤q then q else -q
theorem vz(q:Rat):g8 (pS q) = .tup [.int (q.num.natAbs:Int),.int (q.den:Int)]:=by
 unfold pS g8
 have hz:0≤q↔0≤q.num:=LH.symm
 split
 ·rename_i h
  have:=hz.mp h
  rw[show q.num=(q.num.natAbs:Int)by omega];simp
 ·rename_i h
  have h':¬ 0≤q.num:=fun z=>h (hz.mpr z)
  rw[Mo,Mp,show -q.num=(q.num.natAbs:Int)by omega]
end GM
namespace GM
open RM (sz)
theorem nk(q:Rat){k:Nat}(h:sz q≤k):q.num.natAbs<2 ^ k:=IX (RM.cx _) (JD (by decide) (Jk (RM.bK q) h))
theorem nP(q:Rat){k:Nat}(h:sz q≤k):q.den<2 ^ k:=IX (RM.cx _) (JD (by decide) (Jk (RM.Q7 q) h))
end GM
namespace GM
open PySem PySem.Spec L2 DL
open RM (sz)
structure T2(S:Nat)(y u:Rat):Prop where
 y:sz y≤S
 u:sz u≤S
theorem sU(n:Int):g8 (n:Rat) = .tup [.int n,.int 1]:=by
 unfold g8
 rw[Ms,Mt];rfl
theorem Bx{n:Int}{k:Nat}(hk:0<k)(h:n.natAbs<2 ^ k):sz (n:Rat)≤k:=by
 refine RM.rM _ hk ?_ ?_
 ·rw[Ms];exact h
 ·rw[Mt];exact Nat.one_lt_two_pow (by omega)
theorem rP(q:Rat):sz (pS q)=sz q:=by
 unfold pS;split
 ·rfl
 ·exact RM.jF q
noncomputable def i5(x:Str × Rat):D:=.tup [.str x.1,g8 x.2]
structure p7(x:Str × Rat):Prop where
 kind:(x.1 = "gap" ∧ 0≤x.2)∨x.1 = "glass" ∨ (x.1 = "stop" ∧ 0<x.2)
 sz:RM.sz x.2≤41
theorem dY{x y:Str × Rat}(h:i5 x=i5 y):x=y:=by
 unfold i5 at h
 injection h with h
 injection h with h1 h2
 injection h1 with h1
 injection h2 with h2 _
 exact Prod.ext h1 (O3 h2)
theorem g9{x y:Str × Rat}:i5 x=i5 y↔x=y:=⟨dY,fun h=>by rw[h]⟩
theorem g6{xs ys:List (Str × Rat)}:xs.map i5=ys.map i5↔xs=ys:=Ks (fun _ _ h=>dY h)
noncomputable def N1(l:Rat × Rat × Rat):D:=.tup [g8 l.1,g8 l.2.1,g8 l.2.2]
theorem ef{x y:Rat × Rat × Rat}(h:N1 x=N1 y):x=y:=by
 unfold N1 at h
 injection h with h
 injection h with h1 h2
 injection h2 with h2 h3
 injection h3 with h3 _
 exact Prod.ext (O3 h1) (Prod.ext (O3 h2) (O3 h3))
theorem i0{x y:Rat × Rat × Rat}:N1 x=N1 y↔x=y:=⟨ef,fun h=>by rw[h]⟩
theorem g7{xs ys:List (Rat × Rat × Rat)}:xs.map N1=ys.map N1↔xs=ys:=Ks (fun _ _ h=>ef h)
theorem BO{p q r:Rat}:D.tup [g8 p,g8 q,g8 r]=N1 (p,q,r):=rfl
theorem lB{gs:V9}{l:Rat × Rat × Rat}{e:Ev}{M:Mem}{Q:Ev→Mem→Prop}:iZ 3 gs (N1 l) e M Q=gs [g8 l.1,g8 l.2.1,g8 l.2.2] e M Q:=bF rfl
theorem lF{l:Rat × Rat × Rat}{M:Mem}{R:DK}:gIx (N1 l) (.int 0) M R=R (g8 l.1) M:=bh
theorem lE{l:Rat × Rat × Rat}{M:Mem}{R:DK}:gIx (N1 l) (.int 1) M R=R (g8 l.2.1) M:=bg
theorem lC{l:Rat × Rat × Rat}{M:Mem}{R:DK}:gIx (N1 l) (.int 2) M R=R (g8 l.2.2) M:=jy
theorem qi{q:Rat}{M:Mem}{R:DK}:gIx (g8 q) (.int 0) M R=R (.int q.num) M:=bh
theorem qh{q:Rat}{M:Mem}{R:DK}:gIx (g8 q) (.int 1) M R=R (.int (q.den:Int)) M:=bg
theorem qg{gs:V9}{q:Rat}{e:Ev}{M:Mem}{Q:Ev→Mem→Prop}:iZ 2 gs (g8 q) e M Q=gs [.int q.num,.int (q.den:Int)] e M Q:=bF rfl
theorem qf{q:Rat}{M:Mem}{R:DK}:pC [g8 q] M R=R (.int 2) M:=my rfl
theorem lA{x:Str × Rat}{M:Mem}{R:DK}:gIx (i5 x) (.int 0) M R=R (.str x.1) M:=bh
theorem lu{x:Str × Rat}{M:Mem}{R:DK}:gIx (i5 x) (.int 1) M R=R (g8 x.2) M:=bg
theorem lr{gs:V9}{x:Str × Rat}{e:Ev}{M:Mem}{Q:Ev→Mem→Prop}:iZ 2 gs (i5 x) e M Q=gs [.str x.1,g8 x.2] e M Q:=bF rfl
theorem gG{q:Rat}{M:Mem}{R:DK}:y9 [g8 q,.ty "tuple"] M R=R (.bl true) M:=o9 rfl rfl
theorem dz{x:Str × Rat}{M:Mem}{R:DK}:y9 [i5 x,.ty "tuple"] M R=R (.bl true) M:=o9 rfl rfl
theorem lj{x:Str × Rat}{M:Mem}{R:DK}:pC [i5 x] M R=R (.int 2) M:=my rfl
theorem wD{q:Rat}:cl 60 (g8 q)=true:=rfl
theorem wF{q:Rat}:cl 59 (g8 q)=true:=rfl
theorem wG{q:Rat}:cl 58 (g8 q)=true:=rfl
theorem wH{q:Rat}:cl 57 (g8 q)=true:=rfl
theorem r0:D.tup [.int 0,.int 1]=g8 0:=rfl
theorem r1:D.tup [.int 1,.int 1]=g8 1:=rfl
theorem r2:D.tup [.int 2,.int 1]=g8 2:=rfl
theorem r4:D.tup [.int 4,.int 1]=g8 4:=rfl
theorem Fb{q:Rat}:D.tup [.int (q.num.natAbs:Int),.int (q.den:Int)]=g8 (pS q):=(vz q).symm
theorem EZ{q:Rat}:D.tup [.int (-q.num),.int (q.den:Int)]=g8 (-q):=by unfold g8;rw[Mo,Mp]
theorem BN{q:Rat}:D.tup [.int q.num,.int (q.den:Int)]=g8 q:=rfl
theorem rm2:D.tup [.int (-2),.int 1]=g8 (-2):=rfl
theorem rm1:D.tup [.int (-1),.int 1]=g8 (-1):=rfl
end GM
local macro_rules|`(tactic| walk_at "inj")=>`(tactic| (rename_i e h;simp only[List.cons.injEq,and_true,true_and,GM.i7,GM.g9,GM.g6,GM.i0,GM.g7,DL.D.tup.injEq,DL.D.ref.injEq,DL.D.int.injEq,DL.D.str.injEq,DL.D.bl.injEq,DL.D.vl.injEq,Jd,and_assoc]at e;(repeat(obtain⟨e1,e⟩:=e;subst e1));subst e;exact h))
local macro_rules|`(tactic| walk_at "injs")=>`(tactic| (rename_i e o h;rcases o with o|o<;>(subst o;first|(exfalso;simp only[DL.D.tup.injEq,List.cons.injEq,reduceCtorEq,false_and,and_false]at e;done)|(simp only[List.cons.injEq,and_true,true_and,GM.i7,GM.g9,GM.g6,GM.i0,GM.g7,DL.D.tup.injEq,DL.D.ref.injEq,DL.D.int.injEq,DL.D.str.injEq,DL.D.bl.injEq,DL.D.vl.injEq,Jd,and_assoc]at e;(repeat(obtain⟨e1,e⟩:=e;subst e1));subst e;exact h))))
namespace GM
open PySem PySem.Spec L2 DL
open RM (sz)
theorem Z4{a b:Nat}{M:Mem}{R:DK}{Y:DXK}:W6 [.int (a:Int),.int (b:Int)] M R Y=(R (.int ((JK a b:Nat):Int)) M):=propext ⟨fun z=>by obtain⟨_,_,_,_⟩:=z;walk_at "inj",fun h=>⟨a,b,rfl,h⟩⟩
theorem kK{a b:Int}{M:Mem}{R:DK}{Y:DXK}:rS [.int a,.int b] M R Y=(b≠0∧b.natAbs.log2<9000∧R (g8 (Lc a b)) M):=propext ⟨fun z=>by obtain⟨_,_,_,_⟩:=z;walk_at "inj",fun h=>⟨a,b,rfl,h⟩⟩
theorem gu{c:Int}{M:Mem}{R:DK}{Y:DXK}:jG [.int c] M R Y=(∀ p M',M p=none→MK M M'→y0 M' p→R (.ref p) M'):=propext ⟨fun z=>by obtain⟨_,_,_⟩:=z;walk_at "inj",fun h=>⟨c,rfl,h⟩⟩
theorem gv{p:Addr}{b:Int}{M:Mem}{R:DK}{Y:DXK}:bO [.ref p,.int b] M R Y=(y0 M p∧0<b∧b.natAbs.log2<9000∧∀(r:Int) M',0≤r→r<b→z6 p M M'→R (.int r) M'):=propext ⟨fun z=>by obtain⟨_,_,_,_⟩:=z;walk_at "inj",fun h=>⟨p,b,rfl,h⟩⟩
theorem bf{p:Addr}{M:Mem}{R:DK}{Y:DXK}:bN [.ref p] M R Y=(y0 M p∧∀(q:Rat) M',RM.sz q≤41→z6 p M M'→R (g8 q) M'):=propext ⟨fun z=>by obtain⟨_,_,_⟩:=z;walk_at "inj",fun h=>⟨p,rfl,h⟩⟩
theorem p7.app{xs:List (Str × Rat)}{x:Str × Rat}(h:∀ z∈xs,p7 z)(hx:p7 x):∀ z∈xs++[x],p7 z:=fun z hz=>by
 rcases JF.mp hz with z1|z1
 ·exact h z z1
 ·rw[JY.mp z1];exact hx
theorem z6.put{p l:Addr}{M M':Mem}{o:MO}(h:z6 p M M')(hl:M l=none)(hp:l≠p):z6 p M (j9 M' l o):=⟨fun b u hb e=>by
  rw[e7 (by intro z;subst z;rw[hl]at e;cases e)];exact h.keep b u hb e,by
  obtain⟨x,y,z,e⟩:=h.pool.ex
  exact⟨x,y,z,by rw[e7 (Ne.symm hp)];exact e⟩⟩
theorem z6.del{p l:Addr}{M M':Mem}(h:z6 p M M')(hl:M l=none)(hp:l≠p):z6 p M (Y9 M' l):=⟨fun b u hb e=>by
  rw[A9 (by intro z;subst z;rw[hl]at e;cases e)];exact h.keep b u hb e,by
  obtain⟨x,y,z,e⟩:=h.pool.ex
  exact⟨x,y,z,by rw[A9 (Ne.symm hp)];exact e⟩⟩
theorem uW{ds:List D}{n:Nat}:Z0 ds none (some (n:Int))=ds.take n:=by
 unfold Z0 HT.sIx
 simp only[MA,LY]
 rw[if_neg (by omega)]
 by_cases h:n≤ds.length
 ·congr 1;omega
 ·rw[JV (by omega),JV (by omega)]
end GM
set_option maxHeartbeats 1000000
namespace L2
open PySem PySem.Spec PySem.W PyProof.Rows
def cN(a C:Addr)(h:Heap):Prop:=∃ o,h.get? a=some o∧o.cls = .ref C
section
variable {prog:Program} {w:World} {A:Around} {E:Value→Shared→Prop} {s:Shared} {K:Frag} {a C:Addr}
theorem cN.type{M:Model}{h:Heap}(I:cN a C h):Looks M h (typeOf (.ref a)) (.ref C):=by
 obtain⟨o,h1,h2⟩:=I
 exact h2▸(Looks.ld h1).andThen .now
theorem uB{M:Model}{h:Heap}(X:K.In h)(ha:findIn K (.ref C) "__class__" = some (some (.builtin "object.__class__")))(hn:specialIn K (.builtin "object.__class__") "__get__" = some (some (.builtin "getset_descriptor.__get__")))(ht:takesIn K (.builtin "object.__class__")=some true) :
  Looks M h (Builtin.ObjectAttr.find (.ref a) (.ref C) "__class__") (.bind (.builtin "getset_descriptor.__get__") (.builtin "object.__class__")):=by
 have L3:=looks_takesIn (M:=M) X ht
 exact(looks_findIn X ha).andThen ((looks_specialIn X hn).andThen ((show Looks M h (Builtin.ObjectAttr.dataDescriptor? (some (.builtin "object.__class__")) (some (.builtin "getset_descriptor.__get__"))) (some (.builtin "getset_descriptor.__get__",.builtin "object.__class__"))from L3.andThen .now).andThen (Looks.tag .now)))
theorem yo{R:Result→Shared→Prop}{tp:Value}(X:K.In s.heap)(I:cN a C s.heap)(hm:mroIn K C (.type "object")=some true)
  (h:R (.ok (.ret (.ref C))) s):codeAny (model prog w) A (.call (.builtin "getset_descriptor.__get__") ⟨[.builtin "object.__class__",.ref a,tp],[]⟩) R s:=by
 obtain⟨hh,g,dr,t,os⟩:=s
 have L0:=I.type (M:=model prog w)
 have L1:Looks (model prog w) hh (isSubtype (.ref C) (.type (".".intercalate ("object.__class__".cutAt '.').dropLast))) true:=by
  have e0 : "object.__class__".cutAt '.'=["object","__class__"]:=by first|rfl|decide +kernel
  rw[e0,show ".".intercalate (["object","__class__"]:List String).dropLast = "object" by decide +kernel];exact looks_mroIn (M:=model prog w) X hm
 refine codeAny_call_builtin F.slot_gs_get.plain F.entry_gs_get (F.slot_gs_get.check _ _ _ _ _ _ _ _ F.typeOf_object_class (F.args_gs_get _ _ _) ?_)
 repeat(any_goals (first|assumption|with_reducible refine L0.at ?_|with_reducible refine L1.at ?_|wp_step))
 refine⟨Code.quiet_builtin _ (by decide +kernel),codeAny_builtin F.entry_object_class ?_⟩
 repeat(any_goals (first|assumption|with_reducible refine L0.at ?_|wp_step))
theorem pE{tk:Tok}{Q:Fin→Shared→Prop}(X:K.In s.heap)(I:cN a C s.heap)(ha:findIn K (.ref C) "__class__" = some (some (.builtin "object.__class__")))(hn:specialIn K (.builtin "object.__class__") "__get__" = some (some (.builtin "getset_descriptor.__get__")))(ht:takesIn K (.builtin "object.__class__")=some true)
  (hm:mroIn K C (.type "object")=some true) (h:Q (.done (.ret (.ref C))) s):wpAny (model prog w) A (Builtin.«object.__getattribute__» ⟨[.ref a,.str "__class__" tk],[]⟩) Q E s:=by
 obtain⟨hh,g,d,t,os⟩:=s
 have L0:=I.type (M:=model prog w)
 have L2:=uB (M:=model prog w) (a:=a) X ha hn ht
 unfold Builtin.«object.__getattribute__»
 repeat(any_goals (first|assumption|with_reducible refine L0.at ?_|with_reducible refine L2.at ?_|wp_step))
 exact yo X I hm (Jf h)
theorem pF{nameV:Value}{M:Model}{Q:Unit→Shared→Prop}(X:K.In s.heap)(I:cN a C s.heap)(hb:mroIn K C (.type "BaseException")=some true)(h:Q () s):wpAny M A (checkBuiltinCall "BaseException.__getattribute__" ⟨[.ref a,nameV],[]⟩) Q E s:=by
 have hk:builtinKind "BaseException.__getattribute__" = some .slot:=by decide +kernel
 have hsplit:splitId "BaseException.__getattribute__" = some ("BaseException","__getattribute__"):=by decide +kernel
 have ha:=F.args_bexc_ga (.ref a) nameV
 have L0:=I.type (M:=M)
 have L3:=looks_mroIn (M:=M) X hb
 obtain⟨hh,g,d,t,os⟩:=s
 simp only[checkBuiltinCall,hk,hsplit]
 refine IU ?_
 ·unfold isInstance
  repeat(any_goals (first|assumption|with_reducible refine L0.at ?_|with_reducible refine L3.at ?_|wp_step))
structure ExK(K:Frag)(C:Addr):Prop where
 cd:(clsIn K C).isSome=true
 ga:findIn K (.ref C) "__getattribute__" = some (some (.builtin "BaseException.__getattribute__"))
 gt:findIn K (.ref C) "__getattr__" = some none
 ca:findIn K (.ref C) "__class__" = some (some (.builtin "object.__class__"))
 cn:specialIn K (.builtin "object.__class__") "__get__" = some (some (.builtin "getset_descriptor.__get__"))
 ct:takesIn K (.builtin "object.__class__")=some true
 mo:mroIn K C (.type "object")=some true
 mb:mroIn K C (.type "BaseException")=some true
theorem uC{Q:Option Value→Shared→Prop}(Z:ExK K C)(X:K.In s.heap)(I:cN a C s.heap)(h:Q (some (.ref C)) { s with toks:=s.toks+1 }):wpAny (model prog w) A (getAttr? (.ref a) "__class__") Q E s:=by
 obtain⟨hh,g,d,t,os⟩:=s
 have L0:=I.type (M:=model prog w)
 have L1:=looks_findIn (M:=model prog w) X Z.ga
 have L4:=looks_findIn (M:=model prog w) X Z.gt
 have f3:=F.excAttr_ValueError.ga.bind (.ref a)
 have hx2:(Value.builtin "BaseException.__getattribute__" == Value.builtin "object.__getattribute__")=false:=by decide +kernel
 have hx1:(onTheHeap (Value.ref C) && Value.builtin "BaseException.__getattribute__" == Value.builtin "object.__getattribute__")=false:=by rw[hx2];rfl
 unfold getAttr? getAttrBy? getAttrBy
 refine IU (wpAny_mkText (IU (wpAny_attempt (wpAny_holding (IU (L0.at (IU (L1.at ?_))))))))
 show wpAny _ _ (if (onTheHeap (Value.ref C) && Value.builtin "BaseException.__getattribute__" == Value.builtin "object.__getattribute__")=true then _ else getAttrByItsOwn _ _ _ _ _ _) _ _ _
 rw[hx1,if_neg (by decide)]
 unfold getAttrByItsOwn
 repeat(any_goals (first|assumption|with_reducible refine L0.at ?_|with_reducible refine L4.at ?_|wp_step))
 refine codeAny_call_builtin F.excAttr_ValueError.ga.plain F.entry_bexc_ga (pF (s:=⟨hh,g,d,t+1,os⟩) X I Z.mb (pE (s:=⟨hh,g,d,t+1,os⟩) X I Z.ca Z.cn Z.ct Z.mo ?_))
 show wpAny _ A (handedOut (.ref C)) _ _ _
 exact handed_on rfl (Jf h)
theorem nN(Z:ExK K C):KitX K (.ref a) (.ref C) (cN a C) where
 ty:=fun _ _ _ I=>I.type
 it:=fun _ _ X _=>by
  obtain⟨cdD,hcD⟩:=Kr.mp Z.cd
  unfold clsIn at hcD
  split at hcD
  ·rename_i ho
   intro A' Q' E' s' k q
   unfold isType loadHead
   exact IU (wpAny_loadPart (k _ _ (X _ _ ho)) (Jf q))
  ·cases hcD
 ne:=fun h tp dd its n sl X htp=>by
  obtain⟨cdD,hcD⟩:=Kr.mp Z.cd
  refine Bool.eq_false_iff.mpr fun q=>?_
  obtain rfl:C=tp:=Value.ref.inj (beq_iff_eq.mp q)
  unfold clsIn at hcD
  split at hcD
  ·rename_i ho
   have z:=(X _ _ ho).symm.trans htp
   cases z
  ·cases hcD
 ca:=fun X I k=>uC Z X I k
end
end L2
namespace DL
open PySem PySem.Spec L2
open PyProof.Rows hiding St
section
variable {X:Cx} {pins:List (Addr × Obj)} {σ:St} {H:Hp} {s:Shared}
theorem aV{M:Model}{A:Around}{E:Value→Shared→Prop}{i:Nat}{x:Str}{pos:Pos}{Q:Unit→Shared→Prop}(I:Inv X pins σ H s)(hN:X.N.Nodup)(hi:X.N[i]? = some x)(hk:X.env.kindOf x=some .local)
  (h:∀ s',Inv X pins (σ.set i none) H s'→Q () s'):wpAny M A (do bindName X.env x .none;unbindBehindTheSuite X.env x pos) Q E s:=by
 obtain⟨m,hn,hl⟩:=id I.loc
 have hcls:(X.env.scope.kind == .class || (X.env.scope.kind == .module && X.env.locals != X.env.globals))=false:=by rw[I.ok.kind];rfl
 have hiσ:i<σ.length:=by rw[I.len];exact(Jm.mp hi).1
 have cne:=I.cne
 have tracked:∀{a:Addr} {h':Heap},(∃ o,s.heap.get? a=some o∧H a=none)→Heap.SameBut a s.heap h'→HOk X.prog X.w H h':=fun{a h'} ha hs b ob e=>by
  obtain⟨_,_,hfree⟩:=ha
  refine(I.hok b ob e).stay (fun c w' hc q=>(hs.2 c ?_).trans q) (fun _ q=>q) fun _ _ q=>q
  rintro rfl
  rcases hc with rfl|hc
  ·rw[hfree]at e;cases e
  ·rw[hfree]at hc;cases hc
 refine wpAny_nameGoes_keeps hk hn (by exact hcls) fun h' v hn' hs=>?_
 obtain⟨oL,_,_,hoL,_⟩:=id hn
 refine h { s with heap:=h',toks:=s.toks+1 } ⟨I.ok,I.os,I.bare,⟨fun b o e n hb hx=>?_,fun b o e n hb hx=>?_,I.base.free,fun b o e hx=>?_,I.base.tups,I.base.frzs,I.base.tbls⟩,⟨_,hn',fun j y v' e1 e2 e3=>?_⟩,fun y c e=>?_,I.free,I.freeC,fun p hp=>?_,tracked ⟨oL,hoL,I.free⟩ hs,by simpa using I.len⟩
 ·exact(hs.2 b (Jr (IX (Jb e) I.ok.above))).trans (I.base.keep b o e n hb hx)
 ·obtain⟨sl,e1⟩:=I.base.slot b o e n hb hx
  exact⟨sl,(hs.2 b (Jr (IX (Jb e) I.ok.above))).trans e1⟩
 ·obtain⟨o',e1⟩:=I.base.there b o e hx
  exact⟨o',(hs.2 b (Jr (IX (Jb e) I.ok.above))).trans e1⟩
 ·by_cases hj:j=i
  ·subst hj
   rw[Kv hiσ]at e2
   cases e2
  ·rw[KC (Ne.symm hj)]at e2
   obtain⟨u',r',q⟩:=hl j y v' e1 e2 e3
   refine⟨u',r',?_⟩
   rcases q with⟨k,e⟩|⟨k,c,e,z⟩
   ·refine .inl ⟨k,?_⟩
    have:y≠x:=fun e=>hj (cu hN e1 (e▸hi))
    simp[this,e]
   ·exact .inr ⟨k,c,e,z.sameBut hs (cne y c e)⟩
 ·obtain⟨w',z⟩:=I.cell y c e
  exact⟨w',z.sameBut hs (cne y c e)⟩
 ·obtain⟨e,n,ne,nf,d⟩:=I.pin p hp
  exact⟨(hs.2 p.1 ne).trans e,n,ne,nf,d⟩
theorem ko{Hc H':Hp}{sc s1:Shared}{B:Heap}{a:Addr}{cls a0:Value}{h':Heap}{ob:Obj}(I:Inv X pins σ Hc sc)(ho:s1.os=sc.os)(hg:AllBare s1.gens)(un:Un (frs X.stack) [] Hc H' sc.heap s1.heap)(hok:HOk X.prog X.w H' s1.heap)
  (cov:Cov B sc.heap H' (frs X.stack) s1.heap) (fl:Air B X.stack a cls a0 s1.heap) (st:B.StaysIn h') (ups:s1.heap.UpToSlots h') (hob:h'.get? a=some ob) :
  H' a=none∧Inv X pins σ (upd H' a (.frz ob (.own 0))) { s1 with heap:=h' }:=by
 have fre:∀ b∈frs X.stack,H' b=none:=fun b hb=>by
  obtain⟨_,o,hob,_⟩:=I.stack.mem hb
  exact un.free b o hob (I.stkFree b hb) (by simp)
 have trk:∀ b u,H' b=some u→b∉frs X.stack:=fun b u q hm=>by rw[fre b hm]at q;cases q
 obtain⟨oa,vs,ha,hda⟩:=fl.data
 have nst:a∉frs X.stack:=fun hm=>by
  obtain⟨_,o',ho',hnf⟩:=fl.frames.mem hm
  rw[ha]at ho'
  injection ho' with ho'
  subst ho'
  exact hnf _ hda
 have nH:H' a=none:=by
  cases e:H' a with
  | none=>rfl
  | some u =>
   have:=cov a oa ha (.inl ⟨u,e⟩) nst
   rw[fl.base.2]at this;cases this
 have nsc:sc.heap.get? a=none:=by
  cases e:sc.heap.get? a with
  | none=>rfl
  | some u =>
   have:=cov a oa ha (.inr ⟨u,e⟩) nst
   rw[fl.base.2]at this;cases this
 have keepB:∀ b o,s1.heap.get? b=some o→((∃ u,H' b=some u) ∨ ∃ o0,sc.heap.get? b=some o0)→b∉frs X.stack→h'.get? b=some o:=fun b o q c nm=>st b o (cov b o q c nm)
 have slotB:∀ b o,s1.heap.get? b=some o→b∈frs X.stack→∃ sl,h'.get? b=some { o with slots:=sl }:=fun b o q hm=>by
  obtain⟨_,o',ho',hnf⟩:=fl.frames.mem hm
  have e:o=o':=Option.some.inj (q.symm.trans ho')
  subst e
  exact ups b o q hnf
 have ne1:∀{b u},H' b=some u→b≠a:=fun{b u} e z=>by rw[z,nH]at e;cases e
 have ne2:∀{b o},sc.heap.get? b=some o→b≠a:=fun{b o} e z=>by rw[z,nsc]at e;cases e
 have un':Un (frs X.stack) [] Hc (upd H' a (.frz ob (.own 0))) sc.heap h':=⟨fun b o q n hb hx=>keepB b o (un.keep b o q n hb hx) (.inr ⟨o,q⟩) hb,fun b o q n hb hx=>by
   obtain⟨sl,z⟩:=un.slot b o q n hb hx
   obtain⟨sl2,z2⟩:=slotB b _ z hb
   exact⟨sl2,z2⟩,fun b o q n hx=>by rw[i3 (ne2 q)];exact un.free b o q n hx,fun b o q hx=>by
   obtain⟨o1,z⟩:=un.there b o q hx
   by_cases hm:b∈frs X.stack
   ·obtain⟨sl,z2⟩:=slotB b _ z hm;exact⟨_,z2⟩
   ·exact⟨_,keepB b _ z (.inr ⟨o,q⟩) hm⟩,fun b xs e=>by have:=un.tups b xs e;rw[i3 (ne1 this)];exact this,fun b o u e=>by have:=un.frzs b o u e;rw[i3 (ne1 this)];exact this,fun b ps e=>by
   obtain⟨qs,this⟩:=un.tbls b ps e
   exact⟨qs,by rw[i3 (ne1 this)];exact this⟩⟩
 refine⟨nH,I.call' (s':={ s1 with heap:=h' }) ho un' (fun b u q=>?_) hg fun b hb=>by cases hb⟩
 by_cases hba:b=a
 ·subst hba
  rw[j4]at q
  cases q
  exact⟨hob,⟨_,hob⟩⟩
 ·rw[i3 hba]at q
  refine(hok b u q).stay (fun c v hc q2=>?_) (fun c z=>?_) fun c xs z=>?_
  ·rcases hc with rfl|hc
   ·exact keepB c v q2 (.inl ⟨u,q⟩) (trk c u q)
   ·exact keepB c v q2 (.inl ⟨_,hc⟩) (trk c _ hc)
  ·rw[i3 (ne1 z)];exact z
  ·rw[i3 (ne1 z)];exact z
end
theorem fV{K:IT}{H:Hp}{σ:St}{e:Ev}(h:t9 K H σ e)(i:Nat):t9 K H (σ.set i none) (e.set i none):=by
 refine⟨by simp[h.len],fun j x z=>?_⟩
 rw[LV]at z ⊢
 by_cases q:i=j
 ·subst q
  rw[if_pos rfl]at z
  split at z<;>cases z
 ·rw[if_neg q]at z ⊢
  exact h.has j x z
noncomputable def tH(i:Nat)(F:E5):E5:={ nx:=fun e M=>F.nx (e.set i none) M,rt:=F.rt,bk:=fun e M=>F.bk (e.set i none) M,ct:=fun e M=>F.ct (e.set i none) M }
noncomputable def CB(i:Nat)(D:T4):T4:={ nx:=fun σ H=>D.nx (σ.set i none) H,rt:=D.rt,bk:=fun σ H=>D.bk (σ.set i none) H,ct:=fun σ H=>D.ct (σ.set i none) H }
theorem yv{K:IT}{H:Hp}{F:E5}{D:T4}(h:Fit K H F D)(i:Nat):Fit K H (tH i F) (CB i D) :=
 ⟨fun _ M r _ H2 k a b=>h.nx _ M r _ H2 k a (fV b i),h.rt,fun _ M r _ H2 k a b=>h.bk _ M r _ H2 k a (fV b i),fun _ M r _ H2 k a b=>h.ct _ M r _ H2 k a (fV b i)⟩
structure TkN(K:IT)(mg:Str→Option Value)(c x:Str):Prop where
 ex:∃ Cc Cx,mg c=some (.ref Cc)∧mg x=some (.ref Cx)∧PySem.W.nsIn K mainGlobals x=some (some (.ref Cx))∧PySem.W.exmOne K (.ref Cx) (.ref Cc)=some true
theorem eD{K:IT}{mg:Str→Option Value}{h:Heap}{c x:Str}{Cc Cx:Addr}(X:K.In h)(G:h.Ns mainGlobals mg)(n:PySem.W.nsIn K mainGlobals c=some (some (.ref Cc)))(m:PySem.W.nsIn K mainGlobals x=some (some (.ref Cx)))(q:PySem.W.exmOne K (.ref Cx) (.ref Cc)=some true):TkN K mg c x :=
 ⟨Cc,Cx,PySem.W.mg_of X G n,PySem.W.mg_of X G m,m,q⟩
section
variable {X:Cx} {body suite:List Stmt} {b0:Stmt} {c n:Str} {np hpos pos:Pos} {tb:DXK→DTS} {ts:DTS} {i:Nat}
theorem yk{pins:List (Addr × Obj)}{D:T4}{s:Shared}{M:Model}{A:Around}{E:Value→Shared→Prop}(hN:X.N.Nodup)(hi:X.N[i]? = some n)(hk:X.env.kindOf n=some .local):∀{f:Flow},SP X pins (CB i D) f s→wpAny M A (do bindName X.env n .none;unbindBehindTheSuite X.env n hpos) (fun _ s'=>SP X pins D f s') E s
 | .next,⟨σ',H',I,q⟩=>aV I hN hi hk fun _ I'=>⟨_,H',I',q⟩
 | .brk,⟨σ',H',I,q⟩=>aV I hN hi hk fun _ I'=>⟨_,H',I',q⟩
 | .cont,⟨σ',H',I,q⟩=>aV I hN hi hk fun _ I'=>⟨_,H',I',q⟩
 | .ret _,⟨v,σ',H',I,r,q⟩=>aV I hN hi hk fun _ I'=>⟨v,_,H',I',r,q⟩
end
theorem rF{K:IT}{mg:Str→Option Value}{c:Str}:∀ x∈([]:List Str),TkN K mg c x:=fun _ h=>by cases h
theorem P0{K:IT}{mg:Str→Option Value}{c y:Str}{ys:List Str}(h:TkN K mg c y)(hs:∀ x∈ys,TkN K mg c x):∀ x∈y :: ys,TkN K mg c x:=fun x hx=>by
 rcases Jj.mp hx with rfl|hx
 ·exact h
 ·exact hs x hx
end DL
namespace L2
open PySem PySem.Spec PySem.W PyProof.Rows
section
variable {X:Cx}
def IsX(K:Frag)(u:Value)(tab:List (Str × Bool)):Prop:=∀ p∈tab,∃ C,nsIn K mainGlobals p.1=some (some (.ref C))∧ExK K C∧kitOne K (.ref C) u=some p.2
def IsT(K:Frag)(us:List Value)(tab:List (Str × Bool)):Prop:=∀ p∈tab,∃ C,nsIn K mainGlobals p.1=some (some (.ref C))∧ExK K C∧kitAny K (.ref C) us=some p.2
def Exc(K:Frag)(H:Hp)(a:Addr)(x:Str):Prop:=∃(o:Obj) (C:Addr),H a=some (.frz o (.own 0))∧o.cls = .ref C∧nsIn K mainGlobals x=some (some (.ref C))
theorem uX{v2:V}{u2:Value}{tab:List (Str × Bool)}(Z:IsX X.K u2 tab)(hv:∀ u,o8 v2 u→u=u2):u8 X (.builtin "isinstance") (fun xs H Q=>∃ a x b,xs=[.ref a,v2]∧Exc X.K H a x∧(x,b)∈tab∧Q (.bl b) H):=by
 intro pins s σ H xs us Q I rv h
 obtain⟨a,x,b,rfl,⟨o,C,hH,ho,hn⟩,ht,q⟩:=h
 obtain⟨u,w,rfl,r1,r2⟩:=rv.two
 cases r1
 have:=hv w r2
 subst this
 obtain⟨C',hn',Zx,e⟩:=Z _ ht
 have ec:C=C':=by
  have:=hn.symm.trans hn'
  injection this with this;injection this with this;injection this
 subst ec
 exact kia_one (nN Zx) I.kIn ⟨o,(I.hok _ _ hH).1,ho⟩ e (fun z=>nomatch z) fun tk=>⟨.bl b,H,I.tok tk,rfl,q⟩
theorem Dz{us2:List Value}{vs:List V}{tab:List (Str × Bool)}(Z:IsT X.K us2 tab)(hv:∀ us,i9 vs us→us=us2):u8 X (.builtin "isinstance") (fun xs H Q=>∃ a p x b,xs=[.ref a,.ref p]∧Exc X.K H a x∧H p=some (.tup vs)∧(x,b)∈tab∧Q (.bl b) H):=by
 intro pins s σ H xs us Q I rv h
 obtain⟨a,p,x,b,rfl,⟨o,C,hH,ho,hn⟩,hp,ht,q⟩:=h
 obtain⟨u,w,rfl,r1,r2⟩:=rv.two
 cases r1
 cases r2
 obtain⟨C',hn',Zx,e⟩:=Z _ ht
 have ec:C=C':=by
  have:=hn.symm.trans hn'
  injection this with this;injection this with this;injection this
 subst ec
 obtain⟨its,rs,⟨⟨cls,dd,data,sl⟩,hop,hcp,hdp⟩,_⟩:=I.tuple (.inl (.inl hp))
 have:=hv _ rs
 subst this
 obtain⟨n,hdp⟩:=hdp
 simp only at hcp hdp
 subst hcp hdp
 exact kia_tup (nN Zx) I.kIn ⟨o,(I.hok _ _ hH).1,ho⟩ hop e (fun z=>nomatch z) fun tk=>⟨.bl b,H,I.tok tk,rfl,q⟩
theorem tD{c:Str}{C:Addr}{pos:Pos}(hg:Gl X c)(hm:X.mg c=some (.ref C))(hd:(c == ("__debug__" : Str))=false:=by decide):PE X (.Name c pos) (tC (.ref C)):=fun pins s σ H Q I h=>P4 I hg hm ⟨.ref C,H,I,rfl,h⟩ hd
end
end L2
namespace DL
open PySem PySem.Spec L2
open PyProof.Rows hiding St
theorem dh:bootBuiltins "ValueError" = some (.type "ValueError"):=by decide +kernel
structure kJ(K:IT)(x:Str):Prop where
 ex:∃ C,PySem.W.nsIn K mainGlobals x=some (some (.ref C))∧L2.ExK K C
open PySem.W in
theorem aX{K:IT}{x:Str}{C:Addr}(n:nsIn K mainGlobals x=some (some (.ref C)))(ga:findIn K (.ref C) "__getattribute__" = some (some (.builtin "BaseException.__getattribute__")))(gt:findIn K (.ref C) "__getattr__" = some none)(ca:findIn K (.ref C) "__class__" = some (some (.builtin "object.__class__")))
  (cn:specialIn K (.builtin "object.__class__") "__get__" = some (some (.builtin "getset_descriptor.__get__"))) (ct:takesIn K (.builtin "object.__class__")=some true) (mo:mroIn K C (.type "object")=some true) (mb:mroIn K C (.type "BaseException")=some true):kJ K x :=
 ⟨C,n,⟨by obtain⟨cd,a,b⟩:=Option.bind_eq_some_iff.mp mo;rw[a];rfl,ga,gt,ca,cn,ct,mo,mb⟩⟩
def jw(K:IT)(tab:List (Str × Bool)):Prop:=∀ p∈tab,kJ K p.1
theorem M8{K:IT}:jw K []:=fun _ h=>by cases h
theorem j7{K:IT}{x:Str}{b:Bool}{tab:List (Str × Bool)}(h:kJ K x)(hs:jw K tab):jw K ((x,b) :: tab):=fun p hp=>by
 rcases Jj.mp hp with rfl|hp
 ·exact h
 ·exact hs p hp
def IsR(K:IT)(us:List Value)(tab:List (Str × Bool)):Prop:=∀ p∈tab,∃ C,PySem.W.nsIn K mainGlobals p.1=some (some (.ref C))∧PySem.W.kitAny K (.ref C) us=some p.2
theorem L7{K:IT}{us:List Value}:IsR K us []:=fun _ h=>by cases h
theorem j6{K:IT}{us:List Value}{x:Str}{b:Bool}{C:Addr}{tab:List (Str × Bool)}(n:PySem.W.nsIn K mainGlobals x=some (some (.ref C)))(q:PySem.W.kitAny K (.ref C) us=some b)(hs:IsR K us tab):IsR K us ((x,b) :: tab):=fun p hp=>by
 rcases Jj.mp hp with rfl|hp
 ·exact⟨C,n,q⟩
 ·exact hs p hp
theorem Aq{K:IT}{us:List Value}{tab:List (Str × Bool)}(h:IsR K us tab)(e:jw K tab):L2.IsT K us tab:=fun p hp=>by
 obtain⟨C,n,q⟩:=h p hp
 obtain⟨C',n',z⟩:=(e p hp).ex
 have ec:C=C':=by
  have:=n.symm.trans n'
  injection this with this;injection this with this;injection this
 subst ec
 exact⟨C,n,z,q⟩
theorem ya{K:IT}{t u:Value}{b:Bool}(h:PySem.W.kitAny K t [u]=some b):PySem.W.kitOne K t u=some b:=by
 unfold PySem.W.kitAny at h
 cases e:PySem.W.kitOne K t u with
 | none=>rw[e]at h;cases h
 | some c =>
  rw[e]at h
  cases c with
  | true=>exact h
  | false=>unfold PySem.W.kitAny at h;exact h
theorem Ap{K:IT}{u:Value}{tab:List (Str × Bool)}(h:IsR K [u] tab)(e:jw K tab):L2.IsX K u tab:=fun p hp=>by
 obtain⟨C,n,z,q⟩:=Aq h e p hp
 exact⟨C,n,z,ya q⟩
structure IsN(K:IT)(mg:Str→Option Value)(cs:List Str)(tab:List (Str × Bool)):Prop where
 ex:∃ Cs:List Addr,cs.map mg=Cs.map (fun C=>some (.ref C))∧IsR K (Cs.map .ref) tab
theorem Y3{K:IT}{mg:Str→Option Value}{cs:List Str}{Cs:List Addr}{tab:List (Str × Bool)}(h:cs.map mg=Cs.map (fun C=>some (.ref C)))(r:IsR K (Cs.map .ref) tab):IsN K mg cs tab:=⟨Cs,h,r⟩
theorem P7{mg:Str→Option Value}:([]:List Str).map mg=([]:List Addr).map (fun C=>some (.ref C)):=rfl
theorem D7{K:IT}{mg:Str→Option Value}{h:Heap}{c:Str}{C:Addr}{cs:List Str}{Cs:List Addr}(X:K.In h)(G:h.Ns mainGlobals mg)(n:PySem.W.nsIn K mainGlobals c=some (some (.ref C)))(r:cs.map mg=Cs.map (fun C=>some (.ref C))):(c :: cs).map mg=(C :: Cs).map (fun C=>some (.ref C)):=by
 rw[IY,IY,PySem.W.mg_of X G n,r]
structure JCs(X:Cx)(es:List Expr)(cs:List Str):Prop where
 out:∀ Cs:List Addr,cs.map X.mg=Cs.map (fun C=>some (.ref C))→PA X es (fun _ H Q=>Q (Cs.map .ref) H)
section
variable {X:Cx} {e:Expr} {es:List Expr} {te:DTE} {p p2 pos pos2:Pos} {cs:List Str}
theorem yf:JCs X [] []:=⟨fun Cs h=>by
 cases Cs with
 | nil=>exact L5
 | cons C Cs=>cases h⟩
theorem cA{c:Str}(gc:Gl X c)(hr:JCs X es cs)(h1:starEach (.Name c p2 :: es) X.env=(false,eval (.Name c p2) X.env) :: starEach es X.env:=by rfl)(hd:(c == ("__debug__" : Str))=false:=by decide):JCs X (.Name c p2 :: es) (c :: cs):=⟨fun Cs h=>by
 cases Cs with
 | nil=>cases h
 | cons C Cs =>
  rw[IY,IY]at h
  injection h with h0 h
  exact A8 (tD gc h0 hd) (hr.out Cs h) h1⟩
def yz(tab:List (Str × Bool))(te:DTE):DTE:=fun e M R=>te e M fun x M1=>∃ s b,x = .exc s∧(s,b)∈tab∧R (.bl b) M1
theorem kn{K:IT}{H:Hp}{v:V}{s:Str}(h:Has K H v (.exc s)):∃ a,v = .ref a∧Exc K H a s:=by
 cases h with
 | exc q=>exact⟨_,rfl,q⟩
theorem cz(tab:List (Str × Bool)){c:Str}(gi:Gl X "isinstance")(mi:X.mg "isinstance" = none)(vi:bootBuiltins "isinstance" = some (.builtin "isinstance"))(gc:Gl X c)(Z:IsN X.K X.mg [c] tab)(Ze:jw X.K tab)(he:JE X e te)
  (h1:starEach [e,.Name c p2] X.env=(false,eval e X.env) :: starEach [.Name c p2] X.env:=by rfl) (h2:starEach [.Name c p2] X.env=(false,eval (.Name c p2) X.env) :: starEach [] X.env:=by rfl) (h3:(backTo pos (starEach [.Name c p2] X.env)).any (·.1)=false:=by rfl) (hd:(c == ("__debug__" : Str))=false:=by decide) :
  JE X (.Call (.Name "isinstance" p) [e,.Name c p2] [] pos) (yz tab te):=by
 obtain⟨Cs,hm,Zr⟩:=Z.ex
 obtain⟨Cc,rfl⟩:∃ Cc,Cs=[Cc]:=by
  cases Cs with
  | nil=>cases hm
  | cons C Cs =>
   cases Cs with
   | nil=>exact⟨C,rfl⟩
   | cons C2 Cs=>simp at hm
 have mc:X.mg c=some (.ref Cc):=by
  rw[IY,IY]at hm
  injection hm
 exact⟨(U7 (uX (v2:=.ref Cc) (Ap Zr Ze) fun u r=>r) gi mi vi (A8 he.out (A8 (tD gc mc hd) L5 h2) h1) (by decide) (by decide) h1 h3).imp fun σ H Q ⟨e,M,R,ok,am,t,f⟩=>⟨e,M,_,ok,am,t,fun x M1 ⟨s,b,z,ht,r⟩ v H1 k1 a1 r1=>by
  subst z
  obtain⟨a,rfl,hx⟩:=kn r1
  exact⟨a,s,b,rfl,hx,ht,f _ M1 r _ H1 k1 a1 (.bl b)⟩⟩⟩
theorem CU(tab:List (Str × Bool)){c:Str}{T:String}(gi:Gl X "isinstance")(mi:X.mg "isinstance" = none)(vi:bootBuiltins "isinstance" = some (.builtin "isinstance"))(gc:Gl X c)(mc:X.mg c=none)(vc:bootBuiltins c=some (.type T))(Zr:IsR X.K [.type T] tab)(Ze:jw X.K tab)(he:JE X e te)
  (h1:starEach [e,.Name c p2] X.env=(false,eval e X.env) :: starEach [.Name c p2] X.env:=by rfl) (h2:starEach [.Name c p2] X.env=(false,eval (.Name c p2) X.env) :: starEach [] X.env:=by rfl) (h3:(backTo pos (starEach [.Name c p2] X.env)).any (·.1)=false:=by rfl) (hn:c ≠ "__name__" := by decide) (hd:(c == ("__debug__" : Str))=false:=by decide) :
  JE X (.Call (.Name "isinstance" p) [e,.Name c p2] [] pos) (yz tab te) :=
 ⟨(U7 (uX (v2:=.ty T) (Ap Zr Ze) fun u r=>r) gi mi vi (A8 he.out (A8 (nj (v:=.ty T) gc mc vc rfl hn hd) L5 h2) h1) (by decide) (by decide) h1 h3).imp fun σ H Q ⟨e,M,R,ok,am,t,f⟩=>⟨e,M,_,ok,am,t,fun x M1 ⟨s,b,z,ht,r⟩ v H1 k1 a1 r1=>by
  subst z
  obtain⟨a,rfl,hx⟩:=kn r1
  exact⟨a,s,b,rfl,hx,ht,f _ M1 r _ H1 k1 a1 (.bl b)⟩⟩⟩
theorem oz{Cs:List Addr}{us:List Value}(h:i9 (Cs.map V.ref) us):us=Cs.map Value.ref:=by
 induction Cs generalizing us with
 | nil=>cases h;rfl
 | cons C Cs ih =>
  cases h with
  | cons r t=>cases r;rw[IY,ih t]
theorem CT(tab:List (Str × Bool)){x1}(gi:Gl X "isinstance")(mi:X.mg "isinstance" = none)(vi:bootBuiltins "isinstance" = some (.builtin "isinstance"))(Z:IsN X.K X.mg cs tab)(Ze:jw X.K tab)(hl:cs.length≤100)(he:JE X e te)(hc:JCs X es cs)
  (h1:starEach [e,.Tuple es x1 pos2] X.env=(false,eval e X.env) :: starEach [.Tuple es x1 pos2] X.env:=by rfl) (h2:starEach [.Tuple es x1 pos2] X.env=(false,eval (.Tuple es x1 pos2) X.env) :: starEach [] X.env:=by rfl) (h3:(backTo pos (starEach [.Tuple es x1 pos2] X.env)).any (·.1)=false:=by rfl) :
  JE X (.Call (.Name "isinstance" p) [e,.Tuple es x1 pos2] [] pos) (yz tab te):=by
 obtain⟨Cs,hm,Zr⟩:=Z.ex
 have hlen:(Cs.map V.ref).length≤sizeLine:=by
  have:=congrArg Kj hm
  rw[IW,IW]at this
  rw[IW,← this]
  exact Jk hl (by decide)
 exact⟨(U7 (Dz (vs:=Cs.map V.ref) (Aq Zr Ze) fun us r=>oz r) gi mi vi (A8 he.out (A8 (jW (hc.out Cs hm)) L5 h2) h1) (by decide) (by decide) h1 h3).imp fun σ H Q ⟨e,M,R,ok,am,t,f⟩=>⟨e,M,_,ok,am,t,fun x M1 ⟨s,b,z,ht,r⟩ v H1 k1 a1 r1=>by
  subst z
  obtain⟨a,rfl,hx⟩:=kn r1
  refine⟨hlen,fun q hq=>?_⟩
  obtain⟨o,C,ha,ho,hn⟩:=hx
  have ne:a≠q:=fun e=>by rw[e,hq]at ha;cases ha
  exact⟨a,q,s,b,rfl,⟨o,C,by rw[i3 ne];exact ha,ho,hn⟩,j4,ht,f _ M1 r _ _ (k1.trans (KT.alloc hq)) (a1.alloc hq) (.bl b)⟩⟩⟩
theorem zK{tab:List (Str × Bool)}{te:DTE}{e:Ev}{M:Mem}{R:DK}:yz tab te e M R=te e M fun x M1=>∃ s b,x = .exc s∧(s,b)∈tab∧R (.bl b) M1:=rfl
theorem qj{i:Nat}{F:E5}:(tH i F).rt=F.rt:=rfl
theorem qk{i:Nat}{F:E5}{e:Ev}{M:Mem}:(tH i F).nx e M=F.nx (e.set i none) M:=rfl
end
end DL
namespace GM
open PySem PySem.Spec L2 DL
open RM (sz)
structure vC(w:Rat):Prop where
 n:w.num.natAbs≤4
 d:w.den≤4
 ne:w≠0
theorem small_one:vC 1:=⟨by decide,by decide,by decide⟩
theorem vC.sz{w:Rat}(h:vC w):RM.sz w≤3:=by
 rw[← Rat.num_divInt_den w]
 exact kg (by decide) (by have:=h.n;omega) (by have:=h.d;omega) (RM.S6 w)
theorem cJ{ds:List D}{n:Nat}:Z0 ds (some (n:Int)) none=ds.drop n:=by
 unfold Z0
 rw[HT.xm,HT.sr]
 by_cases h:n≤ds.length
 ·rw[Mu h,JV (by rw[JB];omega)]
 ·rw[Mf (by omega),Ll (by omega),Ll (by omega),List.take_nil]
noncomputable def isInt:D→Bool
 | .int _=>true
 | _=>false
noncomputable def fl0:D→Bool
 | .ref _=>false
 | .ty _=>false
 | .exc _=>false
 | _=>true
noncomputable def fl1:D→Bool
 | .ref _=>false
 | .ty _=>false
 | .exc _=>false
 | .tup ds=>ds.all fl0
 | _=>true
noncomputable def fl2:D→Bool
 | .ref _=>false
 | .ty _=>false
 | .exc _=>false
 | .tup ds=>ds.all fl1
 | _=>true
noncomputable def cB:D→Bool
 | .tup [.int n,.int d]=>decide (1≤d) && decide (JK n.natAbs d.natAbs=1)
 | _=>false
theorem kU{i:Int}:isInt (.int i)=true:=rfl
theorem qb{i:Int}:fl0 (.int i)=true:=rfl
theorem iT{d:D}(h:isInt d=true):∃ i,d = .int i:=by
 cases d with
 | int i=>exact⟨i,rfl⟩
 | _=>cases h
theorem iS(q:Rat):cB (g8 q)=true:=by
 show(decide (1≤(q.den:Int)) && decide (JK q.num.natAbs (q.den:Int).natAbs=1))=true
 rw[JH,decide_eq_true_eq,decide_eq_true_eq]
 exact⟨by have:=q.den_pos;omega,q.reduced⟩
theorem yi{a b:D}(h:isInt a=false):cB (.tup [a,b])=false:=by
 cases a with
 | int i=>cases h
 | _=>rfl
theorem yh{a b:D}(h:isInt b=false):cB (.tup [a,b])=false:=by
 cases b with
 | int i=>cases h
 | _=>cases a<;>rfl
abbrev P2(x:D)(M:Mem)(R:DK)(Y:DXK):Prop:=fl0 x=true∧R (.bl (isInt x)) M
def eX:DSp:=fun ds M R Y=>∃(x:D),ds=[x]∧P2 x M R Y
theorem du{x:D}{M:Mem}{R:DK}{Y:DXK}:eX [x] M R Y=(P2 x M R Y):=propext ⟨fun z=>by obtain⟨_,_,_⟩:=z;walk_at "inj",fun h=>⟨x,rfl,h⟩⟩
abbrev U5(x:D)(M:Mem)(R:DK)(Y:DXK):Prop:=fl1 x=true∧R (.bl (cB x)) M
def bW:DSp:=fun ds M R Y=>∃(x:D),ds=[x]∧U5 x M R Y
theorem gC{x:D}{M:Mem}{R:DK}{Y:DXK}:bW [x] M R Y=(U5 x M R Y):=propext ⟨fun z=>by obtain⟨_,_,_⟩:=z;walk_at "inj",fun h=>⟨x,rfl,h⟩⟩
end GM
namespace L2
open PySem PySem.Spec PyProof.Rows
section
variable {prog:Program} {w:World} {A:Around} {E:Value→Shared→Prop} {s:Shared}
theorem sP{R:Result→Shared→Prop}{it l S:Addr}{rv:Value}{items:Array Value}{c₀:Nat}(hh:A.handled=none)(hit:s.heap.IsRevIter it l ((items.size:Int) - 1))(hl:s.heap.IsList l items)(hne:l≠it)(hi:S≠it)(hj:S≠l)(hz:items.size≤sizeLine)
  (hS:s.heap.get? S=some { cls:=.type "list",data:=.seq #[] c₀ })
  (fin:∀ h' tk acc c1,(∀ b o,b≠S→b≠it→s.heap.get? b=some o→h'.get? b=some o)→h'.get? S=some { cls:=.type "list",dict:=none,data:=.seq acc c1,slots:=#[] }→ItemsOf (ou items) acc items.size→R (.ok (.ret rv)) { s with heap:=h',toks:=tk }) :
  wpAny (model prog w) A.in1 (Builtin.List.listExtendWith (.ref S) (.ref it) rv) (Hm prog w A R) (fun e s'=>R (.error e) s') s:=by
 have V:=(Walks.listRev (prog:=prog) (w:=w) (A:=A.in1) hh it l hne items).toS
 have nf:S∉[it,l]:=fun q=>by
  rcases Jj.mp q with q|q
  ·exact hi q
  ·exact hj (JY.mp q)
 unfold Builtin.List.listExtendWith
 refine IU (wpAny_typeOf hit.typeIs ?_)
 have n1:Builtin.List.listSameRef (.ref S) (.ref it)=false:=by simp[Builtin.List.listSameRef,hi]
 have n2:(Value.type "list_reverseiterator" == Value.type "list")=false:=by decide
 have n3:(Value.type "list_reverseiterator" == Value.type "tuple")=false:=by decide
 simp only[n1,n2,n3,ME,KS,if_false]
 refine IU (wpAny_pyIter_revIter hit (IU (wpAny_holding (sQ hit ?_))))
 refine wpAny_ite_split (fun z=>absurd z (by decide +kernel)) (fun _=>?_)
 refine Jf ⟨plainId_quiet F.plain_extend_loop _,?_⟩
 have h0:((items.size:Int) - 1 - ((0:Nat):Int))=(items.size:Int) - 1:=by omega
 refine codeAny_extend_loopS V hz S nf rv items.size 0 s #[] c₀ rfl (Jx _) ⟨Jx _,by rw[h0];exact hit,hl⟩ hS (ItemsOf.nil _) fun s2 acc c1 mv g1 g2=>?_
 rw[Moved.eq_with mv]
 exact fin s2.heap s2.toks acc c1 (fun b o q1 q2 q3=>mv.heap b o (fun q=>(Jj.mp q).elim q1 fun q'=>q2 (JY.mp q')) q3) g1 g2
theorem uk{R:Result→Shared→Prop}{it l S:Addr}{items:Array Value}{c₀:Nat}(hh:A.handled=none)(hit:s.heap.IsRevIter it l ((items.size:Int) - 1))(hl:s.heap.IsList l items)(hne:l≠it)(hi:S≠it)(hj:S≠l)(hz:items.size≤sizeLine)
  (hS:s.heap.get? S=some { cls:=.type "list",data:=.seq #[] c₀ })
  (fin:∀ h' tk acc c1,(∀ b o,b≠S→b≠it→s.heap.get? b=some o→h'.get? b=some o)→h'.get? S=some { cls:=.type "list",dict:=none,data:=.seq acc c1,slots:=#[] }→ItemsOf (ou items) acc items.size→R (.ok (.ret (.ref S))) { s with heap:=h',toks:=tk }) :
  codeAny (model prog w) A (.builtin "list.__iadd__" ⟨[.ref S,.ref it],[]⟩) R s:=by
 refine codeAny_builtin F.entry_list_iadd ?_
 rw[Around.under_plainId F.plain_list_iadd _]
 exact sP (rv:=.ref S) hh hit hl hne hi hj hz hS fin
theorem jf{it l:Addr}{items:Array Value}{Q:List Value→Shared→Prop}(hh:A.handled=none)(hit:s.heap.IsRevIter it l ((items.size:Int) - 1))(hl:s.heap.IsList l items)(hne:l≠it)(hz:items.size≤sizeLine)
  (fin:∀ h' tk acc,(∀ b o,b≠it→s.heap.get? b=some o→h'.get? b=some o)→ItemsOf (ou items) acc items.size→Q acc.toList { s with heap:=h',toks:=tk }):wpAny (model prog w) A (collect (.ref it)) Q E s:=by
 obtain⟨oi,hoi,_⟩:=id hit
 obtain⟨ol,hol,_⟩:=id hl
 have i1:s.heap.objs.size≠it:=Ky (Jb hoi)
 have i2:s.heap.objs.size≠l:=Ky (Jb hol)
 unfold collect
 refine IU (wpAny_runValue (codeAny_builtin F.entry_proto_collect ?_));rw[Around.under_plainId F.plain_proto_collect _]
 show wpAny _ A.in1 (newList [] >>= fun S=>again (.builtin "list.__iadd__" ⟨[S,.ref it],[]⟩)) _ _ s
 have up:∀ b o,s.heap.get? b=some o→(s.heap.push { cls:=.type "list",data:=.seq ([]:List Value).toArray }).get? b=some o:=fun b o e=>IV _ e
 have gS:(s.heap.push { cls:=.type "list",data:=.seq ([]:List Value).toArray }).get? s.heap.objs.size=some { cls:=.type "list",data:=.seq #[] }:=Je _ rfl
 refine IU (wpAny_newObj_type (Jf ⟨plainId_quiet F.plain_list_iadd _,uk (s:={ s with heap:=s.heap.push { cls:=.type "list",data:=.seq ([]:List Value).toArray } }) hh (hit.at fun o e=>up it o e) (hl.at fun o e=>up l o e) hne i1 i2 hz gS fun h' tk acc c1 q1 q2 q3=>?_⟩))
 show wpAny _ A (load s.heap.objs.size >>= _) _ _ _
 refine IU (wpAny_load q2 (Jf (fin h' tk acc (fun b o b1 e=>q1 b o (Jr (Jb e)) b1 (up b o e)) q3)))
theorem dg{it a:Addr}{x:Str}{t:Tok}{items:List (Str × Tok)}{Q:Value→Shared→Prop}(hh:A.handled=none)(hit:s.heap.IsRevIter it a (((strValues items).toArray.size:Int) - 1))(hl:s.heap.IsList a (strValues items).toArray)(hne:a≠it)(hz:(strValues items).toArray.size≤sizeLine)
  (hok:JoinOk x ((items.map (·.1)).reverse)=true)
  (hq:∀ h' t' k,(∀ b o,b≠it→s.heap.get? b=some o→h'.get? b=some o)→Q (.str (Txt.join x ((items.map (·.1)).reverse)) t') { s with heap:=h',toks:=k }) :
  wpAny (model prog w) A (call (.builtin "str.join") [.str x t,.ref it]) Q E s:=by
 refine wpAny_call (codeAny_call_builtin F.slot_str_join.plain F.entry_str_join (F.slot_str_join.check _ _ _ _ _ _ _ _ (typeIs_str _ _ _) (F.args_str_join_2 _ _) ?_));rw[join_tree_other]
 refine IU (wpAny_typeOf hit.typeIs ?_)
 show wpAny _ A.in1 ((pyIter (.ref it)).tryCatch _ >>= fun j=>collect j >>= fun xs=>joinTail x xs) _ _ s
 refine IU (wpAny_tryCatch (wpAny_pyIter_revIter hit ?_))
 refine IU (jf (A:=A.in1) hh hit hl hne hz fun h' tk acc k1 k2=>?_)
 have hacc:acc.toList=(strValues items).reverse:=oS k2
 rw[hacc,show(strValues items).reverse=strValues items.reverse from(Mg).symm]
 rw[← Mg]at hok hq
 unfold JoinOk at hok
 rw[Lb]at hok
 have g:Gives (joinTail x (strValues items.reverse)) (joinMade x items.reverse):=by
  have g0:=gives_joinTail x items.reverse hok
  generalize items.reverse=ii at *
  match ii with
  | []=>exact g0
  | [_]=>exact g0
  | _ :: _ :: _=>exact g0
 exact g prog w A (wants Q E) { s with heap:=h',toks:=tk } (post_join items.reverse ⟨joinFit_length hok,fun t' k=>hq h' t' k k1⟩)
end
section
variable {X:Cx}
theorem W2:∀{ys:List Str} {us:List Value},i9 (ys.map V.str) us→∃ l:List (Str × Tok),strValues l=us∧l.map (·.1)=ys
 | [],_,h=>by cases h;exact⟨[],rfl,rfl⟩
 | y :: ys,_,h=>by
  cases h with
  | cons r t =>
   obtain⟨k,rfl⟩:=r
   obtain⟨l,e1,e2⟩:=W2 t
   exact⟨(y,k) :: l,by rw[← e1];rfl,by rw[← e2];rfl⟩
def Z1(x:Str)(ys:List Str):Prop:=(ys.map (·.length)).sum+ys.length≤1048576∧x.length≤16
theorem xV:MtR X "str.join" (fun x xs H Q=>∃(sep:Str) (a:Addr) (ys:List Str),x = .str sep∧xs=[.ref a]∧SqL X.K H a (ys.map V.str)∧Z1 sep ys∧Q (.str (Txt.join sep ys)) H):=by
 intro pins s σ H x xs v us Q I rx rv h
 obtain⟨sep,a,ys,rfl,rfl,hS,⟨j1,j2⟩,q⟩:=h
 obtain⟨t,rfl⟩:=rx
 obtain⟨u,rfl,ru⟩:=J4 rv
 cases ru
 obtain⟨its,r,pl,_⟩:=I.list hS
 obtain⟨l,e1,e2⟩:=W2 r
 refine SC.join (l:=l) (texts:=ys) (by rw[e1];exact pl.isList) e2 (joinOk_of_weight j1 j2) fun t' k=>⟨.str _,H,I.tok k,⟨t',rfl⟩,q⟩
theorem kb(hc:X.calm=true):MtR X "str.join" (fun x xs H Q=>∃(sep:Str) (it a:Addr) (ys:List Str),x = .str sep∧xs=[.ref it]∧H it=some (.ext (xp it a ys.length))∧SqL X.K H a (ys.map V.str)∧a≠it∧X.s₀.heap.objs.size≤it∧Z1 sep ys.reverse∧Q (.str (Txt.join sep ys.reverse)) (en H it)):=by
 intro pins s σ H x xs v us Q I rx rv h
 obtain⟨sep,it,a,ys,rfl,rfl,hit,sq,hne,hge,⟨j1,j2⟩,q⟩:=h
 obtain⟨t,rfl⟩:=rx
 obtain⟨u,rfl,ru⟩:=J4 rv
 cases ru
 obtain⟨its,r,pl,hz⟩:=I.list sq
 obtain⟨l,e1,e2⟩:=W2 r
 have hl:its.length=ys.length:=by rw[← e1,← e2];unfold strValues;rw[IW,IW]
 have hob:s.heap.get? it=some (revObj a ((ys.length:Int) - 1)):=(I.hok it _ hit).1
 have hsz:(strValues l).toArray.size=ys.length:=by rw[Jg,e1];exact hl
 rw[IW]at hz
 refine dg (items:=l) (I.ok.hd hc) ⟨_,hob,rfl,by rw[hsz];rfl⟩ (by rw[e1];exact pl.isList) hne (by rw[hsz];exact hz) (by rw[e2];exact joinOk_of_weight j1 j2) fun h' t' k k1=>?_
 rw[e2]
 have nit:∀{b u},H b=some u→u ≠ .ext (xp it a ys.length)→b≠it:=fun{b u} e n z=>by
  rw[z,hit]at e;exact n (Option.some.inj e).symm
 have un:Un (frs X.stack) [it] H (en H it) s.heap h':={
  keep:=fun b o e n _ hx=>k1 b o (fun z=>hx (by simp[z])) e
  slot:=fun b o e n _ hx=>⟨o.slots,k1 b o (fun z=>hx (by simp[z])) e⟩
  free:=fun b o e n hx=>by rw[D8 (fun z=>hx (by simp[z]))];exact n
  there:=fun b o e hx=>⟨o,k1 b o (fun z=>hx (by simp[z])) e⟩
  tups:=fun b xs e=>by rw[D8 (nit e (by simp))];exact e
  frzs:=fun b o u e=>by rw[D8 (nit e (by simp))];exact e
  tbls:=fun b ps e=>⟨#[],by rw[D8 (nit e (by simp))];simpa using e⟩ }
 have ok:HOk X.prog X.w (en H it) h':=fun b u e=>by
  have b2:b≠it:=fun z=>by rw[z,cG]at e;cases e
  rw[D8 b2]at e
  refine(I.hok b u e).stay (fun c v hcv z=>k1 c v ?_ z) (fun c z=>?_) fun c xs z=>?_
  ·rcases hcv with z2|z2
   ·rw[z2];exact b2
   ·exact nit z2 (by simp)
  ·rw[D8 (nit z (by simp))];exact z
  ·rw[D8 (nit z (by simp))];exact z
 refine⟨.str _,_,I.call (g':=s.gens) (d':=s.drawn) (t':=k) un ok I.bare (fun b hb=>?_),⟨t',rfl⟩,q⟩
 obtain rfl:b=it:=by simpa using hb
 refine⟨.inr hge,fun z=>?_,fun x c e z=>?_,fun p hp z=>?_⟩
 ·rw[z,I.free]at hit;cases hit
 ·rw[← z,I.freeC x c e]at hit;cases hit
 ·rw[← z,(I.pin p hp).2.1]at hit;cases hit
theorem pI:u8 X (.type "str") (fun xs H Q=>∃ n:Int,xs=[.int n]∧n.natAbs.log2<1920∧Q (.str (toString n)) H):=by
 intro pins s σ H xs us Q I rv h
 obtain⟨n,rfl,hn,q⟩:=h
 obtain⟨u,rfl,ru⟩:=J4 rv
 obtain⟨t,rfl⟩:=ru
 exact P.str_of_int hn ⟨.str _,H,I.tok _,⟨_,rfl⟩,q⟩
end
end L2
namespace DL
open PySem PySem.Spec L2
open PyProof.Rows hiding St
section
variable {X:Cx}
theorem cC{K:IT}{H:Hp}:∀{ys:List Str} {vs:List V},HasL K H vs (ys.map D.str)→vs=ys.map V.str
 | [],_,r=>by cases r;rfl
 | b :: bs,_,r=>by
  cases r with
  | cons r rr=>cases r;rw[cC rr];rfl
def As:DRC:=fun ds M R=>∃ n:Int,ds=[.int n]∧n.natAbs.log2<1920∧R (.str (toString n)) M
theorem O7:K0 X (.type "str") As:=u8.imp pI fun xs H Q ⟨ds,M,R,hl,am,⟨n,z,hn,r⟩,f⟩=>by
 subst z
 obtain⟨v,rfl,hv⟩:=hl.one
 cases hv
 exact⟨n,rfl,hn,f _ M r _ H (KT.refl H) am (.str _)⟩
def AA:DR2:=fun x y M R=>∃ i j,x = .str i∧y = .str j∧i.length+j.length≤sizeLine∧R (.str (i++j)) M
theorem u7:DOp X (binaryOp .Add) AA:=by
 intro pins s σ H x y v u Q I rx ry h
 obtain⟨dx,dy,M,R,hx,hy,am,⟨i,j,e1,e2,hl,r⟩,f⟩:=h
 subst e1;subst e2
 cases hx;cases hy
 exact jY pins s σ H _ _ v u Q I rx ry ⟨i,j,rfl,rfl,hl,f _ M r _ H (KT.refl H) am (.str _)⟩
def Ay(x:D)(xs:List D)(M:Mem)(R:DK):Prop:=∃(sep:Str) (a:D) (ys:List Str),x = .str sep∧xs=[a]∧C8 M a=some (ys.map D.str)∧Z1 sep ys∧R (.str (Txt.join sep ys)) M
def uQ(to:DTE)(t:DTA):DTE:=fun e M R=>to e M fun x M1=>(∃ sep,x = .str sep)∧t e M1 fun xs M2=>Ay x xs M2 R
variable {o e:Expr} {to te:DTE} {t:DTA} {apos cpos p2 pos2:Pos}
theorem fO(ho:JE X o to)(ha:JA X [e] t)
  (hbase:attributeBase o "join" X.env (eval o X.env)=eval o X.env:=by rfl)
  (hfew:((backTo cpos (starEach [e] X.env)).all (fun x=>!x.1) && (backToKw cpos (keywordEach [] X.env)).all (fun x=>x.1.isSome)
   && decide ([e].length+([]:List Keyword).length+(if ([]:List Keyword).isEmpty then 0 else 1)<30))=true:=by rfl)
  (hline:(apos.endLine == cpos.line)=true:=by rfl) (hs:starEach [e] X.env=(false,eval e X.env) :: starEach [] X.env:=by rfl) (hplain:(backTo cpos (starEach [] X.env)).any (·.1)=false:=by rfl) :
  JE X (.Call (.Attribute o "join" apos) [e] [] cpos) (uQ to t) :=
 ⟨(ir PySem.F.plainAttrs_str PySem.F.slot_str_join PySem.F.type_str_join xV ho.out ha.out hbase hfew hline hs hplain).imp fun σ H Q ⟨e,M,R,ok,am,t,f⟩=>⟨e,M,_,ok,am,t,fun x M1 ⟨⟨sep,z⟩,h1⟩ v H1 k1 a1 r1=>by
  subst z
  cases r1
  refine⟨rfl,e,M1,_,ok.mono k1,a1,h1,fun zs M2 h2 vs H2 k2 a2 r2=>?_⟩
  obtain⟨sep2,a,ys,e1,e2,hi,hj,r⟩:=h2
  cases e1;subst e2
  obtain⟨v,rfl,hv⟩:=r2.one
  obtain⟨b,xs,rfl,sq,lx⟩:=C7 a2 hv hi
  have:=cC lx
  subst this
  exact⟨sep,b,ys,rfl,rfl,sq,hj,f _ M2 r _ H2 (k1.trans k2) a2 (.str _)⟩⟩⟩
def kA(to te:DTE):DTE:=fun e M R=>to e M fun x M1=>(∃ sep,x = .str sep)∧te e M1 fun a M2=>∃(sep:Str) (ys:List Str),x = .str sep∧C8 M2 a=some (ys.map D.str)∧Z1 sep ys.reverse∧R (.str (Txt.join sep ys.reverse)) M2
theorem uF{H:Hp}{it:Addr}{o:HO}(h:H it=none):en (L2.upd H it o) it=H:=by
 funext b
 by_cases z:b=it
 ·subst z;rw[cG,h]
 ·rw[D8 z,i3 z]
theorem uf(hc:X.calm=true)(g2:Gl X "reversed")(m2:X.mg "reversed" = none)(v2:bootBuiltins "reversed" = some (.type "reversed"))(ho:JE X o to)(he:JE X e te)
  (h1:starEach [e] X.env=(false,eval e X.env) :: starEach [] X.env:=by rfl) (h2:starEach [.Call (.Name "reversed" p2) [e] [] pos2] X.env=(false,eval (.Call (.Name "reversed" p2) [e] [] pos2) X.env) :: starEach [] X.env:=by rfl)
  (hbase:attributeBase o "join" X.env (eval o X.env)=eval o X.env:=by rfl)
  (hfew:((backTo cpos (starEach [.Call (.Name "reversed" p2) [e] [] pos2] X.env)).all (fun x=>!x.1) && (backToKw cpos (keywordEach [] X.env)).all (fun x=>x.1.isSome)
   && decide ([Expr.Call (.Name "reversed" p2) [e] [] pos2].length+([]:List Keyword).length+(if ([]:List Keyword).isEmpty then 0 else 1)<30))=true:=by rfl)
  (hline:(apos.endLine == cpos.line)=true:=by rfl) (hplain:(backTo cpos (starEach [] X.env)).any (·.1)=false:=by rfl) :
  JE X (.Call (.Attribute o "join" apos) [.Call (.Name "reversed" p2) [e] [] pos2] [] cpos) (kA to te) :=
 ⟨(ir PySem.F.plainAttrs_str PySem.F.slot_str_join PySem.F.type_str_join (kb hc) ho.out (A8 (dW jd g2 m2 v2 (A8 he.out L5 h1) (by decide) (by decide) h1) L5 h2) hbase hfew hline h2 hplain).imp fun σ H Q ⟨e,M,R,ok,am,t,f⟩=>⟨e,M,_,ok,am,t,fun x M1 ⟨⟨sep,z⟩,h1⟩ v H1 k1 a1 r1=>by
  subst z
  cases r1
  refine⟨rfl,e,M1,_,ok.mono k1,a1,h1,fun d M2 h2 v2 H2 k2 a2 r2=>?_⟩
  obtain⟨sep2,ys,e1,hi,hj,r⟩:=h2
  cases e1
  obtain⟨a,xs,rfl,sq,lx⟩:=C7 a2 r2 hi
  have:=cC lx
  subst this
  refine⟨a,_,rfl,sq,fun it hit hne hge=>⟨sep,it,a,ys,rfl,rfl,by rw[IW];exact j4,SqL.upd sq (Ne.symm hne),Ne.symm hne,hge,hj,?_⟩⟩
  rw[uF hit]
  exact f _ M2 r _ H2 (k1.trans k2) a2 (.str _)⟩⟩
end
section
variable {e:Ev} {M:Mem} {R:DK} {to te:DTE} {t:DTA}
theorem rf{i j:Str}:AA (.str i) (.str j) M R=(i.length+j.length≤sizeLine∧R (.str (i++j)) M):=propext ⟨fun⟨_,_,a,b,c,r⟩=>by cases a;cases b;exact⟨c,r⟩,fun⟨c,r⟩=>⟨_,_,rfl,rfl,c,r⟩⟩
theorem qJ{n:Int}:As [.int n] M R=(n.natAbs.log2<1920∧R (.str (toString n)) M):=propext ⟨fun⟨_,a,c,r⟩=>by cases a;exact⟨c,r⟩,fun⟨c,r⟩=>⟨_,rfl,c,r⟩⟩
theorem qY:uQ to t e M R=to e M fun x M1=>vB x (t e M1 fun xs M2=>Ay x xs M2 R):=by
 unfold uQ vB
 congr 1;funext x M1
 exact propext ⟨fun⟨⟨s,z⟩,h⟩=>⟨s,z,h⟩,fun⟨s,z,h⟩=>⟨⟨s,z⟩,h⟩⟩
theorem mz:kA to te e M R=to e M fun x M1=>vB x (te e M1 fun a M2=>∃(sep:Str) (ys:List Str),x = .str sep∧C8 M2 a=some (ys.map D.str)∧Z1 sep ys.reverse∧R (.str (Txt.join sep ys.reverse)) M2):=by
 unfold kA vB
 congr 1;funext x M1
 exact propext ⟨fun⟨⟨s,z⟩,h⟩=>⟨s,z,h⟩,fun⟨s,z,h⟩=>⟨⟨s,z⟩,h⟩⟩
end
section
variable {M:Model} {A:Around} {E:Value→Shared→Prop} {s:Shared} {B:Heap} {l:List Env} {env:Env} {L a:Addr} {cls a0:Value}
end
section
variable {M:Model} {A:Around} {E:Value→Shared→Prop} {s:Shared} {env:Env}
end
section
variable {X:Cx} {elt tg iter:Expr} {scope:Scope} {cl:List (Str × Addr)} {tgs cps:List Str} {caps:List Nat} {wi:TI} {g:TG} {tc:TT} {te:TE} {pos:Pos} {ifs:List Expr} {EX:Value→Hp→Prop}
end
section
variable {g:DTG} {tc:O9} {te:DTE}
end
section
variable {X:Cx} {mk:Bool} {H₀:Hp} {Y:DXK} {elt tg iter:Expr} {scope:Scope} {tgs cps:List Str} {caps:List Nat} {ti:DTI} {g:DTG} {tc:O9} {te:DTE} {pos:Pos} {ifs:List Expr}
theorem jA{e:Expr}(h:JE X.nox e te):JXE X mk H₀ Y e te:=⟨fun pins s σ H Q I ⟨k,hw⟩ =>
 wpAny_mono (h.out pins s σ H Q (I.unwish.wish _) hw) (fun _ _ ⟨v,H',I',r,q⟩=>⟨v,H',I'.unwish.wish _,r,q⟩) fun _ _ z=>False.elim z⟩
structure JXA(X:Cx)(mk:Bool)(H₀:Hp)(Y:DXK)(es:List Expr)(t:DTA):Prop where
 out:PA (Cx.ex' X mk H₀ Y) es (fun σ H Q=>KT H₀ H∧upA X.K t σ H Q)
theorem rk:JXA X mk H₀ Y [] yy:=⟨PA.imp L5 fun σ H Q ⟨k,e,M,R,ok,am,t,f⟩=>f [] M t [] H (KT.refl H) am .nil⟩
theorem aB{a:Expr}{es:List Expr}{ta:DTE}{tr:DTA}(ha:JXE X mk H₀ Y a ta)(hr:JXA X mk H₀ Y es tr)(hs:starEach (a :: es) X.env=(false,eval a X.env) :: starEach es X.env:=by rfl):JXA X mk H₀ Y (a :: es) (uS ta tr) :=
 ⟨PA.imp (A8 (X:=Cx.ex' X mk H₀ Y) ha.out hr.out hs) fun σ H Q ⟨k,e,M,R,ok,am,t,f⟩=>⟨k,e,M,_,ok,am,t,fun x M1 h1 v H1 k1 a1 r1 =>
  ⟨k.trans k1,e,M1,_,ok.mono k1,a1,h1,fun xs M2 h2 vs H2 k2 a2 r2=>f _ M2 h2 _ H2 (k1.trans k2) a2 (.cons (r1.mono k2) r2)⟩⟩⟩
theorem EF{es:List Expr}{tr:DTA}{x1}(h:JXA X mk H₀ Y es tr):JXE X mk H₀ Y (.Tuple es x1 pos) (Du tr) :=
 ⟨PE.imp (jW (X:=Cx.ex' X mk H₀ Y) h.out) fun σ H Q ⟨k,e,M,R,ok,am,t,f⟩=>⟨k,e,M,_,ok,am,t,fun ds M1 ⟨hz,h1⟩ vs H1 k1 a1 r1=>by
  refine⟨by rw[r1.length];exact hz,fun p hp=>?_⟩
  have k2:KT H1 (upd H1 p (.tup vs)):=KT.alloc hp
  exact f _ M1 h1 _ _ (k1.trans k2) (a1.alloc hp) (.tup (SqT.of j4) (r1.mono k2))⟩⟩
end
end DL
namespace L2
open PySem PySem.Spec PyProof.Rows
noncomputable def Its(x:Str):It:=⟨fun i _=>i<x.cps.size,fun i H v H'=>H'=H∧∃ c,x.cps[i]? = some c∧v = .str ⟨#[c]⟩,fun i _=>x.cps.size≤i⟩
theorem gT{P:Program}{w:World}{K:IT}{tg:Expr}{x:Str}{t:Tok}(it:Addr)(nm:String)(hn:["enumerate","zip","dict_itemiterator","dict_reverseitemiterator","odict_iterator","itertools.zip_longest","itertools.pairwise"].contains nm=false)
  (hW:∀ A:Around,A.handled=none→Walks P w A it [it] [it] x.cps.size (SignAt x) (fun i h=>h.IsStrIter it nm x t i)) (hS:∀(A:Around) (i:Nat) (s:Shared) (Q:Value→Shared→Prop) (E:Value→Shared→Prop),s.heap.IsStrIter it nm x t i→Q (.ref it) s→wpAny (model P w) A (pyIter (.ref it)) Q E s) :
  jq P w K tg (Its x) [it] it (fun i h=>i≤x.cps.size∧h.IsStrIter it nm x t i) where
 mem:=by simp
 obj:=fun i h st b hb=>by
  obtain rfl:b=it:=by simpa using hb
  obtain⟨_,o,e,c,d⟩:=st
  exact⟨o,e,fun v z=>by rw[d]at z;cases z⟩
 keep:=fun i h h2 st k=>⟨st.1,by obtain⟨_,o,e,r⟩:=st;exact⟨o,k it (by simp) o e,r⟩⟩
 item:=by
  intro X hP hw hK hc i pins s σ H E I hf st hg
  subst hP hw hK
  obtain⟨f0,f1,f2,f3,f4,f5⟩:=hf it (by simp)
  refine(hW X.A (I.ok.hd hc)).item i s _ _ hg st.2 fun v h2 tk hv st2 kk=>?_
  obtain⟨c,u,hc1,rfl⟩:=hv
  have I1:Inv X pins σ H { s with heap:=h2,toks:=tk }:=I.turned (fun b o hb e=>kk b o (by simpa using hb) e) f0 f1 f3 f4 f5
  obtain⟨o,e,hcl,hd⟩:=id st2
  exact⟨_,rfl,iV (s:={ s with heap:=h2,toks:=tk }) e hcl hd hn ⟨.str ⟨#[c]⟩,H,I1,⟨u,rfl⟩,⟨rfl,c,hc1,rfl⟩,⟨hg,st2⟩,fun b hb=>(hf b hb).1⟩⟩
 done:=by
  intro X hP hw hK hc i pins s σ H E I hf st hg
  subst hP hw hK
  obtain⟨f0,f1,f2,f3,f4,f5⟩:=hf it (by simp)
  have hi:i=x.cps.size:=Mr st.1 hg
  have st2:=st.2
  rw[hi]at st2
  exact(hW X.A (I.ok.hd hc)).done s _ _ st2 fun h2 tk kk=>⟨rfl,I.turned (fun b o hb e=>kk b o (by simpa using hb) e) f0 f1 f3 f4 f5⟩
 self:=fun A i s Q E st h=>hS A i s Q E st.2 h
section
variable {X:Cx} {tg:Expr}
def GW(tl:TE):TI:=fun σ H R=>tl σ H fun x H1=>∃ z,x = .str z∧R (Its z) H1
theorem Cb{l:Expr}{tl:TE}(hl:PE X l tl):PI X tg l (GW tl):=by
 intro pins s σ H R I h
 refine thn (hl pins s σ H _ I h) fun v s1 ⟨x,H1,I1,r1,q1⟩=>?_
 obtain⟨z,e,q⟩:=q1
 subst e
 obtain⟨t,rfl⟩:=r1
 have fin:∀ b∈[s1.heap.objs.size],T0 X pins H1 b:=fun b hb=>by
  obtain rfl:b=s1.heap.objs.size:=by simpa using hb
  exact I1.fpOk (Ja _) (I1.hok.fresh (Ja _))
 cases ha:z.cps.all (· < 128)
 ·exact wpAny_pyIter_wide ha ⟨s1.heap.objs.size,[s1.heap.objs.size],_,_,H1,rfl,I1.kept (t':=s1.toks) fun b o e=>IV _ e,gT _ "str_iterator" (by decide) (fun A hA=>Walks.strWide hA _ z t) (fun A i s Q E st k=>wpAny_pyIter_striter_wide st k),⟨Jx _,_,Je _ rfl,rfl,rfl⟩,fin,q⟩
 ·exact wpAny_pyIter_ascii ha ⟨s1.heap.objs.size,[s1.heap.objs.size],_,_,H1,rfl,I1.kept (t':=s1.toks) fun b o e=>IV _ e,gT _ "str_ascii_iterator" (by decide) (fun A hA=>Walks.strAscii hA _ z t) (fun A i s Q E st k=>wpAny_pyIter_striter_ascii st k),⟨Jx _,_,Je _ rfl,rfl,rfl⟩,fin,q⟩
theorem Bz:SlR X (fun x lo hi H Q=>∃ z,x = .str z∧z.length≤sizeLine∧Q (.str (Txt.slice z lo hi)) H):=by
 intro pins s σ H x v vl vu lo hi sl Q I rx hs pl pu h
 obtain⟨z,rfl,hz,q⟩:=h
 obtain⟨t,rfl⟩:=rx
 refine⟨"str",_,PySem.F.slot_str_getitem.lookup,typeIs_str _ _ _,?_⟩
 have fin:∀ t2 k,EP X pins σ Q (.str (Txt.slice z lo hi) t2) { s with toks:=k }:=fun t2 k=>⟨.str _,H,I.tok k,⟨t2,rfl⟩,q⟩
 have le:=Jk (Txt.slice_le z lo hi) hz
 cases pl with
 | none=>cases pu with
  | none=>exact wpAny_getItem_str_slice (l:=none) (u:=none) (st:=none) hs rfl (post_val_or_str ⟨le,fin⟩)
  | int j u=>exact wpAny_getItem_str_slice (l:=none) (u:=some (j,u)) (st:=none) hs rfl (post_val_or_str ⟨le,fin⟩)
 | int i u=>cases pu with
  | none=>exact wpAny_getItem_str_slice (l:=some (i,u)) (u:=none) (st:=none) hs rfl (post_val_or_str ⟨le,fin⟩)
  | int j u2=>exact wpAny_getItem_str_slice (l:=some (i,u)) (u:=some (j,u2)) (st:=none) hs rfl (post_val_or_str ⟨le,fin⟩)
theorem kB:u8 X (.type "int") (fun xs H Q=>∃ z n,xs=[.str z]∧PySem.intText? z=some n∧z.length≤640∧Q (.int n) H):=by
 intro pins s σ H xs us Q I rv h
 obtain⟨z,n,rfl,hn,hl,q⟩:=h
 obtain⟨u,rfl,ru⟩:=J4 rv
 obtain⟨t,rfl⟩:=ru
 exact PySem.W.KIN.call_text hn hl ⟨.int n,H,I.tok _,⟨_,rfl⟩,q⟩
theorem Aa{a b c:Str}{t u v:Tok}:i9 [.str a,.str b,.str c] [.str a t,.str b u,.str c v]:=.cons ⟨t,rfl⟩ (.cons ⟨u,rfl⟩ (.cons ⟨v,rfl⟩ .nil))
theorem A3:MtR X "str.partition" (fun x xs H Q=>∃ z y,x = .str z∧xs=[.str y]∧(y.length == 0)=false∧z.length≤sizeLine ∧
  ∀ p,H p=none→Q (.ref p) (upd H p (.tup [.str (Txt.partition z y).1,.str (Txt.partition z y).2.1,.str (Txt.partition z y).2.2]))):=by
 intro pins s σ H x xs v us Q I rx rv h
 obtain⟨z,y,rfl,rfl,hy,hz,q⟩:=h
 obtain⟨t,rfl⟩:=rx
 obtain⟨u,rfl,ru⟩:=J4 rv
 obtain⟨t2,rfl⟩:=ru
 refine call_meets F.slot_str_partition (typeIs_str _ _ _) F.entry_str_partition (F.args_str_partition_2 _ _) (meets_str_partition z y t t2 hy hz) ?_
 have q2:=q s.heap.objs.size (I.hok.fresh (Ja _))
 unfold Txt.partition at q2
 revert q2
 cases Builtin.Str.occurrences z y 0 z.length 1 with
 | nil=>exact fun q2=>⟨.ref s.heap.objs.size,_,I.laid (o:=.tup _) (fun b ob q=>IV _ q) (Ja _) ⟨by show 3≤sizeLine;decide,_,Aa,IsTup.new _ _⟩,rfl,q2⟩
 | cons i r=>exact fun q2=>⟨.ref s.heap.objs.size,_,I.laid (o:=.tup _) (fun b ob q=>IV _ q) (Ja _) ⟨by show 3≤sizeLine;decide,_,Aa,IsTup.new _ _⟩,rfl,q2⟩
theorem T5:∀(l:List (Str × Tok)),i9 ((l.map (·.1)).map V.str) (strValues l)
 | []=>.nil
 | p :: r=>.cons ⟨p.2,rfl⟩ (T5 r)
theorem tR:MtR X "str.zfill" (fun x xs H Q=>∃ z n,x = .str z∧xs=[.int n]∧PadOk n=true∧Q (.str (Txt.zfill z n)) H):=by
 intro pins s σ H x xs v us Q I rx rv h
 obtain⟨z,n,rfl,rfl,hp,q⟩:=h
 obtain⟨t,rfl⟩:=rx
 obtain⟨u,rfl,ru⟩:=J4 rv
 obtain⟨t2,rfl⟩:=ru
 exact SC.zfill hp fun t3 k=>⟨.str _,H,I.tok k,⟨t3,rfl⟩,q⟩
theorem pJ:u8 X (.builtin "divmod") (fun xs H Q=>∃ a b:Int,xs=[.int a,.int b]∧b≠0∧b.natAbs.log2<9000∧∀ p,H p=none→Q (.ref p) (upd H p (.tup [.int (a.fdiv b),.int (a.fmod b)]))):=by
 intro pins s σ H xs us Q I rv h
 obtain⟨a,b,rfl,hb,hl,q⟩:=h
 obtain⟨u,v,rfl,⟨t,rfl⟩,⟨t2,rfl⟩⟩:=gP rv
 refine divmod_int hb ?_ (.inl (PyProof.noPylong_of_log2 hl))
 ·exact⟨.ref s.heap.objs.size,_,I.laid (o:=.tup [.int (a.fdiv b),.int (a.fmod b)]) (fun b ob q=>IV _ q) (Ja _) ⟨by show 2≤sizeLine;decide,[.int (a.fdiv b) _,.int (a.fmod b) _],.cons ⟨_,rfl⟩ (.cons ⟨_,rfl⟩ .nil),IsTup.new _ _⟩,rfl,q _ (I.hok.fresh (Ja _))⟩
theorem tS:MtR X "str.split" (fun x xs H Q=>∃ z y,x = .str z∧xs=[.str y]∧(y.length == 0)=false∧z.length+2≤sizeLine∧∀ p,H p=none→Q (.ref p) (upd H p (.lst ((Txt.split z y).map V.str)))):=by
 intro pins s σ H x xs v us Q I rx rv h
 obtain⟨z,y,rfl,rfl,hy,hz,q⟩:=h
 obtain⟨t,rfl⟩:=rx
 obtain⟨u,rfl,ru⟩:=J4 rv
 obtain⟨t2,rfl⟩:=ru
 have q2:=q s.heap.objs.size (I.hok.fresh (Ja _))
 have few:(Builtin.Str.partsBetween z (Builtin.Str.occurrences z y 0 z.length (z.length+1)) y.length).length≤sizeLine:=by
  rw[length_partsBetween]
  have:=StrLaws.occ_length_le z y 0 z.length (z.length+1)
  omega
 have few2:(Txt.split z y).length≤sizeLine:=by
  unfold Txt.split
  split
  ·exact Jk (by decide:1≤2) (by omega)
  ·split
   ·exact Jk (by decide:1≤2) (by omega)
   ·exact few
 have fin:∀(l:List (Str × Tok)) (k:Nat),l.map (·.1)=Txt.split z y→wants (EP X pins σ Q) X.xe (.ok (.ret (.ref s.heap.objs.size))) { s with heap:=s.heap.push { cls:=.type "list",data:=.seq (strValues l).toArray },toks:=k }:=fun l k e=>by
  refine⟨.ref s.heap.objs.size,_,I.laid (o:=.lst ((Txt.split z y).map V.str)) (fun b ob q=>IV _ q) (Ja _) ⟨by rw[IW];exact few2,strValues l,0,by rw[← e];exact T5 l,Je _ rfl⟩,rfl,q2⟩
 cases h1:(decide (z.length<y.length) || decide (Builtin.Str.strKind z<Builtin.Str.strKind y))
 ·cases hf:(Builtin.Str.occurrences z y 0 z.length (z.length+1)).isEmpty
  ·refine call_meets F.slot_str_split (typeIs_str _ _ _) F.entry_str_split (F.args_str_split_2 _ _) (meets_str_split_sep z y t t2 h1 hy hf (by omega) few) ?_
   have e:strsFrom s.toks (Builtin.Str.partsBetween z (Builtin.Str.occurrences z y 0 z.length (z.length+1)) y.length)=_:=strsFrom_eq _ _
   have:=fin (numbered s.toks (Builtin.Str.partsBetween z (Builtin.Str.occurrences z y 0 z.length (z.length+1)) y.length)) (s.toks+(Builtin.Str.partsBetween z (Builtin.Str.occurrences z y 0 z.length (z.length+1)) y.length).length) ((numbered_texts _ _).trans (by unfold Txt.split;rw[h1,hf];rfl))
   rw[← e]at this
   exact this
  ·exact call_meets F.slot_str_split (typeIs_str _ _ _) F.entry_str_split (F.args_str_split_2 _ _) (meets_str_split_not_found z y t t2 h1 hy hf) (fin [(z,t)] s.toks (by unfold Txt.split;rw[h1,hf];rfl))
 ·exact call_meets F.slot_str_split (typeIs_str _ _ _) F.entry_str_split (F.args_str_split_2 _ _) (meets_str_split_cannot_occur z y t t2 h1) (fin [(z,t)] s.toks (by unfold Txt.split;rw[h1];rfl))
end
end L2
namespace DL
open PySem PySem.Spec L2
open PyProof.Rows hiding St
section
variable {X:Cx}
def Ax:DRC:=fun ds M R=>∃ s:Str,ds=[.str s]∧s.length≤sizeLine∧R (.int (s.length:Int)) M
theorem vj:K0 X (.builtin "len") Ax:=u8.imp gf fun xs H Q ⟨ds,M,R,hl,am,⟨n,z,hn,r⟩,f⟩=>by
 subst z
 obtain⟨v,rfl,hv⟩:=hl.one
 cases hv
 exact⟨n,rfl,hn,f _ M r _ H (KT.refl H) am (.int _)⟩
def Az:DRC:=fun ds M R=>∃(s:Str) (n:Int),ds=[.str s]∧PySem.intText? s=some n∧s.length≤640∧R (.int n) M
theorem vk:K0 X (.type "int") Az:=u8.imp kB fun xs H Q ⟨ds,M,R,hl,am,⟨s,n,z,hn,hk,r⟩,f⟩=>by
 subst z
 obtain⟨v,rfl,hv⟩:=hl.one
 cases hv
 exact⟨s,n,rfl,hn,hk,f _ M r _ H (KT.refl H) am (.int _)⟩
noncomputable def inS(i j:Str):Bool:=!(Builtin.Str.occurrences j i 0 j.length 1).isEmpty
def FD(neg:Bool):DR2:=fun x y M R=>∃ i j,x = .str i∧y = .str j∧R (.bl (if neg then !inS i j else inS i j)) M
theorem tI:DOp X (compareOp .NotIn) (FD true):=by
 intro pins s σ H x y v u Q I rx ry h
 obtain⟨dx,dy,M,R,hx,hy,am,⟨i,j,e1,e2,r⟩,f⟩:=h
 subst e1;subst e2
 cases hx;cases hy
 exact fo pins s σ H _ _ v u Q I rx ry ⟨i,j,rfl,rfl,f _ M r _ H (KT.refl H) am (.bl _)⟩
variable {a b:Expr} {ta tb:DTE} {pos p2:Pos}
def Dg(x y:D)(M:Mem)(R:DK):Prop:=∃(z:Str) (i:Nat) (c:Nat),x = .str z∧y = .int (i:Int)∧i<2 ^ 62∧z.cps[i]? = some c∧R (.str ⟨#[c]⟩) M
def FR(ta tb:DTE):DTE:=fun e M R=>ta e M fun x M1=>tb e M1 fun y M2=>Dg x y M2 R
theorem CS(ha:JE X a ta)(hb:JE X b tb)(hs:jt b:=by intro _ _;with_unfolding_all rfl):JE X (.Subscript a b pos) (FR ta tb) :=
 ⟨(ip ha.out hb.out hs).imp fun σ H Q ⟨e,M,R,ok,am,t,f⟩=>⟨e,M,_,ok,am,t,fun x M1 h1 v H1 k1 a1 r1=>⟨e,M1,_,ok.mono k1,a1,h1,fun y M2 ⟨z,i,c,e1,e2,hi,hc,r⟩ u H2 k2 a2 r2=>by
  subst e1;subst e2
  cases r1;cases r2
  have hl:i<z.cps.size:=by
   rcases LZ i z.cps.size with q|q
   ·exact q
   ·rw[Array.getElem?_eq_none q]at hc;cases hc
  exact⟨z,(i:Int),c,rfl,rfl,LO _,by omega,by show(i:Int)<(z.cps.size:Int);omega,by rw[Ka];exact hc,f _ M2 r _ H2 (k1.trans k2) a2 (.str _)⟩⟩⟩⟩
def De(x:D)(lo hi:Option Int)(M:Mem)(R:DK):Prop:=∃ z,x = .str z∧z.length≤sizeLine∧R (.str (Txt.slice z lo hi)) M
def FK(te:DTE)(tl th:DTO):DTE:=fun e M R=>te e M fun x M1=>tl e M1 fun l M2=>th e M2 fun u M3=>De x l u M3 R
theorem kl{e:Expr}{te:DTE}{lo hi:Option Expr}{tl th:DTO}(he:JE X e te)(hl:JO X lo tl)(hu:JO X hi th):JE X (.Subscript e (.Slice lo hi none p2) pos) (FK te tl th) :=
 ⟨(ik Bz he.out hl.out hu.out).imp fun σ H Q ⟨e,M,R,ok,am,t,f⟩=>⟨e,M,_,ok,am,t,fun x M1 h1 v H1 k1 a1 r1=>⟨e,M1,_,ok.mono k1,a1,h1,fun l M2 h2 H2 k2 a2=>⟨e,M2,_,(ok.mono k1).mono k2,a2,h2,fun u M3 ⟨z,e1,hz,r⟩ H3 k3 a3=>by
  subst e1
  cases r1
  exact⟨z,rfl,hz,f _ M3 r _ H3 (k1.trans (k2.trans k3)) a3 (.str _)⟩⟩⟩⟩⟩
noncomputable def sgD(x:Str):List D:=x.cps.toList.map fun c=>D.str ⟨#[c]⟩
def AE(ti:DTE):DTI:=fun e M R=>ti e M fun x M1=>∃ z,x = .str z∧R (sgD z) (fun _=>True) M1
theorem rp{K:IT}{H1:Hp}{z:Str}:gk K H1 (Its z) (sgD z) (fun _=>True) where
 go:=fun i H2 M2 hi k am st=>by unfold sgD at hi;rw[IW,Array.length_toList]at hi;exact hi
 yld:=fun i H2 M2 x H3 hi k am st ⟨e,c,hc,hx⟩=>by
  subst e;subst hx
  exact⟨.str ⟨#[c]⟩,by unfold sgD;rw[Ju,Array.getElem?_toList,hc];rfl,KT.refl _,am,.str _⟩
 stop:=fun i H2 M2 hi k am st=>by unfold sgD at hi;rw[IW,Array.length_toList]at hi;exact hi
 up:=fun _ _ _ _ _=>trivial
theorem yc{tg iter:Expr}{ti:DTE}(hi:JE X iter ti):JI X tg iter (AE ti):=⟨PI.imp (Cb hi.out) fun σ H R ⟨e,M,R1,ok,am,t,f⟩=>⟨e,M,_,ok,am,t,fun x M1 ⟨z,e1,r⟩ v H1 k1 a1 r1=>by
 subst e1
 cases r1
 exact⟨z,rfl,f _ _ M1 r H1 k1 a1 _ rp⟩⟩⟩
end
section
variable {X:Cx} {o e:Expr} {to:DTE} {t:DTA} {apos cpos:Pos}
def Dx(g:Str→List D→Mem→DK→Prop)(to:DTE)(t:DTA):DTE:=fun e M R=>to e M fun x M1=>∃ z,x = .str z∧t e M1 fun xs M2=>g z xs M2 R
def Av(z:Str)(xs:List D)(M:Mem)(R:DK):Prop:=∃ y:Str,xs=[.str y]∧(y.length == 0)=false∧z.length≤sizeLine∧R (.tup [.str (Txt.partition z y).1,.str (Txt.partition z y).2.1,.str (Txt.partition z y).2.2]) M
def uu(z:Str)(xs:List D)(M:Mem)(R:DK):Prop:=∃ y:Str,xs=[.str y]∧(y.length == 0)=false∧z.length+2≤sizeLine∧R (.vl ((Txt.split z y).map D.str)) M
def BP(r:V→List V→Hp→VK→Prop)(K:IT)(g:Str→List D→Mem→DK→Prop):Prop:=∀(z:Str) (xs:List D) (M:Mem) (R:DK) (H H0:Hp) (Q:VK) (vs:List V),g z xs M R→m7 K H M→HasL K H vs xs→KT H0 H→Z2 K H0 R Q→r (.str z) vs H Q
theorem S2{n:Str}{id:String}{r:V→List V→Hp→VK→Prop}{g:Str→List D→Mem→DK→Prop}(slot:PySem.Slot "str" n id)(hty:typeOf (.builtin id)=pure (.type "method_descriptor"))(hm:MtR X id r)(hg:BP r X.K g)(ho:JE X o to)(ha:JA X [e] t)
  (hbase:attributeBase o n X.env (eval o X.env)=eval o X.env:=by rfl)
  (hfew:((backTo cpos (starEach [e] X.env)).all (fun x=>!x.1) && (backToKw cpos (keywordEach [] X.env)).all (fun x=>x.1.isSome)
   && decide ([e].length+([]:List Keyword).length+(if ([]:List Keyword).isEmpty then 0 else 1)<30))=true:=by rfl)
  (hline:(apos.endLine == cpos.line)=true:=by rfl) (hs:starEach [e] X.env=(false,eval e X.env) :: starEach [] X.env:=by rfl) (hplain:(backTo cpos (starEach [] X.env)).any (·.1)=false:=by rfl) :
  JE X (.Call (.Attribute o n apos) [e] [] cpos) (Dx g to t) :=
 ⟨(ir PySem.F.plainAttrs_str slot hty hm ho.out ha.out hbase hfew hline hs hplain).imp fun σ H Q ⟨e,M,R,ok,am,t,f⟩=>⟨e,M,_,ok,am,t,fun x M1 ⟨z,e1,h1⟩ v H1 k1 a1 r1=>by
  subst e1
  cases r1
  exact⟨rfl,e,M1,_,ok.mono k1,a1,h1,fun zs M2 h2 vs H2 k2 a2 r2=>hg z zs M2 R H2 H Q vs h2 a2 r2 (k1.trans k2) f⟩⟩⟩
theorem B3{K:IT}:BP (fun x xs H Q=>∃ z y,x = .str z∧xs=[.str y]∧(y.length == 0)=false∧z.length≤sizeLine ∧
  ∀ p,H p=none→Q (.ref p) (L2.upd H p (.tup [.str (Txt.partition z y).1,.str (Txt.partition z y).2.1,.str (Txt.partition z y).2.2]))) K Av:=fun z xs M R H H0 Q vs ⟨y,e,hy,hz,r⟩ am l k f=>by
 subst e
 obtain⟨v,rfl,hv⟩:=l.one
 cases hv
 exact⟨z,y,rfl,rfl,hy,hz,fun p hp=>f _ M r _ _ (k.trans (KT.alloc hp)) (am.alloc hp) (.tup (SqT.of j4) (.cons (.str _) (.cons (.str _) (.cons (.str _) .nil))))⟩
theorem ei{K:IT}{H:Hp}:∀(ys:List Str),HasL K H (ys.map V.str) (ys.map D.str)
 | []=>.nil
 | _ :: ys=>.cons (.str _) (ei ys)
theorem uc{n:Str}(hn:n = "split")(slot:PySem.Slot "str" n "str.split")(ho:JE X o to)(ha:JA X [e] t)
  (hbase:attributeBase o n X.env (eval o X.env)=eval o X.env:=by rfl)
  (hfew:((backTo cpos (starEach [e] X.env)).all (fun x=>!x.1) && (backToKw cpos (keywordEach [] X.env)).all (fun x=>x.1.isSome)
   && decide ([e].length+([]:List Keyword).length+(if ([]:List Keyword).isEmpty then 0 else 1)<30))=true:=by rfl)
  (hline:(apos.endLine == cpos.line)=true:=by rfl) (hs:starEach [e] X.env=(false,eval e X.env) :: starEach [] X.env:=by rfl) (hplain:(backTo cpos (starEach [] X.env)).any (·.1)=false:=by rfl) :
  JE X (.Call (.Attribute o n apos) [e] [] cpos) (Dx uu to t) :=
 ⟨(X4 (ir PySem.F.plainAttrs_str slot PySem.F.type_str_split tS ho.out ha.out hbase hfew hline hs hplain)).imp fun σ H Q ⟨e,M,R,ok,am,t,f⟩=>⟨e,M,_,ok,am,t,fun x M1 ⟨z,e1,h1⟩ v H1 k1 a1 r1=>by
  subst e1
  cases r1
  refine⟨rfl,e,M1,_,ok.mono k1,a1,h1,fun zs M2 ⟨y,e2,hy,hz,r⟩ vs H2 k2 a2 r2=>?_⟩
  subst e2
  obtain⟨v,rfl,hv⟩:=r2.one
  cases hv
  exact⟨z,y,rfl,rfl,hy,hz,fun p hp=>V2 f (k1.trans k2) a2 (ei _) r p hp⟩⟩⟩
theorem xu{K:IT}:BP (fun x xs H Q=>∃ z n,x = .str z∧xs=[.int n]∧PadOk n=true∧Q (.str (Txt.zfill z n)) H) K (fun z xs M R=>∃ n:Int,xs=[.int n]∧PadOk n=true∧R (.str (Txt.zfill z n)) M):=fun z xs M R H H0 Q vs ⟨y,e,hp,r⟩ am l k f=>by
 subst e
 obtain⟨v,rfl,hv⟩:=l.one
 cases hv
 exact⟨z,y,rfl,rfl,hp,f _ M r _ H k am (.str _)⟩
theorem pR:bootBuiltins "divmod" = some (.builtin "divmod"):=by decide +kernel
def nF:DRC:=fun ds M R=>∃ a b:Int,ds=[.int a,.int b]∧CFd a b∧R (.tup [.int (a.fdiv b),.int (a.fmod b)]) M
theorem vm:K0 X (.builtin "divmod") nF:=u8.imp pJ fun xs H Q ⟨ds,M,R,hl,am,⟨a,b,z,⟨h0,hn⟩,r⟩,f⟩=>by
 subst z
 obtain⟨v,v2,rfl,hv,hv2⟩:=hl.two
 cases hv;cases hv2
 exact⟨a,b,rfl,h0,hn,fun p hp=>f _ M r _ _ (KT.alloc hp) (am.alloc hp) (.tup (SqT.of j4) (.cons (.int _) (.cons (.int _) .nil)))⟩
end
section
variable {X:Cx} {x:Expr} {t:DTE}
end
section
variable {M:Mem} {R:DK} {e:Ev} {to ta tb:DTE} {t:DTA}
theorem qX{s:Str}:Ax [.str s] M R=(s.length≤sizeLine∧R (.int (s.length:Int)) M):=propext ⟨fun⟨_,a,c,r⟩=>by cases a;exact⟨c,r⟩,fun⟨c,r⟩=>⟨_,rfl,c,r⟩⟩
theorem qZ{s:Str}:Az [.str s] M R=(∃ n:Int,PySem.intText? s=some n∧s.length≤640∧R (.int n) M):=propext ⟨fun⟨_,n,a,b,c,r⟩=>by cases a;exact⟨n,b,c,r⟩,fun⟨n,b,c,r⟩=>⟨_,n,rfl,b,c,r⟩⟩
theorem zL{neg:Bool}{i j:Str}:FD neg (.str i) (.str j) M R=R (.bl (neg.xor (inS i j))) M:=propext ⟨fun⟨_,_,a,b,r⟩=>by cases a;cases b;cases neg<;>simpa using r,fun r=>⟨_,_,rfl,rfl,by cases neg<;>simpa using r⟩⟩
theorem zJ:FR ta tb e M R=ta e M fun x M1=>tb e M1 fun y M2=>Dg x y M2 R:=rfl
theorem yt{z:Str}{i:Int}{c:Nat}(h0:0≤i)(h1:i<1000000)(hc:z.cps[i.toNat]? = some c)(r:R (.str ⟨#[c]⟩) M):Dg (.str z) (.int i) M R:=⟨z,i.toNat,c,rfl,by rw[Int.toNat_of_nonneg h0],by omega,hc,r⟩
theorem zr{tl th:DTO}:FK ta tl th e M R=ta e M fun x M1=>tl e M1 fun l M2=>th e M2 fun u M3=>De x l u M3 R:=rfl
theorem qC{z:Str}{lo hi:Option Int}:De (.str z) lo hi M R=(z.length≤sizeLine∧R (.str (Txt.slice z lo hi)) M):=propext ⟨fun⟨_,a,c,r⟩=>by cases a;exact⟨c,r⟩,fun⟨c,r⟩=>⟨_,rfl,c,r⟩⟩
def Gf(x:D)(M:Mem)(Q:List D→(Mem→Prop)→Mem→Prop):Prop:=∃ z,x = .str z∧Q (sgD z) (fun _=>True) M
theorem qG{z:Str}{Q:List D→(Mem→Prop)→Mem→Prop}:Gf (.str z) M Q=Q (sgD z) (fun _=>True) M:=propext ⟨fun⟨_,a,r⟩=>by cases a;exact r,fun r=>⟨_,rfl,r⟩⟩
theorem md{Q:List D→(Mem→Prop)→Mem→Prop}:AE ta e M Q=ta e M fun x M1=>Gf x M1 Q:=rfl
def Gg(x:D)(P:Str→Prop):Prop:=∃ z,x = .str z∧P z
theorem qH{z:Str}{P:Str→Prop}:Gg (.str z) P=P z:=propext ⟨fun⟨_,a,r⟩=>by cases a;exact r,fun r=>⟨_,rfl,r⟩⟩
theorem zF{g:Str→List D→Mem→DK→Prop}:Dx g to t e M R=to e M fun x M1=>Gg x fun z=>t e M1 fun xs M2=>g z xs M2 R:=rfl
theorem lX{z y:Str}:Av z [.str y] M R=((y.length == 0)=false∧z.length≤sizeLine∧R (.tup [.str (Txt.partition z y).1,.str (Txt.partition z y).2.1,.str (Txt.partition z y).2.2]) M):=propext ⟨fun⟨_,a,r⟩=>by cases a;exact r,fun r=>⟨_,rfl,r⟩⟩
theorem gH{z y:Str}:uu z [.str y] M R=((y.length == 0)=false∧z.length+2≤sizeLine∧R (.vl ((Txt.split z y).map D.str)) M):=propext ⟨fun⟨_,a,r⟩=>by cases a;exact r,fun r=>⟨_,rfl,r⟩⟩
theorem dR{a b:Int}:nF [.int a,.int b] M R=(CFd a b∧R (.tup [.int (a.fdiv b),.int (a.fmod b)]) M):=propext ⟨fun⟨_,_,z,r⟩=>by cases z;exact r,fun r=>⟨_,_,rfl,r⟩⟩
end
def noX(sp:DSp):DSp:=fun ds M R _=>sp ds M R fun _ _=>False
theorem FnX.nox{P:Program}{w:World}{K:IT}{mg:Str→Option Value}{base:Heap}{x:Str}{k:Nat}{ps:List Str}{sp:DSp}(G:FnX P w K mg base x k ps sp):Fn P w K mg base x k ps (noX sp):=G.fn fun _ _ _ _ h=>h
theorem zm{sp:DSp}{ds:List D}{M:Mem}{R:DK}{Y:DXK}:noX sp ds M R Y=sp ds M R fun _ _=>False:=rfl
end DL
namespace GM
open PySem PySem.Spec L2 DL
open RM (sz)
theorem CC(a b:String):Str.ofString (a++b)=Str.ofString a++Str.ofString b:=by
 rw[Str.ofString_eq_toList,Str.ofString_eq_toList,Str.ofString_eq_toList]
 show Str.mk _=Str.mk _
 congr 1
 rw[String.toList_append,Jt]
 simp
theorem mP{a b:Str}(h:a.cps=b.cps):a=b:=by cases a;cases b;exact congrArg Str.mk h
theorem yK(a b:Str):(a++b).cps=a.cps++b.cps:=rfl
theorem j5(a b:Str):(a++b).length=a.length+b.length:=by
 show(a.cps++b.cps).size=_
 rw[Array.size_append];rfl
theorem xU(a:Str):Str.ofString "" ++ a=a:=mP (by rw[yK];show #[]++a.cps=a.cps;simp)
noncomputable def tx(n:Int):Str:=Str.ofString (toString n)
theorem G5{n:Int}{k:Nat}(hk:0<k)(h:n.natAbs<10 ^ k):(tx n).length≤k+1:=by
 unfold tx
 rw[ofString_length];exact int_text_length_le10 hk h
theorem aC(n:Int):(if n<0 then Str.ofString "-" else Str.ofString "")++tx (n.natAbs:Int)=tx n:=by
 cases n with
 | ofNat m =>
  rw[if_neg (by show ¬ (m:Int)<0;omega),xU];rfl
 | negSucc m =>
  rw[if_pos (Int.negSucc_lt_zero m)]
  unfold tx
  rw[← CC];rfl
noncomputable def rtx(q:Rat):Str:=if q.den=1 then tx q.num else tx q.num++Str.ofString "/" ++ tx (q.den:Int)
theorem An{q:Rat}(h:sz q≤41):q.num.natAbs<10 ^ 13:=IX (nk q h) (by decide)
theorem AJ{q:Rat}(h:sz q≤41):((q.den:Int)).natAbs<10 ^ 13:=by rw[Jl];exact IX (nP q h) (by decide)
theorem z9{q:Rat}(h:sz q≤41):(rtx q).length≤29:=by
 have h1:=G5 (by decide) (An h)
 have h2:=G5 (by decide) (AJ h)
 unfold rtx
 split
 ·omega
 ·rw[j5,j5,show(Str.ofString "/").length=1 by decide +kernel];omega
noncomputable def ptx(x:Str × Rat):Str:=x.1++Str.ofString " " ++ rtx x.2
theorem bG{x:Str × Rat}(h:p7 x):x.1.length≤5:=by
 rcases h.kind with⟨e,_⟩|e|⟨e,_⟩<;>rw[e]<;>decide +kernel
theorem mY{x:Str × Rat}(h:p7 x):(ptx x).length≤35:=by
 have h1:=bG h
 have h2:=z9 h.sz
 unfold ptx
 rw[j5,j5,show(Str.ofString " ").length=1 by decide +kernel];omega
theorem pj(sep:Str){xs:List Str}(h:xs≠[])(y:Str):Txt.join sep (xs++[y])=Txt.join sep xs++sep++y:=by
 cases xs with
 | nil=>exact absurd rfl h
 | cons x xs =>
  refine mP ?_
  show(xs++[y]).foldl (fun acc p=>acc++sep.cps++p.cps) x.cps=(xs.foldl (fun acc p=>acc++sep.cps++p.cps) x.cps++sep.cps)++y.cps
  rw[List.foldl_append];rfl
noncomputable def btx(bs:List (Str × Rat)):Str:=if bs=[]then Str.ofString "none" else Txt.join (Str.ofString "; ") (bs.map ptx)
theorem ba:btx []=Str.ofString "none" := if_pos rfl
theorem vn{bs:List (Str × Rat)}{i:Nat}{x:Str × Rat}(h:bs[i]? = some x):btx (bs.take (i+1))=if i=0 then ptx x else btx (bs.take i)++Str.ofString "; " ++ ptx x:=by
 have tk:bs.take (i+1)=bs.take i++[x]:=by rw[LW,h];rfl
 have hi:=(Jm.mp h).1
 unfold btx
 rw[if_neg (by rw[tk];simp),tk,Jt]
 by_cases z:i=0
 ·subst z;rw[if_pos rfl];rfl
 ·have ne:bs.take i≠[]:=fun e=>by
   have:=congrArg Kj e
   rw[Jw]at this
   have h0:([]:List (Str × Rat)).length=0:=rfl
   omega
  rw[if_neg z,if_neg ne]
  exact pj _ (fun e=>ne (LK.mp e)) _
theorem gh{bs:List (Str × Rat)}(hp:∀ x∈bs,p7 x):∀ i,i≤bs.length→(btx (bs.take i)).length≤4+40*i
 | 0,_=>by rw[KZ,ba];decide +kernel
 | i+1,h=>by
  have hx:=Ji (l:=bs) (i:=i) (by omega)
  have ih:=gh hp i (by omega)
  have p:=mY (hp _ (Lh (l:=bs) (n:=i) (by omega)))
  rw[vn hx]
  split
  ·omega
  ·rw[j5,j5,show(Str.ofString "; ").length=2 by decide +kernel];omega
theorem nZ{bs:List (Str × Rat)}(hp:∀ x∈bs,p7 x)(hl:bs.length≤12):(btx bs).length≤500:=by
 have:=gh hp bs.length (Ja _)
 rw[Kf]at this;omega
theorem mX{bs:List (Str × Rat)}(hp:∀ x∈bs,p7 x):((bs.map ptx).map (·.length)).sum≤35*bs.length:=by
 induction bs with
 | nil=>exact Ja _
 | cons x bs ih =>
  have h1:=mY (hp x IZ)
  have h2:=ih fun y hy=>hp y (Jc _ hy)
  simp only[IY,List.sum_cons,Jv]at h2 ⊢
  omega
noncomputable def htx(near:Rat)(bs:List (Str × Rat))(far:Rat):Str:=rtx near++Str.ofString " | " ++ btx bs++Str.ofString " | " ++ rtx far
theorem A2:1000000≤sizeLine:=by rw[sizeLine_eq];decide
abbrev eY(n:Int)(M:Mem)(R:DK)(Y:DXK):Prop:=n.natAbs<10 ^ 13∧R (.str (tx n)) M
def BE:DSp:=fun ds M R Y=>∃(n:Int),ds=[.int n]∧eY n M R Y
theorem pW{n:Int}{M:Mem}{R:DK}{Y:DXK}:BE [.int n] M R Y=(eY n M R Y):=propext ⟨fun z=>by obtain⟨_,_,_⟩:=z;walk_at "inj",fun h=>⟨n,rfl,h⟩⟩
abbrev fb(q:Rat)(M:Mem)(R:DK)(Y:DXK):Prop:=sz q≤41∧R (.str (rtx q)) M
def ie:DSp:=fun ds M R Y=>∃(q:Rat),ds=[g8 q]∧fb q M R Y
theorem pY{q:Rat}{M:Mem}{R:DK}{Y:DXK}:ie [g8 q] M R Y=(fb q M R Y):=propext ⟨fun z=>by obtain⟨_,_,_⟩:=z;walk_at "inj",fun h=>⟨q,rfl,h⟩⟩
abbrev fe(x:Str × Rat)(M:Mem)(R:DK)(Y:DXK):Prop:=p7 x∧R (.str (ptx x)) M
def BG:DSp:=fun ds M R Y=>∃(x:Str × Rat),ds=[i5 x]∧fe x M R Y
theorem pZ{x:Str × Rat}{M:Mem}{R:DK}{Y:DXK}:BG [i5 x] M R Y=(fe x M R Y):=propext ⟨fun z=>by obtain⟨_,_,_⟩:=z;walk_at "inj",fun h=>⟨x,rfl,h⟩⟩
abbrev bY(bs:List (Str × Rat))(M:Mem)(R:DK)(Y:DXK):Prop:=(bs.length≤12∧∀ x∈bs,p7 x)∧R (.str (btx bs)) M
def sE:DSp:=fun ds M R Y=>∃(x0:D) (bs:List (Str × Rat)),ds=[x0]∧(x0 = .vl (bs.map i5)∨x0 = .tup (bs.map i5))∧bY bs M R Y
theorem qe{bs:List (Str × Rat)}{M:Mem}{R:DK}{Y:DXK}:sE [.vl (bs.map i5)] M R Y=(bY bs M R Y):=propext ⟨fun z=>by obtain⟨_,_,_,_,_⟩:=z;walk_at "injs",fun h=>⟨_,bs,rfl,.inl rfl,h⟩⟩
theorem gE{bs:List (Str × Rat)}{M:Mem}{R:DK}{Y:DXK}:sE [.tup (bs.map i5)] M R Y=(bY bs M R Y):=propext ⟨fun z=>by obtain⟨_,_,_,_,_⟩:=z;walk_at "injs",fun h=>⟨_,bs,rfl,.inr rfl,h⟩⟩
abbrev bX(near:Rat)(bs:List (Str × Rat))(far:Rat)(M:Mem)(R:DK)(Y:DXK):Prop:=(sz near≤41∧sz far≤41∧bs.length≤12∧∀ x∈bs,p7 x)∧R (.str (htx near bs far)) M
def xn:DSp:=fun ds M R Y=>∃(x0:D) (near:Rat) (bs:List (Str × Rat)) (far:Rat),ds=[.tup [g8 near,x0,g8 far]]∧(x0 = .vl (bs.map i5)∨x0 = .tup (bs.map i5))∧bX near bs far M R Y
theorem qa{near:Rat}{bs:List (Str × Rat)}{far:Rat}{M:Mem}{R:DK}{Y:DXK}:xn [.tup [g8 near,.vl (bs.map i5),g8 far]] M R Y=(bX near bs far M R Y):=propext ⟨fun z=>by obtain⟨_,_,_,_,_,_,_⟩:=z;walk_at "injs",fun h=>⟨_,near,bs,far,rfl,.inl rfl,h⟩⟩
theorem gD{near:Rat}{bs:List (Str × Rat)}{far:Rat}{M:Mem}{R:DK}{Y:DXK}:xn [.tup [g8 near,.tup (bs.map i5),g8 far]] M R Y=(bX near bs far M R Y):=propext ⟨fun z=>by obtain⟨_,_,_,_,_,_,_⟩:=z;walk_at "injs",fun h=>⟨_,near,bs,far,rfl,.inr rfl,h⟩⟩
abbrev aI(bs:List (Str × Rat))(M:Mem)(R:DK)(Y:DXK):Prop:=(bs.length≤12∧∀ x∈bs,p7 x)∧R (.str (btx bs)) M
def sj:DSp:=fun ds M R Y=>∃(bs:List (Str × Rat)),ds=[.vl (bs.map i5)]∧aI bs M R Y
theorem kQ{bs:List (Str × Rat)}{M:Mem}{R:DK}{Y:DXK}:sj [.vl (bs.map i5)] M R Y=(aI bs M R Y):=propext ⟨fun z=>by obtain⟨_,_,_⟩:=z;walk_at "inj",fun h=>⟨bs,rfl,h⟩⟩
end GM
namespace GM
open PySem PySem.Spec L2 DL
open RM (sz)
open PySem.NumText
noncomputable def isF(c:Nat):Bool:=decide (48≤c) && decide (c≤57)
noncomputable def J2(cs:List Nat):Bool:=!cs.isEmpty && (cs.drop 300).isEmpty && cs.all isF && (decide (cs=[48]) || decide (cs.head? ≠ some 48))
theorem L9(cs:List Nat):J2 cs=(decide (cs.length≠0) && decide (cs.length≤300) && cs.all isF && (decide (cs=[48]) || decide (cs.head? ≠ some 48))):=by
 have h1:(!cs.isEmpty)=decide (cs.length≠0):=by cases cs<;>simp
 have h2:(cs.drop 300).isEmpty=decide (cs.length≤300):=by
  rw[Ki,Mh,List.drop_eq_nil_iff,decide_eq_true_eq]
 unfold J2
 rw[h1,h2]
noncomputable def rdW(cs:List Nat):Option Int:=if J2 cs then some (digitsVal cs:Nat)else match cs with
 | 45 :: r=>if J2 r && decide (r≠[48])then some (-((digitsVal r:Nat):Int))else none
 | _=>none
noncomputable def cf:Option Int→D
 | some n=>.int n
 | none=>.non
noncomputable def z8(c:Nat)(cs:List Nat):List Nat × Bool × List Nat:=(cs.takeWhile (· != c),decide (c∈cs),(cs.dropWhile (· != c)).tail)
noncomputable def mK(cs:List Nat):Option (Int × Nat):=match rdW (z8 47 cs).1,(if (z8 47 cs).2.1 then rdW (z8 47 cs).2.2 else some 1)with
 | some n,some d=>if decide (1≤d) && decide (JK n.natAbs d.natAbs=1) && decide ((z8 47 cs).2.2≠[49])then some (n,d.natAbs)else none
 | _,_=>none
noncomputable def rdR(cs:List Nat):Option Rat:=(mK cs).map fun p=>mkRat p.1 p.2
noncomputable abbrev sg(s:Str):List Nat:=s.cps.toList
theorem jH{s t:Str}(h:sg s=sg t):s=t:=by
 cases s;cases t
 exact congrArg Str.mk (Array.toList_inj.mp h)
theorem Ae(cs:List Nat):sg ⟨cs.toArray⟩=cs:=rfl
theorem y4(s:Str):(sg s).length=s.length:=Array.length_toList
theorem Dl(c:Nat):inS ⟨#[c]⟩ (Str.ofString "0123456789")=isF c:=by
 unfold inS
 rw[StrLaws.found_one]
 rw[show(Str.ofString "0123456789").cps.toList=[48,49,50,51,52,53,54,55,56,57]by decide +kernel]
 unfold isF
 rw[← Bool.decide_and]
 refine decide_eq_decide.mpr ⟨fun h=>?_,fun h=>?_⟩
 ·simp only[Jj,Js,or_false]at h;omega
 ·simp only[Jj,Js,or_false];omega
theorem aW{cs:List Nat}(h:J2 cs=true):(0<cs.length∧cs.length≤300)∧AllDigits cs∧(cs=[48]∨cs.head? ≠ some 48):=by
 rw[L9]at h
 simp only[JH,Jz,decide_eq_true_eq]at h
 obtain⟨⟨⟨h1,h2⟩,h3⟩,h4⟩:=h
 refine⟨⟨by omega,h2⟩,fun c hc=>?_,h4⟩
 have:=Mi.mp h3 c hc
 unfold isF at this
 simpa using this
theorem nK{s:Str}(h:J2 (sg s)=true):PySem.intText? s=some ((digitsVal (sg s):Nat):Int):=by
 obtain⟨⟨h1,h2⟩,h3,_⟩:=aW h
 exact intText_digits h3 (fun e=>by rw[show sg s=[]from e]at h1;exact absurd h1 (by decide)) (by rw[← y4];omega)
theorem CZ(j n:Nat):Builtin.Str.strSliceIndices none (some (j:Int)) 1 n=Builtin.Str.strSliceIndices none (some ((min j n:Nat):Int)) 1 n:=by
 have a:¬ ((j:Int)<0):=by omega
 have b:¬ (((min j n:Nat):Int)<0):=by omega
 have e:max (0:Int) (min (j:Int) n)=max 0 (min ((min j n:Nat):Int) n):=by omega
 unfold Builtin.Str.strSliceIndices
 simp only[if_neg a,if_neg b,show(1:Int) > 0 by decide,if_true,e]
theorem CY(i n:Nat):Builtin.Str.strSliceIndices (some (i:Int)) none 1 n=Builtin.Str.strSliceIndices (some ((min i n:Nat):Int)) none 1 n:=by
 have a:¬ ((i:Int)<0):=by omega
 have b:¬ (((min i n:Nat):Int)<0):=by omega
 have e:max (0:Int) (min (i:Int) n)=max 0 (min ((min i n:Nat):Int) n):=by omega
 unfold Builtin.Str.strSliceIndices
 simp only[if_neg a,if_neg b,show(1:Int) > 0 by decide,if_true,e]
theorem EW(s:Str)(j:Nat):sg (Txt.slice s none (some (j:Int)))=(sg s).take j:=by
 have e:Txt.slice s none (some (j:Int))=StrLaws.sliceText s none (some ((min j s.length:Nat):Int)):=by
  unfold Txt.slice StrLaws.sliceText
  rw[CZ]
 have hl:s.cps.toList.length=s.length:=y4 s
 rw[e,StrLaws.sliceText_to ⟨by omega,by omega⟩,Ae,MA,Int.sub_zero,Ka]
 show(sg s).take (min j s.length)=_
 rw[← y4,List.take_eq_take_iff];omega
theorem xk(s:Str)(i:Nat):sg (Txt.slice s (some (i:Int)) none)=(sg s).drop i:=by
 have e:Txt.slice s (some (i:Int)) none=StrLaws.sliceText s (some ((min i s.length:Nat):Int)) none:=by
  unfold Txt.slice StrLaws.sliceText
  rw[CY]
 have hl:s.cps.toList.length=s.length:=y4 s
 rw[e,StrLaws.sliceText_from ⟨by omega,by omega⟩,Ae,Ka]
 show((sg s).drop (min i s.length)).take _=_
 rw[JV (by rw[JB];show(sg s).length - _≤_;rw[y4];omega)]
 rcases Nat.le_total i s.length with h|h
 ·rw[Mu h]
 ·rw[Mf h,← y4,Lm (Ja _),Lm (by rw[y4];exact h)]
theorem eG{n:Nat}(h:n≤100000):n≤sizeLine:=by rw[sizeLine_eq];omega
theorem mU{cs:List Nat}(h:J2 cs=true):rdW cs=some ((digitsVal cs:Nat):Int):=by unfold rdW;rw[if_pos h]
theorem xq{r:List Nat}(h:J2 (45 :: r)=false):rdW (45 :: r)=if J2 r && decide (r≠[48])then some (-((digitsVal r:Nat):Int))else none:=by
 unfold rdW
 rw[if_neg (by rw[h];decide)]
 rfl
theorem BL{cs:List Nat}(h:J2 cs=false)(h2:cs.take 1≠[45]):rdW cs=none:=by
 unfold rdW
 rw[if_neg (by rw[h];decide)]
 split
 ·exact absurd rfl h2
 ·rfl
theorem Af{s:Str}{t:Str}:s=t↔sg s=sg t:=⟨fun h=>by rw[h],jH⟩
theorem rG{cs:List Nat}{c:Nat}:cs.take 1=[c] ↔ ∃ r,cs=c :: r:=by
 cases cs with
 | nil=>exact⟨fun h=>(by cases h),fun⟨r,e⟩=>(by cases e)⟩
 | cons a r=>exact⟨fun h=>⟨r,(by cases h;rfl)⟩,fun⟨r',e⟩=>(by cases e;rfl)⟩
abbrev aN(s:Str)(M:Mem)(R:DK)(Y:DXK):Prop:=s.length≤100000∧R (.bl (J2 (sg s))) M
def sA:DSp:=fun ds M R Y=>∃(s:Str),ds=[.str s]∧aN s M R Y
theorem kY{s:Str}{M:Mem}{R:DK}{Y:DXK}:sA [.str s] M R Y=(aN s M R Y):=propext ⟨fun z=>by obtain⟨_,_,_⟩:=z;walk_at "inj",fun h=>⟨s,rfl,h⟩⟩
abbrev U0(s:Str)(M:Mem)(R:DK)(Y:DXK):Prop:=s.length≤100000∧R (cf (rdW (sg s))) M
def jO:DSp:=fun ds M R Y=>∃(s:Str),ds=[.str s]∧U0 s M R Y
theorem gx{s:Str}{M:Mem}{R:DK}{Y:DXK}:jO [.str s] M R Y=(U0 s M R Y):=propext ⟨fun z=>by obtain⟨_,_,_⟩:=z;walk_at "inj",fun h=>⟨s,rfl,h⟩⟩
theorem mM{c:Nat}:∀{l:List Nat} {i:Nat},l[i]? = some c→(∀ k,k<i→l[k]? ≠ some c)→l.takeWhile (· != c)=l.take i
 | [],i,h,_=>by simp at h
 | k :: r,0,h,_=>by
  have e:k=c:=by simpa using h
  subst e
  rw[KP (by simp)];rfl
 | k :: r,i+1,h,hn=>by
  have h1:k≠c:=fun e=>hn 0 (by omega) (by simp[e])
  rw[JP (by simp[h1]),mM (l:=r) (i:=i) (by simpa using h) fun j hj=>by have:=hn (j+1) (by omega);simpa using this]
  rfl
theorem W4{c:Nat}:∀{l:List Nat},c∉l→l.takeWhile (· != c)=l
 | [],_=>rfl
 | k :: r,h=>by
  have h1:k≠c:=fun e=>h (e▸IZ ..)
  rw[JP (by simp[h1]),W4 fun m=>h (Jc _ m)]
theorem xI(x:Str)(c:Nat):sg (Txt.partition x ⟨#[c]⟩).1=(z8 c (sg x)).1∧(Txt.partition x ⟨#[c]⟩).2.1=(if (z8 c (sg x)).2.1 then⟨#[c]⟩else Str.empty)∧sg (Txt.partition x ⟨#[c]⟩).2.2=(z8 c (sg x)).2.2:=by
 unfold Txt.partition z8
 rcases StrLaws.occ_head x ⟨#[c]⟩ 1 (Ja 1)with⟨h0,hn⟩|⟨i,r,h0,hi,hn⟩
 ·have hfree:c∉sg x:=fun hm=>by
   obtain⟨j,hj⟩:=List.getElem?_of_mem hm
   exact hn j ((StrLaws.subAt_one x c j).mpr hj)
  rw[h0]
  refine⟨(W4 hfree).symm,?_,?_⟩
  ·show Str.empty=_
   rw[if_neg (by rw[decide_eq_true_eq];exact hfree)]
  ·show[]=_
   rw[PyProof.Rows.dropWhile_none hfree];rfl
 ·rw[h0]
  have hm:=(StrLaws.subAt_one x c i).mp hi
  have hk:∀ k,k<i→(sg x)[k]? ≠ some c:=fun k hk e=>hn k hk ((StrLaws.subAt_one x c k).mpr e)
  refine⟨?_,?_,?_⟩
  ·show(Builtin.Str.strSub x 0 i).cps.toList=_
   rw[StrLaws.strSub_toList,mM hm hk];rfl
  ·show(⟨#[c]⟩:Str)=_
   rw[if_pos (by rw[decide_eq_true_eq];exact JC hm)]
  ·show(Builtin.Str.strSub x (i+1) x.length).cps.toList=_
   rw[StrLaws.strSub_toList,PyProof.Rows.dropWhile_at hm hk]
   show _=x.cps.toList.drop (i+1)
   exact JV (by simp[Str.length])
noncomputable def GO:D→Bool
 | .non=>true
 | .bl _=>true
 | .int _=>true
 | .tup _=>true
 | .vl _=>true
 | _=>false
theorem yB(c:Nat)(cs:List Nat):(z8 c cs).1.length≤cs.length∧(z8 c cs).2.2.length≤cs.length:=by
 refine⟨(List.takeWhile_sublist _).length_le,?_⟩
 have:=(Ln (l:=cs) (· != c)).length_le
 unfold z8
 rw[List.length_tail];omega
theorem ui(a b:Option Int):cB (.tup [cf a,cf b])=match a,b with
  | some n,some d=>decide (1≤d) && decide (JK n.natAbs d.natAbs=1)
  | _,_=>false:=by
 cases a<;>cases b<;>rfl
theorem uA(a b:Option Int):fl1 (.tup [cf a,cf b])=true:=by cases a<;>cases b<;>rfl
theorem BM{n d:Int}(h:(decide (1≤d) && decide (JK n.natAbs d.natAbs=1))=true):D.tup [.int n,.int d]=g8 (mkRat n d.natAbs):=by
 rw[JH,decide_eq_true_eq,decide_eq_true_eq]at h
 obtain⟨k,rfl⟩:=Ku (show 0≤d by omega)
 have h2:JK n.natAbs k=1:=h.2
 have e:mkRat n k = ⟨n,k,by omega,h2⟩:=MB ⟨n,k,by omega,h2⟩
 show _=g8 (mkRat n k)
 rw[e];rfl
abbrev U1(x:D)(M:Mem)(R:DK)(Y:DXK):Prop:=((∃ s,x = .str s∧s.length≤100000∧(∀ q,rdR (sg s)=some q→R (g8 q) M)∧(rdR (sg s)=none→Y (xN "NoText") M))∨(GO x=true∧Y (xN "NoText") M))
def jP:DSp:=fun ds M R Y=>∃(x:D),ds=[x]∧U1 x M R Y
theorem gy{x:D}{M:Mem}{R:DK}{Y:DXK}:jP [x] M R Y=(U1 x M R Y):=propext ⟨fun z=>by obtain⟨_,_,_⟩:=z;walk_at "inj",fun h=>⟨x,rfl,h⟩⟩
noncomputable def F4(w:Str)(q:Rat):Bool:=if w=Str.ofString "gap" then decide (0≤q.num)else if w=Str.ofString "stop" then decide (0<q.num)else decide (w=Str.ofString "glass")
noncomputable def rdP(cs:List Nat):Option (Str × Rat):=match rdR (z8 32 cs).2.2 with
 | some q=>if F4 ⟨(z8 32 cs).1.toArray⟩ q then some (⟨(z8 32 cs).1.toArray⟩,q)else none
 | none=>none
abbrev aH(w:Str)(q:Rat)(M:Mem)(R:DK)(Y:DXK):Prop:=R (.bl (F4 w q)) M
def mS:DSp:=fun ds M R Y=>∃(w:Str) (q:Rat),ds=[.str w,g8 q]∧aH w q M R Y
theorem kP{w:Str}{q:Rat}{M:Mem}{R:DK}{Y:DXK}:mS [.str w,g8 q] M R Y=(aH w q M R Y):=propext ⟨fun z=>by obtain⟨_,_,_,_⟩:=z;walk_at "inj",fun h=>⟨w,q,rfl,h⟩⟩
abbrev U6(w:Str)(q:Rat)(M:Mem)(R:DK)(Y:DXK):Prop:=R (.bl (F4 w q)) M
def sv:DSp:=fun ds M R Y=>∃(w:Str) (q:Rat),ds=[.tup [.str w,g8 q]]∧U6 w q M R Y
theorem kT{w:Str}{q:Rat}{M:Mem}{R:DK}{Y:DXK}:sv [.tup [.str w,g8 q]] M R Y=(U6 w q M R Y):=propext ⟨fun z=>by obtain⟨_,_,_,_⟩:=z;walk_at "inj",fun h=>⟨w,q,rfl,h⟩⟩
theorem gY(m:Nat):sg (tx (m:Int))=(Nat.toDigits 10 m).map Char.toNat:=PySem.W.KIN.signs_num m
theorem bI(m:Nat):AllDigits (sg (tx (m:Int))):=fun c hc=>by
 rw[gY]at hc
 obtain⟨ch,hch,e⟩:=Ma.mp hc
 have h:ch.isDigit=true:=Nat.isDigit_of_mem_toDigits (by decide) (by decide) hch
 rw[← e]
 simp only[Char.isDigit,JH,decide_eq_true_eq]at h
 exact⟨by exact_mod_cast h.1,by exact_mod_cast h.2⟩
theorem pM:∀ x,x<58→(Char.ofNat x).toNat=x:=by decide
theorem cK{cs:List Nat}(h:AllDigits cs):(cs.map Char.ofNat).map Char.toNat=cs:=by
 rw[Kl]
 conv=>rhs;rw[← Mv cs]
 exact KJ fun x hx=>pM x (by have:=h x hx;omega)
theorem aY(m:Nat):digitsVal (sg (tx (m:Int)))=m:=by rw[gY];exact PySem.W.KIN.val_back m
theorem mJ{m:Nat}(h:0<m):∃ c r,sg (tx (m:Int))=c :: r∧49≤c:=by
 have h1:=toDigits_all _ (bI m)
 rw[aY]at h1
 have h2:=gY m
 rw[h1]at h2
 cases hd:(sg (tx (m:Int))).dropWhile (· == 48)with
 | nil =>
  rw[hd]at h1
  have e:m=digitsVal ((Nat.toDigits 10 m).map Char.toNat):=(PySem.W.KIN.val_back m).symm
  rw[h1]at e
  have:m=0:=e
  omega
 | cons c r =>
  rw[hd]at h2
  have hm:∀ x∈c :: r,48≤x∧x≤57:=fun x hx=>bI m x ((Ln _).subset (by rw[hd];exact hx))
  have e:((c :: r).map Char.ofNat).map Char.toNat=c :: r:=cK hm
  refine⟨c,r,?_,?_⟩
  ·rw[h2];exact e
  ·have h3:=hm c IZ
   have h4:(c == 48)=false:=by
    have:=List.head?_dropWhile_not (p:=(· == 48)) (sg (tx (m:Int)))
    rw[hd]at this
    simpa using this
   have:c≠48:=by simpa using h4
   omega
noncomputable def F9(y:List Nat):Nat→List Nat→List Nat→List (List Nat)
 | 0,cs,acc=>[acc.reverse++cs]
 | n+1,cs,acc=>match cs with
  | []=>[acc.reverse]
  | c :: r=>if y.isPrefixOf (c :: r)then acc.reverse :: F9 y n ((c :: r).drop y.length) []else F9 y n r (c :: acc)
noncomputable def mkS(cs:List Nat):Str:=⟨cs.toArray⟩
theorem eI(x:Str)(a b:Nat):sg (Builtin.Str.strSub x a b)=((sg x).drop a).take (b - a):=StrLaws.strSub_toList x a b
theorem vx{x y:Str}{a:Nat}(hy:1≤y.length):StrLaws.At x y x.length a↔(sg y).isPrefixOf ((sg x).drop a)=true:=by
 rw[List.isPrefixOf_iff_prefix,List.prefix_iff_eq_take]
 unfold StrLaws.At
 have e:Builtin.Str.subAt x y a=true↔((sg x).drop a).take y.length=sg y:=by
  unfold Builtin.Str.subAt
  rw[beq_iff_eq,← Array.toList_inj,Array.toList_extract]
  show List.take (a+y.length - a) (List.drop a (sg x))=sg y↔_
  rw[show a+y.length - a=y.length by omega]
 rw[e,y4]
 refine⟨fun h=>h.2.symm,fun h=>⟨?_,h.symm⟩⟩
 have:=congrArg Kj h
 rw[y4,Jw,JB,y4]at this
 omega
theorem X5{x y:Str}(hy:1≤y.length):∀(n a s:Nat) (cuts:List Nat) (f:Nat),s≤a→a≤x.length→x.length<a+n→StrLaws.ChainG x y x.length a cuts f→(∀ k,f≤k→¬ StrLaws.At x y x.length k) →
  (match cuts with
   | []=>[((sg x).drop s).take (x.length - s)]
   | c :: r=>(((sg x).drop s).take (c - s)) :: (StrLaws.partsFrom x y.length (c+y.length) r).map sg)=F9 (sg y) n ((sg x).drop a) (((sg x).drop s).take (a - s)).reverse
 | 0,a,s,cuts,f,h1,h2,h3,_,_=>by omega
 | n+1,a,s,cuts,f,h1,h2,h3,hc,hf=>by
  have hl:=y4 x
  unfold F9
  cases hcs:(sg x).drop a with
  | nil =>
   have ha:a=x.length:=by have:=congrArg Kj hcs;rw[JB,hl]at this;simp only[Lw]at this;omega
   cases cuts with
   | nil=>rw[LB,ha]
   | cons c r =>
    have:=hc.2.1.1
    have:=hc.1
    omega
  | cons c0 r0 =>
   have ha:a<x.length:=by have:=congrArg Kj hcs;rw[JB,hl]at this;simp only[Jv]at this;omega
   have step:((sg x).drop s).take (a+1 - s)=((sg x).drop s).take (a - s)++[c0]:=by
    rw[show a+1 - s=(a - s)+1 by omega,LW]
    congr 1
    rw[LQ,show s+(a - s)=a by omega]
    have:(sg x)[a]? = ((sg x).drop a)[0]?:=by rw[LQ];rfl
    rw[this,hcs];rfl
   have nxt:r0=(sg x).drop (a+1):=by
    have:((sg x).drop a).drop 1=(sg x).drop (a+1):=by rw[MC]
    rw[← this,hcs];rfl
   show _=if (sg y).isPrefixOf (c0 :: r0)=true then _ else _
   by_cases hA:StrLaws.At x y x.length a
   ·have hp:=(vx hy).mp hA
    rw[hcs]at hp
    rw[if_pos hp,LB]
    cases cuts with
    | nil =>
     have e:f=a:=hc
     exact absurd hA (hf a (by omega))
    | cons c r =>
     obtain⟨q1,q2,q3,q4⟩:=hc
     have e:c=a:=by
      rcases LZ a c with z|z
      ·exact absurd hA (q3 a (Ja _) z)
      ·omega
     subst e
     have hb:=q2.1
     show _ :: _=_ :: _
     congr 1
     have ih:=X5 hy n (c+y.length) (c+y.length) r f (Ja _) hb (by omega) q4 hf
     rw[show c+y.length - (c+y.length)=0 by omega]at ih
     rw[show(c0 :: r0).drop (sg y).length=(sg x).drop (c+y.length)by rw[← hcs,MC,y4]]
     rw[show([]:List Nat)=(List.take 0 ((sg x).drop (c+y.length))).reverse by rfl,← ih]
     cases r with
     | nil=>show[sg (Builtin.Str.strSub x _ _)]=_;rw[eI]
     | cons d r=>show sg (Builtin.Str.strSub x _ _) :: _=_;rw[eI]
   ·have hp:¬ (sg y).isPrefixOf (c0 :: r0)=true:=fun z=>hA ((vx hy).mpr (by rw[hcs];exact z))
    rw[if_neg hp]
    have ih:∀ hc2,_:=fun hc2=>X5 (x:=x) hy n (a+1) s cuts (match cuts with|[]=>a+1|_=>f) (by omega) (by omega) (by omega) hc2 (by
     cases cuts with
     | nil =>
      have e:f=a:=hc
      exact fun k hk=>hf k (by have:a+1≤k:=hk;omega)
     | cons c r=>exact hf)
    rw[← nxt,step,List.reverse_append]at ih
    refine ih ?_
    cases cuts with
    | nil=>rfl
    | cons c r =>
     obtain⟨q1,q2,q3,q4⟩:=hc
     refine⟨?_,q2,fun k h5 h6=>q3 k (by omega) h6,q4⟩
     rcases LZ a c with z|z
     ·omega
     ·have e:c=a:=by omega
      rw[e]at q2
      exact absurd q2 hA
theorem rQ{x y:Str}(hy:1≤y.length)(hk:Builtin.Str.strKind y=1){N:Nat}(hN:x.length<N):(Txt.split x y).map sg=F9 (sg y) N (sg x) []:=by
 obtain⟨f,hc,hf⟩:=StrLaws.occ_tight x y hy
 have h:=X5 hy N 0 0 _ f (Ja _) (Jx _) (by omega) hc hf
 rw[show(sg x).drop 0=sg x by rfl,Nat.sub_self,KZ]at h
 rw[show([]:List Nat)=([]:List Nat).reverse from rfl,← h]
 have one:([x].map sg)=[(sg x).take (x.length - 0)]:=by
  rw[LY,← y4,Kf];rfl
 have kx:1≤Builtin.Str.strKind x:=by
  unfold Builtin.Str.strKind
  split
  ·decide
  ·split<;>decide
 unfold Txt.split
 split
 ·rename_i q
  rw[hk,Jz,decide_eq_true_eq,decide_eq_true_eq]at q
  have:Builtin.Str.occurrences x y 0 x.length (x.length+1)=[]:=by
   cases ho:Builtin.Str.occurrences x y 0 x.length (x.length+1)with
   | nil=>rfl
   | cons c r =>
    rw[ho]at hc
    have:=hc.2.1.1
    omega
  rw[this];exact one
 ·split
  ·rename_i q
   rw[Mh]at q
   rw[q];exact one
  ·rw[StrLaws.partsBetween_eq]
   cases Builtin.Str.occurrences x y 0 x.length (x.length+1)with
   | nil=>show[sg (Builtin.Str.strSub x _ _)]=_;rw[eI];rfl
   | cons c r=>show sg (Builtin.Str.strSub x _ _) :: _=_;rw[eI];rfl
theorem rR{x y:Str}(hy:1≤y.length)(hk:Builtin.Str.strKind y=1){N:Nat}(hN:x.length<N):Txt.split x y=(F9 (sg y) N (sg x) []).map mkS:=by
 rw[← rQ hy hk hN,Kl]
 conv=>lhs;rw[← Mv (Txt.split x y)]
 exact KJ fun s _=>by show s=mkS (sg s);rfl
end GM
namespace L2
open PySem PySem.Spec PyProof.Rows
section
variable {X:Cx} {a b:Expr} {ta:TE} {tb:TA} {p2 pos pos2:Pos}
end
end L2
namespace DL
open PySem PySem.Spec L2
open PyProof.Rows hiding St
section
variable {X:Cx} {x:Expr} {t:DTE}
end
section
variable {X:Cx} {a b:Expr} {ta:DTE} {tb:DTA} {p2 pos pos2:Pos}
end
end DL
namespace GM
open PySem PySem.Spec L2 DL
open RM (sz)
open PySem.NumText
noncomputable def bE(n N:Nat)(cs:List Nat):Bool:=!decide (cs=[110,111,110,101]) && (decide (n<(F9 [59,32] N cs []).length) || (F9 [59,32] N cs []).any fun p=>(rdP p).isNone)
noncomputable def hE(N:Nat)(cs:List Nat):Bool:=match F9 [32,124,32] N cs []with
 | [a,b,c]=>(rdR a).isNone || bE 8 N b || (rdR c).isNone
 | _=>true
theorem F0(a b:Str):sg (a++b)=sg a++sg b:=Array.toList_append
theorem EH{cs:List Nat}(h:AllDigits cs)(h2:∃ c r,cs=c :: r∧49≤c):sg (tx ((digitsVal cs:Nat):Int))=cs:=by
 obtain⟨c,r,e,h3⟩:=h2
 rw[gY,toDigits_digitsVal r.length cs (by rw[e];rfl) h (.inr ⟨c,r,e,h3⟩),cK h]
theorem Bq{cs:List Nat}(h:J2 cs=true):sg (tx ((digitsVal cs:Nat):Int))=cs:=by
 obtain⟨⟨h1,h2⟩,h3,h4⟩:=aW h
 rcases h4 with e|e
 ·rw[e];decide +kernel
 ·cases cs with
  | nil=>exact absurd h1 (by decide)
  | cons c r =>
   refine EH h3 ⟨c,r,rfl,?_⟩
   have:=h3 c IZ
   have:c≠48:=fun z=>e (by rw[z];rfl)
   omega
end GM
namespace DL
open PySem PySem.Spec L2
open PyProof.Rows hiding St
section
variable {X:Cx} {name:Str} {id:String} {o:Expr} {to:DTE} {apos cpos:Pos}
def FQ(g:DRM)(to:DTE):DTE:=fun e M R=>to e M fun x M1=>(∃ l ds,x = .ref l∧M1 l=some (.lst ds))∧g x [] M1 R
theorem ue{g:DRM}(slot:Slot "list" name id)(hty:typeOf (.builtin id)=pure (.type "method_descriptor"))(hm:DMt X id g)(ho:JE X o to)
  (hbase:attributeBase o name X.env (eval o X.env)=eval o X.env:=by rfl) (hline:(apos.endLine == cpos.line)=true:=by rfl):JE X (.Call (.Attribute o name apos) [] [] cpos) (FQ g to) :=
 ⟨(Cp PySem.F.plainAttrs_list slot hty hm ho.out hbase hline).imp fun σ H Q ⟨e,M,R,ok,am,t,f⟩=>⟨e,M,_,ok,am,t,fun x M1 ⟨⟨l,ds,z,hM⟩,h1⟩ v H1 k1 a1 r1=>by
  subst z
  have r1':=r1
  cases r1
  obtain⟨xs,hx,_⟩:=a1.lst hM
  exact⟨.inl ⟨rfl,xs,SqL.of hx⟩,_,[],M1,R,r1',.nil,a1,h1,f.mono k1⟩⟩⟩
def FA:DRM:=fun x xs M R=>∃ l ds d,x = .ref l∧xs=[]∧M l=some (.lst (ds++[d]))∧R d (j9 M l (.lst ds))
theorem uG:DMt X "list.pop" FA:=MtR.imp (r:=Fd) CI fun x xs H Q ⟨dx,ds,M,R,hx,hl,am,⟨l,es,d,e1,e2,hM,r⟩,f⟩=>by
 subst e1;subst e2
 cases hx
 cases hl
 obtain⟨ys,hy,ly⟩:=am.lst hM
 have hlen:=ly.length
 have app:∀{es:List D} {ys:List V} {d:D},HasL X.K H ys (es++[d])→∃ zs z,ys=zs++[z]∧HasL X.K H zs es∧Has X.K H z d:=by
  intro es
  induction es with
  | nil=>intro ys d h;obtain⟨v,rfl,hv⟩:=h.one;exact⟨[],v,rfl,.nil,hv⟩
  | cons a es ih =>
   intro ys d h
   cases h with
   | cons ha h =>
    obtain⟨zs,z,rfl,h1,h2⟩:=ih h
    exact⟨_ :: zs,z,rfl,.cons ha h1,h2⟩
 obtain⟨zs,z,rfl,h1,h2⟩:=app ly
 refine⟨l,zs++[z],z,rfl,rfl,hy,?_,?_⟩
 ·rw[Jp];simp
 ·rw[LC]
  exact f _ _ r _ _ (KT.write hy) (am.write hy h1) (h2.mono (KT.write hy))
end
section
variable {e:Ev} {M:Mem} {R:DK} {to:DTE}
theorem zI{g:DRM}:FQ g to e M R=to e M fun x M1=>LMK x M1 (g x [] M1 R):=rfl
theorem vD{l:Addr}{ds:List D}{d:D}(h:M l=some (.lst (ds++[d])))(r:R d (j9 M l (.lst ds))):FA (.ref l) [] M R:=⟨l,ds,d,rfl,rfl,h,r⟩
end
section
variable {X:Cx} {x:Expr} {t:DTE}
end
end DL
namespace GM
open PySem PySem.Spec L2 DL
open RM (sz)
open PySem.NumText
theorem oK(y:List Nat)(n c:Nat)(r acc:List Nat):F9 y (n+1) (c :: r) acc=if y.isPrefixOf (c :: r)then acc.reverse :: F9 y n ((c :: r).drop y.length) []else F9 y n r (c :: acc):=rfl
theorem bM(c:Nat):∀(n:Nat) (cs acc:List Nat),cs.length<n→F9 [c] n cs acc=if c∈cs then(acc.reverse++cs.takeWhile (· != c)) :: F9 [c] (n - 1 - (cs.takeWhile (· != c)).length) (cs.dropWhile (· != c)).tail []else[acc.reverse++cs]
 | 0,cs,acc,h=>by omega
 | n+1,[],acc,h=>by unfold F9;simp
 | n+1,c0 :: r,acc,h=>by
  have hr:r.length<n:=by rw[Jv]at h;omega
  rw[oK]
  by_cases e:c=c0
  ·subst e
   have hp:[c].isPrefixOf (c :: r)=true:=by simp
   rw[if_pos hp,if_pos IZ,KP (by simp),List.dropWhile_cons_of_neg (by simp),Jy,Lw]
   show _ :: F9 [c] n r []=_ :: F9 [c] (n+1 - 1 - 0) r []
   rw[show n+1 - 1 - 0=n by omega]
  ·have hp:¬ [c].isPrefixOf (c0 :: r)=true:=by simp[e]
   have e2:(c0 != c)=true:=by simpa using fun z=>e z.symm
   rw[if_neg hp,bM c n r (c0 :: acc) hr,JP (p:=(· != c)) e2,Kn (p:=(· != c)) e2,La,Km,Jv]
   simp only[Km,List.singleton_append]
   by_cases hm:c∈r
   ·rw[if_pos hm,if_pos (Jc _ hm)]
    show _ :: F9 [c] (n - 1 - _) _ _=_ :: F9 [c] (n+1 - 1 - (_+1)) _ _
    rw[show n+1 - 1 - ((r.takeWhile (· != c)).length+1)=n - 1 - (r.takeWhile (· != c)).length by omega]
   ·rw[if_neg hm,if_neg (fun z=>by rcases Jj.mp z with z|z;exact e z;exact hm z)]
noncomputable def lfW(cs:List Nat):Option Int:=if J2 cs then some ((digitsVal cs:Nat):Int)else none
theorem uE{r:List Nat}(h:J2 r=true):digitsVal r=1↔r=[49]:=by
 refine⟨fun z=>?_,fun z=>by rw[z];rfl⟩
 have e:=Bq h
 rw[z]at e
 exact e.symm.trans (by decide +kernel)
theorem pG{c:Nat}{cs:List Nat}(h:decide (c∈cs)=false):(cs.dropWhile (· != c)).tail=[]:=by
 rw[PyProof.Rows.dropWhile_none (of_decide_eq_false h)];rfl
theorem xt{cs:List Nat}{n:Int}(hb:(z8 47 cs).2.1=false)(h:rdW (z8 47 cs).1=some n):rdR cs=some (mkRat n 1):=by
 have h3:(z8 47 cs).2.2=[]:=pG hb
 unfold rdR mK
 rw[hb,h,h3]
 show Lz _ (if (decide ((1:Int)≤1) && decide (JK n.natAbs 1=1) && decide (([]:List Nat)≠[49]))=true then some (n,1)else none)=_
 rw[decide_eq_true (Nat.gcd_one_right _)];rfl
theorem xr{cs:List Nat}{n:Int}(hb:(z8 47 cs).2.1=true)(h:rdW (z8 47 cs).1=some n):rdR cs=match lfW (z8 47 cs).2.2 with
  | some d=>if 2≤d∧JK n.natAbs d.natAbs=1 then some (mkRat n d.natAbs)else none
  | none=>none:=by
 generalize hr:(z8 47 cs).2.2=r
 have hx:rdR cs=(match rdW r with
  | some d=>if (decide (1≤d) && decide (JK n.natAbs d.natAbs=1) && decide (r≠[49]))=true then some (mkRat n d.natAbs)else none
  | none=>none):=by
  unfold rdR mK
  rw[hb,if_pos rfl,h,hr]
  cases rdW r with
  | none=>rfl
  | some d =>
   show Lz _ (if _ then _ else _)=if _ then _ else _
   split<;>rfl
 rw[hx]
 unfold lfW
 cases hf:J2 r with
 | true =>
  rw[mU hf]
  show(if _ then _ else _)=(if _ then _ else _)
  have d1:=uE hf
  by_cases h1:r=[49]
  ·rw[decide_eq_false (show ¬ r≠[49]from fun q=>q h1),Kg,if_neg (by decide),if_neg (fun q=>by have:=d1.mpr h1;omega)]
  ·rw[decide_eq_true (show r≠[49]from h1),LR]
   have n1:digitsVal r≠1:=fun z=>h1 (d1.mp z)
   by_cases g:1≤((digitsVal r:Nat):Int)∧JK n.natAbs ((digitsVal r:Nat):Int).natAbs=1
   ·rw[if_pos (by rw[decide_eq_true g.1,decide_eq_true g.2];rfl),if_pos ⟨by omega,g.2⟩]
   ·rw[if_neg (fun q=>g (by simpa using q)),if_neg (fun q=>g ⟨by omega,q.2⟩)]
 | false =>
  show _=none
  cases hw:rdW r with
  | none=>rfl
  | some d =>
   have hd:d≤0:=by
    unfold rdW at hw
    rw[if_neg (by rw[hf];decide)]at hw
    split at hw
    ·split at hw
     ·have:=Option.some.inj hw;omega
     ·cases hw
    ·cases hw
   show(if _ then _ else _)=none
   rw[decide_eq_false (show ¬ 1≤d by omega)];rfl
noncomputable def E9(w:Str):Bool:=decide (w=Str.ofString "gap") || decide (w=Str.ofString "glass") || decide (w=Str.ofString "stop")
theorem yD{w:Str}(h:E9 w=true):PyData.canLay0 (.str w)=true:=by
 unfold E9 at h
 rw[Jz,Jz,decide_eq_true_eq,decide_eq_true_eq,decide_eq_true_eq]at h
 rcases h with(h|h)|h<;>rw[h]<;>decide +kernel
theorem C4{a b:Str}(ha:∀ c∈sg a,c<128)(hb:∀ c∈sg b,c<128):∀ c∈sg (a++b),c<128:=fun c hc=>by
 rw[F0]at hc
 rcases JF.mp hc with q|q
 ·exact ha c q
 ·exact hb c q
theorem jB(n:Int):∀ c∈sg (tx n),c<128:=by
 rw[← aC n]
 refine C4 ?_ (fun c hc=>?_)
 ·split<;>decide +kernel
 ·have:=bI n.natAbs c hc;omega
theorem fj(q:Rat):∀ c∈sg (rtx q),c<128:=by
 unfold rtx
 split
 ·exact jB _
 ·exact C4 (C4 (jB _) (by decide +kernel)) (jB _)
theorem xw{x:Str × Rat}(h:p7 x):∀ c∈sg (ptx x),c<128:=by
 unfold ptx
 refine C4 (C4 ?_ (by decide +kernel)) (fj _)
 rcases h.kind with⟨e,_⟩|e|⟨e,_⟩<;>rw[e]<;>decide +kernel
theorem nY{bs:List (Str × Rat)}(hp:∀ x∈bs,p7 x):∀ i,i≤bs.length→∀ c∈sg (btx (bs.take i)),c<128
 | 0,_=>by rw[KZ,ba];decide +kernel
 | i+1,h=>by
  have hx:=Ji (l:=bs) (i:=i) (by omega)
  have ih:=nY hp i (by omega)
  have p:=xw (hp _ (Lh (l:=bs) (n:=i) (by omega)))
  rw[vn hx]
  split
  ·exact p
  ·exact C4 (C4 ih (by decide +kernel)) p
theorem vp{bs:List (Str × Rat)}(hp:∀ x∈bs,p7 x)(hl:bs.length≤13):(btx bs).length≤524∧∀ c∈sg (btx bs),c<128:=by
 have h1:=gh hp bs.length (Ja _)
 have h2:=nY hp bs.length (Ja _)
 rw[Kf]at h1 h2
 exact⟨by omega,h2⟩
abbrev ig(bs:List (Str × Rat))(M:Mem)(R:DK)(Y:DXK):Prop:=(bs.length≤13∧∀ x∈bs,p7 x)∧R (.str (btx bs)) M
theorem y0.upd{M:Mem}{p l:Addr}{o:MO}(h:y0 M p)(hl:M l=none):y0 (j9 M l o) p:=by
 have hn:=h.ne hl
 obtain⟨x,y,z,e⟩:=h.ex
 exact⟨x,y,z,by rw[e7 (Ne.symm hn)];exact e⟩
end GM
namespace GM
open PySem PySem.Spec L2 DL PySem.NumText
open RM (sz)
theorem kv{m:Nat}(h:m<10 ^ 300):J2 (sg (tx (m:Int)))=true:=by
 have hl:(sg (tx (m:Int))).length≤300:=by
  rw[gY,IW]
  exact(Nat.length_toDigits_le_iff (by decide) (by decide)).mpr h
 have ha:(sg (tx (m:Int))).all isF=true:=Mi.mpr fun c hc=>by
  have:=bI m c hc
  unfold isF;simp;omega
 rw[L9,ha,decide_eq_true hl]
 by_cases h0:m=0
 ·subst h0;decide +kernel
 ·obtain⟨c,r,e,hc⟩:=mJ (show 0<m by omega)
  rw[e]
  simp
  omega
theorem xg{m:Nat}(h:0<m):sg (tx (-(m:Int)))=45 :: sg (tx (m:Int)):=by
 have e:=aC (-(m:Int))
 rw[if_pos (by omega),KY,Jl]at e
 rw[← e,F0]
 rfl
theorem sR{n:Int}(h:n.natAbs<10 ^ 300):rdW (sg (tx n))=some n:=by
 rcases Int.eq_nat_or_neg n with⟨m,e|e⟩
 ·subst e
  rw[Jl]at h
  unfold rdW
  rw[if_pos (kv h),aY]
 ·by_cases h0:m=0
  ·subst h0;subst e;decide +kernel
  ·subst e
   rw[KY,Jl]at h
   have f45:J2 (45 :: sg (tx (m:Int)))=false:=by
    rw[L9]
    have:(45 :: sg (tx (m:Int))).all isF=false:=by rw[Ld];rfl
    rw[this,Kg];rfl
   have ne:sg (tx (m:Int))≠[48]:=fun z=>by
    obtain⟨c,r,e,hc⟩:=mJ (show 0<m by omega)
    rw[e]at z
    have:=(List.cons.inj z).1
    omega
   rw[xg (by omega)]
   unfold rdW
   rw[f45]
   show(if (J2 (sg (tx (m:Int))) && decide (sg (tx (m:Int))≠[48]))=true then some (-((digitsVal (sg (tx (m:Int))):Nat):Int))else none)=_
   rw[kv h,decide_eq_true ne,aY];rfl
theorem gQ(n:Int):∀ c∈sg (tx n),c=45∨(48≤c∧c≤57):=fun c hc=>by
 rw[← aC n,F0]at hc
 rcases JF.mp hc with q|q
 ·split at q
  ·exact .inl (JY.mp q)
  ·cases q
 ·exact .inr (bI _ c q)
theorem yA{a b:List Nat}(h:47∉a):z8 47 (a++47 :: b)=(a,true,b):=by
 have e1:∀ a:List Nat,47∉a→(a++47 :: b).takeWhile (· != 47)=a∧(a++47 :: b).dropWhile (· != 47)=47 :: b:=fun a=>by
  induction a with
  | nil=>exact fun _=>⟨rfl,rfl⟩
  | cons x a ih =>
   intro hh
   have hx:x≠47:=fun e=>hh (e▸IZ ..)
   obtain⟨i1,i2⟩:=ih fun m=>hh (Jc _ m)
   rw[Li,JP (by simp[hx]),Kn (by simp[hx]),i1,i2]
   exact⟨rfl,rfl⟩
 unfold z8
 rw[(e1 a h).1,(e1 a h).2,decide_eq_true (by simp)];rfl
theorem nu(q:Rat):mkRat q.num q.den=q:=MB q
theorem sS{q:Rat}(h1:q.num.natAbs<10 ^ 300)(h2:q.den<10 ^ 300):rdR (sg (rtx q))=some q:=by
 have n47:∀ n:Int,47∉sg (tx n):=fun n hm=>by
  have:=gQ n 47 hm;omega
 unfold rtx
 split
 ·rename_i hd
  have hc:(z8 47 (sg (tx q.num))).1=sg (tx q.num):=W4 (n47 _)
  rw[xt (decide_eq_false (n47 _)) (by rw[hc];exact sR h1),← hd,nu]
 ·rename_i hd
  have e:sg (tx q.num++Str.ofString "/" ++ tx (q.den:Int))=sg (tx q.num)++47 :: sg (tx (q.den:Int)):=by
   rw[F0,F0,show sg (Str.ofString "/")=[47]by decide +kernel,Km];rfl
  rw[e]
  have c:=yA (b:=sg (tx (q.den:Int))) (n47 q.num)
  have lf:lfW (sg (tx (q.den:Int)))=some (q.den:Int):=by
   unfold lfW
   rw[if_pos (kv h2),aY]
  rw[xr (n:=q.num) (by rw[c]) (by rw[c];exact sR h1),c]
  show(match lfW (sg (tx (q.den:Int)))with|some d=>_|none=>_)=_
  rw[lf]
  have:=q.den_pos
  have g:=q.reduced
  show(if 2≤(q.den:Int)∧JK q.num.natAbs (Int.natAbs (q.den:Int))=1 then some (mkRat q.num (Int.natAbs (q.den:Int)))else none)=_
  rw[Jl,if_pos ⟨by omega,g⟩,nu]
def Gr(q:Rat):Prop:=q.num.natAbs<10 ^ 300∧q.den<10 ^ 300
theorem Ar{q:Rat}(h:sz q≤900):Gr q:=by
 have e:2 ^ 900<10 ^ 300:=by decide +kernel
 exact⟨IX (nk q h) (by decide +kernel),IX (nP q h) (by decide +kernel)⟩
theorem uq{m:Nat}(h:m<10 ^ 300):m.log2<1920:=IX (S1 (k:=1000) (IX h (show 10 ^ 300≤2 ^ 1000 by decide +kernel)) (by decide)) (by decide)
theorem Dc{q:Rat}(h:Gr q):(rtx q).length≤603:=by
 have h1:=G5 (by decide) h.1
 have h2:=G5 (n:=(q.den:Int)) (k:=300) (by decide) (by rw[Jl];exact h.2)
 unfold rtx
 split
 ·omega
 ·rw[j5,j5,show(Str.ofString "/").length=1 by decide +kernel];omega
end GM
namespace DL
open PySem PySem.Spec L2
open PyProof.Rows hiding St
structure DW(K:IT)(c:Str)(C:Addr):Prop where
 nm:PySem.W.nsIn K mainGlobals c=some (some (.ref C))
 cl:Cls K C
structure yU(K:IT)(c:Str):Prop where
 ex:∃ C,DW K c C
structure NoA(K:IT)(c f:Str):Prop where
 ex:∃ C,PySem.W.nsIn K mainGlobals c=some (some (.ref C))∧S8 K C f
theorem S0{K:IT}{c:Str}{C C':Addr}(h:PySem.W.nsIn K mainGlobals c=some (some (.ref C)))(h':PySem.W.nsIn K mainGlobals c=some (some (.ref C'))):C=C':=by
 rw[h]at h';injection h' with e;injection e with e;injection e
noncomputable def jU(f:Str)(v:D):List (Str × D)→List (Str × D)
 | []=>[(f,v)]
 | (g,x) :: r=>if g=f then(g,v) :: r else(g,x) :: jU f v r
noncomputable def t5(f:Str):List (Str × D)→Option D
 | []=>none
 | (g,x) :: r=>if g=f then some x else t5 f r
section
variable {K:IT} {H H':Hp}
theorem G0.nil:G0 K H [] []:=⟨rfl,.nil⟩
theorem G0.look{f:Str}{v:D}:∀{ys:List (Str × V)} {fs:List (Str × D)},G0 K H ys fs→t5 f fs=some v→∃ y,ys.lookup f=some y∧Has K H y v
 | ys,[],_,h=>by cases h
 | ys,(g,x) :: r,hf,h=>by
  obtain⟨n,l⟩:=hf
  cases ys with
  | nil=>cases n
  | cons q ys =>
   obtain⟨g',y⟩:=q
   have n1:g'=g:=(List.cons.inj n).1
   have n2:ys.map (·.1)=r.map (·.1):=(List.cons.inj n).2
   cases l with
   | cons l1 l2 =>
    unfold t5 at h
    by_cases e:g=f
    ·rw[if_pos e]at h
     cases h
     have hb:(f == g')=true:=beq_iff_eq.mpr (e.symm.trans n1.symm)
     exact⟨y,by simp only[Kd,hb],l1⟩
    ·rw[if_neg e]at h
     have hb:(f == g')=false:=beq_eq_false_iff_ne.mpr (fun z=>e (n1.symm.trans z.symm))
     obtain⟨w,e1,e2⟩:=G0.look (ys:=ys) (fs:=r) ⟨n2,l2⟩ h
     exact⟨w,by simp only[Kd,hb];exact e1,e2⟩
theorem G0.lookN{f:Str}:∀{ys:List (Str × V)} {fs:List (Str × D)},G0 K H ys fs→t5 f fs=none→ys.lookup f=none
 | ys,[],hf,_=>by
  cases ys with
  | nil=>rfl
  | cons q ys=>cases hf.names
 | ys,(g,x) :: r,hf,h=>by
  obtain⟨n,l⟩:=hf
  cases ys with
  | nil=>cases n
  | cons q ys =>
   obtain⟨g',y⟩:=q
   have n1:g'=g:=(List.cons.inj n).1
   have n2:ys.map (·.1)=r.map (·.1):=(List.cons.inj n).2
   cases l with
   | cons l1 l2 =>
    unfold t5 at h
    by_cases e:g=f
    ·rw[if_pos e]at h;cases h
    ·rw[if_neg e]at h
     have hb:(f == g')=false:=beq_eq_false_iff_ne.mpr (fun z=>e (n1.symm.trans z.symm))
     simp only[Kd,hb]
     exact G0.lookN (ys:=ys) (fs:=r) ⟨n2,l2⟩ h
theorem G0.put{f:Str}{v:V}{d:D}(hv:Has K H v d):∀{ys:List (Str × V)} {fs:List (Str × D)},G0 K H ys fs→G0 K H (K9 f v ys) (jU f d fs)
 | ys,[],hf=>by
  cases ys with
  | nil=>exact⟨rfl,.cons hv .nil⟩
  | cons q ys=>cases hf.names
 | ys,(g,x) :: r,hf=>by
  obtain⟨n,l⟩:=hf
  cases ys with
  | nil=>cases n
  | cons q ys =>
   obtain⟨g',y⟩:=q
   obtain rfl:g'=g:=(List.cons.inj n).1
   have n2:ys.map (·.1)=r.map (·.1):=(List.cons.inj n).2
   cases l with
   | cons l1 l2 =>
    have ih:=G0.put (f:=f) hv (ys:=ys) (fs:=r) ⟨n2,l2⟩
    unfold K9 jU
    by_cases e:g'=f
    ·rw[if_pos e,if_pos e]
     exact⟨by rw[IY,IY,n2],.cons hv l2⟩
    ·rw[if_neg e,if_neg e]
     exact⟨by rw[IY,IY,ih.names],.cons l1 ih.has⟩
theorem G0.len{ys:List (Str × V)}{fs:List (Str × D)}(h:G0 K H ys fs):ys.length=fs.length:=by
 have:=congrArg Kj h.names
 rwa [IW,IW]at this
theorem KT.ins{p C dx:Addr}{ys zs:List (Str × V)}(h:H p=some (.ins C dx ys)):KT H (upd H p (.ins C dx zs)):=KT.at (fun xs r=>by rcases r with r|⟨_,r⟩<;>(rw[h]at r;cases r)) (fun q xs r=>by rw[h]at r;cases r) fun φ r=>by rw[h]at r;cases r
theorem m7.put{M:Mem}{p C dx:Addr}{ys zs:List (Str × V)}{c:Str}{fs:List (Str × D)}(h:m7 K H M)(e:H p=some (.ins C dx ys))(hc:PySem.W.nsIn K mainGlobals c=some (some (.ref C)))(l:G0 K H zs fs) :
  m7 K (upd H p (.ins C dx zs)) (j9 M p (.ins c fs)):=fun a o m=>by
 have k:KT H (upd H p (.ins C dx zs)):=KT.ins e
 by_cases q:a=p
 ·subst q
  rw[d9]at m;cases m
  exact⟨C,dx,zs,j4,l.mono k,hc⟩
 ·rw[e7 q]at m
  cases o with
  | lst es =>
   obtain⟨xs,z,l⟩:=h a _ m
   exact⟨xs,by rw[i3 q];exact z,l.mono k⟩
  | ins c' fs' =>
   obtain⟨C0,dx',xs,z,l,hc'⟩:=h a _ m
   exact⟨C0,dx',xs,by rw[i3 q];exact z,l.mono k,hc'⟩
end
section
variable {X:Cx} {o e value:Expr} {f c:Str} {pos pos':Pos} {ta tv:DTE}
def DS(c f:Str)(x:D)(M:Mem)(R:DK):Prop:=∃ p fs v,x = .ref p∧M p=some (.ins c fs)∧t5 f fs=some v∧R v M
def FV(c f:Str)(ta:DTE):DTE:=fun e M R=>ta e M fun x M1=>DS c f x M1 R
theorem S3(T:yU X.K c)(N:NoA X.K c f)(he:JE X o ta)(hb:attributeBase o f X.env (eval o X.env)=eval o X.env:=by rfl):JE X (.Attribute o f pos) (FV c f ta) :=
 ⟨PE.imp (Co he.out hb) fun σ H Q ⟨e,M,R,ok,am,t,ft⟩=>⟨e,M,_,ok,am,t,fun d M1 ⟨p,fs,v,z,hm,hl,r⟩ v1 H1 k1 a1 r1=>by
  subst z
  cases r1
  obtain⟨C,dx,ys,h1,h2,h3⟩:=a1 p _ hm
  obtain⟨C',hN,hA⟩:=N.ex
  obtain rfl:=S0 h3 hN
  obtain⟨C'',hT⟩:=T.ex
  obtain rfl:=S0 h3 hT.nm
  obtain⟨y,l1,l2⟩:=h2.look hl
  exact⟨p,C,dx,ys,y,rfl,h1,hT.cl,hA,l1,ft _ _ r _ _ k1 a1 l2⟩⟩⟩
def DO(c f:Str)(y x:D)(M:Mem)(P:Mem→Prop):Prop:=∃ p fs,x = .ref p∧M p=some (.ins c fs)∧fs.length<1000∧P (j9 M p (.ins c (jU f y fs)))
def AL(c f:Str)(ta tv:DTE):DTS:=fun F e M=>tv e M fun y M1=>ta e M1 fun x M2=>DO c f y x M2 (F.nx e)
theorem aS(T:yU X.K c)(N:NoA X.K c f)(ha:JE X o ta)(hv:JE X value tv)(hs:swapsWith value (some (.Attribute o f pos')) pos.line X.env=pure false:=by rfl):JS X (.Assign [.Attribute o f pos'] value pos) (AL c f ta tv) :=
 ⟨PS.imp (BY ha.out hv.out hs) fun E σ H ⟨e,M,F,ok,am,t,ft⟩=>⟨e,M,_,ok,am,t,fun y M1 h1 v1 H1 k1 a1 r1=>⟨e,M1,_,ok.mono k1,a1,h1,fun x M2 ⟨p,fs,z,hm,hl,r⟩ v2 H2 k2 a2 r2=>by
  subst z
  cases r2
  obtain⟨C,dx,ys,g1,g2,g3⟩:=a2 p _ hm
  obtain⟨C',hN,hA⟩:=N.ex
  obtain rfl:=S0 g3 hN
  obtain⟨C'',hT⟩:=T.ex
  obtain rfl:=S0 g3 hT.nm
  have k3:KT H2 (upd H2 p (.ins C dx (K9 f v1 ys))):=KT.ins g1
  exact⟨p,C,dx,ys,rfl,g1,hT.cl,hA,by rw[g2.len];exact hl,ft.nx _ _ r _ _ ((k1.trans k2).trans k3) (a2.put g1 g3 (g2.put (r1.mono k2))) ((ok.mono (k1.trans k2)).mono k3)⟩⟩⟩⟩
end
structure Hi(K:IT)(x q:Str)(st:Stmt)(f:Addr)(fd:FuncData):Prop where
 ex:∃(oc:Value) (od:Option Addr) (dV kV doc pm:Value) (an:Option Addr) (cdv ct:Value) (osl:Array (Option Value)),
  fd=PySem.W.fnOf x q (G1 st) (A4 st) (e5 st) dV kV doc pm an cdv ct∧K.lookup f=some ⟨oc,od,.func fd,osl⟩∧PySem.W.codeIn K cdv q=true
structure DfM(K:IT)(mg:Str→Option Value)(c x q:Str)(st:Stmt)(ps:List Str):Prop where
 ex:∃(C f:Addr) (fd:FuncData),Hi K x q st f fd∧mg c=some (.ref C)∧DW K c C∧vE K C x f∧G3 K fd ps []
structure yR(P:Program)(w:World)(K:IT)(mg:Str→Option Value)(base:Heap)(c x:Str)(k:Nat)(ps:List Str)(CX:CXT)(sp:Sp):Prop where
 ex:∃(C f:Addr) (fd:FuncData),E8 P w K mg base CX k f fd ps sp∧mg c=some (.ref C)∧DW K c C∧vE K C x f∧G3 K fd ps []
abbrev FnM(P:Program)(w:World)(K:IT)(mg:Str→Option Value)(base:Heap)(c x:Str)(k:Nat)(ps:List Str)(sp:DSp):Prop:=yR P w K mg base c x k ps CX0 (eA K sp)
abbrev gn(P:Program)(w:World)(K:IT)(mg:Str→Option Value)(base:Heap)(c x:Str)(k:Nat)(ps:List Str)(sp:DSp):Prop:=yR P w K mg base c x k ps (CXr P w base) (Ab K mg sp)
section
variable {P:Program} {w:World} {K:IT} {mg:Str→Option Value} {base:Heap}
theorem Dk{c x q:Str}{st:Stmt}{N ps:List Str}{k:Nat}{sp:DSp}(d:DfM K mg c x q st ps)(S:i4 N ps (e5 st))(len:∀ ds M R Y,sp ds M R Y→ds.length=ps.length)
  (hbody:∀(f:Addr) (cdv:Value) (A:Around) (outer:List Env) (s:Shared) (H:Hp) (E:XK) (ds:List D) (M:Mem) (R:DK) (Y:DXK),z4 k (A.deeper (envOfC q (e5 st) s.heap.objs.size f cdv))→sp ds M R Y →
   ∃ t,JSs (D1 CX0 P w K mg base N q (e5 st) f cdv A outer s H E).nox (A4 st) t∧t { nx:=fun _ M'=>R .non M',rt:=R } (C9 N ds) M):FnM P w K mg base c x (k+1) ps sp:=by
 obtain⟨C,f,fd,F,hm,hc,hf,hb⟩:=d.ex
 refine⟨C,f,fd,?_,hm,hc,hf,hb⟩
 obtain⟨oc,od,dV,kV,doc,pm,an,cdv,ct,osl,rfl,lk,hcd⟩:=F.ex
 refine nG lk hcd S (fun vs H Q E ⟨ds,M,R,Y,hl,_,hs,_,_⟩=>by rw[hl.length];exact len ds M R Y hs) fun A outer s H vs Q E hr ⟨ds,M,R,Y,hl,am,hs,fv,fx⟩=>?_
 obtain⟨t,h1,h2⟩:=hbody f cdv A outer s H E ds M R Y hr hs
 refine⟨_,h1.out.nox,C9 N ds,M,_,t9.start0 hl,am,h2,⟨?_,fv,fun _ _ h=>h.elim,fun _ _ h=>h.elim⟩⟩
 exact fun e M' h σ' H' kt a o=>fv .non M' h .non H' kt a .non
theorem nI{c x q:Str}{st:Stmt}{N ps:List Str}{k:Nat}{sp:DSp}(d:DfM K mg c x q st ps)(S:i4 N ps (e5 st))(len:∀ ds M R Y,sp ds M R Y→ds.length=ps.length)
  (hbody:∀(f:Addr) (cdv:Value) (A:Around) (outer:List Env) (s:Shared) (H:Hp) (E:XK) (ds:List D) (M:Mem) (R:DK) (Y:DXK),z4 k (A.deeper (envOfC q (e5 st) s.heap.objs.size f cdv))→sp ds M R Y →
   ∃ t,JXs (D1 (CXr P w base) P w K mg base N q (e5 st) f cdv A outer s H E) true H Y (A4 st) t∧t { nx:=fun _ M'=>R .non M',rt:=R } (C9 N ds) M):gn P w K mg base c x (k+1) ps sp:=by
 obtain⟨C,f,fd,F,hm,hc,hf,hb⟩:=d.ex
 refine⟨C,f,fd,?_,hm,hc,hf,hb⟩
 obtain⟨oc,od,dV,kV,doc,pm,an,cdv,ct,osl,rfl,lk,hcd⟩:=F.ex
 refine nG lk hcd S (fun vs H Q E ⟨ds,M,R,Y,hl,_,hs,_,_⟩=>by rw[hl.length];exact len ds M R Y hs) fun A outer s H vs Q E hr ⟨ds,M,R,Y,hl,am,hs,fv,fx⟩=>?_
 obtain⟨t,h1,h2⟩:=hbody f cdv A outer s H E ds M R Y hr hs
 refine⟨xf K H t,fun pins s1 σ H1 D I hw=>?_,KT.refl H,C9 N ds,M,_,t9.start0 hl,am,h2,⟨?_,fv,fun _ _ h=>h.elim,fun _ _ h=>h.elim⟩⟩
 ·refine wpAny_mono (h1.out pins s1 σ H1 D (I.wish _) hw) (fun _ _ q=>q.unwish) fun e s2 hx=>ny (fun cls H' ⟨k1,x',C,M',e1,e2,e3,e4⟩=>⟨k1,by rw[e1];exact fx x' C M' e2 e4 H' k1 e3⟩) hx
 ·exact fun e M' h σ' H' kt a o=>fv .non M' h .non H' kt a .non
theorem yR.fn{c x:Str}{k:Nat}{ps:List Str}{sp sp':DSp}(G:gn P w K mg base c x k ps sp)(h:∀ ds M R Y,sp' ds M R Y→sp ds M R fun _ _=>False):FnM P w K mg base c x k ps sp':=by
 obtain⟨C,f,fd,F,h1,h2,h3,h4⟩:=G.ex
 refine⟨C,f,fd,⟨fun vs H Q E ⟨ds,M,R,Y,hl,am,hs,fv,_⟩=>F.len vs H Q (fun _ _ _=>False) ⟨ds,M,R,_,hl,am,h ds M R Y hs,fv,fun _ _ _ _ z=>z.elim⟩,fun A outer s H args us vs Q E hr he hb hv ⟨ds,M,R,Y,hl,am,hs,fv,_⟩=>?_⟩,h1,h2,h3,h4⟩
 refine codeAny_mono (F.run A outer s H args us vs Q (fun _ _ _=>False) hr he hb hv ⟨ds,M,R,_,hl,am,h ds M R Y hs,fv,fun _ _ _ _ z=>z.elim⟩) fun r s' q=>?_
 cases r with
 | error e=>obtain⟨_,_,_,_,_,_,_,_,_,_,_,_,_,_,z⟩:=q;exact z.elim
 | ok fl=>cases fl<;>exact q
end
section
variable {X:Cx} {mk:Bool} {H₀:Hp} {Y:DXK} {o e:Expr} {es:List Expr} {c m:Str} {pos apos:Pos} {k:Nat} {ps:List Str} {sp:DSp} {to:DTE} {t:DTA}
def DQ(c m:Str)(x:D)(M:Mem)(P:Prop):Prop:=(∃ p fs,x = .ref p∧M p=some (.ins c fs)∧t5 m fs=none)∧P
def nU(c m:Str)(sp:DSp)(Y:DXK)(to:DTE)(t:DTA):DTE:=fun e M R=>to e M fun x M1=>DQ c m x M1 (t e M1 fun ds M2=>sp (x :: ds) M2 R Y)
theorem xX{K:IT}{C:Addr}{σ:St}{H:Hp}{Q:VK}{CXs:Sp}{E:XK}{e:Ev}{M:Mem}{R:DK}{dvs:List V}(hc:PySem.W.nsIn K mainGlobals c=some (some (.ref C)))(ok:t9 K H σ e)(am:m7 K H M)(tt:nU c m sp Y to t e M R)
  (fin:∀(x:D) (ds:List D) (M2:Mem),sp (x :: ds) M2 R Y→∀(v:V) (vs:List V) (H2:Hp),KT H H2→m7 K H2 M2→Has K H2 v x→HasL K H2 vs ds→CXs (v :: (vs++dvs)) H2 Q E) :
  up K to σ H fun v H1=>∃ a dx fs,v = .ref a∧H1 a=some (.ins C dx fs)∧fs.lookup m=none∧upA K t σ H1 fun vs H2=>CXs (v :: (vs++dvs)) H2 Q E:=by
 refine⟨e,M,_,ok,am,tt,fun x M1 ⟨⟨p,fs,z,hm,hn⟩,h1⟩ v H1 k1 a1 r1=>?_⟩
 subst z
 cases r1
 obtain⟨C0,dx,ys,g1,g2,g3⟩:=a1 p _ hm
 obtain rfl:=S0 g3 hc
 exact⟨p,dx,ys,rfl,g1,g2.lookN hn,e,M1,_,ok.mono k1,a1,h1,fun ds M2 h2 vs H2 k2 a2 r2=>fin _ ds M2 h2 _ vs H2 (k1.trans k2) a2 (.ref p) r2⟩
theorem xa{E:Value→Shared→Prop}{e:Expr}{t:TE}(h:PE X.nox e t):PE (X.wish E) e t:=fun pins s σ H Q I hw =>
 wpAny_mono (h pins s σ H Q (I.unwish.wish _) hw) (fun _ _ ⟨v,H',I',r,q⟩=>⟨v,H',I'.unwish.wish _,r,q⟩) fun _ _ z=>False.elim z
theorem wX(G:gn X.prog X.w X.K X.mg X.base c m k ps sp)(hr:z4 k X.A)(ho:JE X.nox o to){pl:Sem Bool}
  (ht:eval (.Call (.Attribute o m apos) [] [] pos) X.env=(do
   let ov ← eval o X.env
   standAt apos.atName
   let (f,fst0) ← holding [ov] (getMethod ov m pl)
   callWith pos f fst0 (backTo pos (starEach [] X.env)) (backToKw pos (keywordEach [] X.env))):=by rfl) :
  JXE X mk H₀ Y (.Call (.Attribute o m apos) [] [] pos) (nU c m sp Y to yy):=by
 obtain⟨C,f,fd,F,h1,h2,h3,h4⟩:=G.ex
 exact⟨PE.imp (tu (X:=Cx.ex' X mk H₀ Y) (ds:=[]) (dvs:=[]) (xa ho.out) h2.cl h3 F hr h4 .nil iu ht) fun σ H Q ⟨kt,e,M,R,ok,am,tt,ff⟩=>by
  refine⟨e,M,_,ok,am,tt,fun x M1 ⟨⟨p,fs,z,hm,hn⟩,h9⟩ v H1 k1 a1 r1=>?_⟩
  subst z
  cases r1
  obtain⟨C0,dx,ys,g1,g2,g3⟩:=a1 p _ hm
  obtain rfl:=S0 g3 h2.nm
  exact⟨p,dx,ys,rfl,g1,g2.lookN hn,[.ref p],M1,R,Y,.cons (.ref p) .nil,a1,h9,ff.mono k1,fun y C M' hy z H' kt' a'=>⟨(kt.trans k1).trans kt',y,C,M',rfl,hy,a',z⟩⟩⟩
end
structure MkD(K:IT)(c:Str):Prop where
 ex:∃ C f,PySem.W.nsIn K mainGlobals c=some (some (.ref C))∧Mk K C f
section
variable {X:Cx} {c:Str} {p pos:Pos} {k:Nat} {ps:List Str} {sp:DSp}
def AO(c:Str)(sp:DSp):DTE:=fun _ M R=>∀ x,M x=none→sp [.ref x] (j9 M x (.ins c [])) (fun d M2=>d = .non∧R (.ref x) M2) Y0
theorem iQ(G:FnM X.prog X.w X.K X.mg X.base c "__init__" k ps sp)(hk:MkD X.K c)(hr:z4 (k+1) X.A)(hg:Gl X c)(hdb:(c == ("__debug__" : Str))=false:=by decide):JE X (.Call (.Name c p) [] [] pos) (AO c sp):=by
 obtain⟨C,f,fd,F,h1,h2,h3,h4⟩:=G.ex
 obtain⟨C',f',hn,hM⟩:=hk.ex
 obtain rfl:=S0 h2.nm hn
 obtain rfl:f=f':=by
  have e:=h3.at_
  rw[hM.init]at e
  injection e with e;injection e with e;injection e with e
  exact e.symm
 refine⟨PE.imp (tw (ds:=[]) (dvs:=[]) hM F hr hg h1 h4 .nil Ak hdb) fun σ H Q ⟨e,M,R,ok,am,tt,ff⟩=>?_⟩
 intro x dx hx hdx hne
 have kt:KT H (upd (upd H dx (.own x)) x (.ins C dx [])):=(KT.alloc hdx).trans (KT.alloc (by rw[i3 (Ne.symm hne)];exact hx))
 have a1:m7 X.K (upd (upd H dx (.own x)) x (.ins C dx [])) (j9 M x (.ins c [])):=fun b o m=>by
  by_cases q:b=x
  ·subst q
   rw[d9]at m;cases m
   exact⟨C,dx,[],j4,.nil,hn⟩
  ·rw[e7 q]at m
   exact(am.alloc hdx).alloc (by rw[i3 (Ne.symm hne)];exact hx) b o m
 exact⟨[.ref x],_,_,Y0,.cons (.ref x) .nil,a1,tt x (am.fresh hx),fun d M' ⟨hd,r⟩ v H' k' a' r'=>by
  subst hd
  cases r'
  exact⟨rfl,ff _ _ r _ _ (kt.trans k') a' (.ref x)⟩,FH⟩
end
end DL
namespace L2
open PySem PySem.Spec PyProof.Rows
theorem xW{X:Cx}{CX:CXT}{k:Nat}{f C:Addr}{fd:FuncData}{ps:List Str}{sp:Sp}{E:XK}{m:Str}{pos apos:Pos}{e o:Expr}{es:List Expr}{ta:TE}{t:TA}{pl:Sem Bool}{pins:List (Addr × Obj)}{s:Shared}{σ:St}{H:Hp}{Q:VK}
  (he:PE X o ta) (c:Cls X.K C) (hm:vE X.K C m f) (F:E8 X.prog X.w X.K X.mg X.base CX k f fd ps sp) (hr:z4 k X.A) (hb:G3 X.K fd ps []) (hx:∀(H:Hp) (s:Shared) (e:Value) (s':Shared),Inv X pins σ H s→CX X.stack H s E e s'→X.xe e s') (ha:PA X (e :: es) t)
  (I:Inv X pins σ H s) (h:Ac C m sp [] E ta t σ H Q)
  (hst:starEach (e :: es) X.env=(false,eval e X.env) :: starEach es X.env) (hpl:(backTo pos (starEach es X.env)).any (·.1)=false)
  (ht:eval (.Call (.Attribute o m apos) (e :: es) [] pos) X.env=(do
   let ov ← eval o X.env
   standAt apos.atName
   let (f,fst0) ← holding [ov] (getMethod ov m pl)
   callWith pos f fst0 (backTo pos (starEach (e :: es) X.env)) (backToKw pos (keywordEach [] X.env)))) :
  wpAny (model X.prog X.w) X.A (eval (.Call (.Attribute o m apos) (e :: es) [] pos) X.env) (EP X pins σ Q) X.xe s:=by
 refine PySem.W.methodCall_KW (pl:=pl) (thn (he pins s σ H _ I h) fun u s1 ⟨x,H1,I1,rx,a,dx,fs,ex,ea,l,q⟩=>?_) ht
 subst ex
 obtain rfl:u=Value.ref a:=rx
 refine cD I1 ea c hm l ?_
 refine PySem.W.callWith_K (first:=[.ref a]) (h₀:=X.base) I.ok.mod.kin hm.kp (thn (ha pos pins s1 σ H1 _ I1 q) fun us s2 ⟨vs,H2,I2,r,q2⟩=>⟨I2.kIn,?_⟩) hst hpl
 have q2:sp (.ref a :: (vs++[])) H2 Q E:=q2
 rw[Jy]at q2
 have r2:i9 (V.ref a :: vs) (Value.ref a :: us):=.cons rfl r
 have hl:(Value.ref a :: us++[]).length=ps.length:=by rw[Jy,← r2.length];exact F.len _ _ _ _ q2
 refine wpAny_call (codeAny_mono (F.run X.A X.stack s2 H2 ⟨Value.ref a :: us,[]⟩ (Value.ref a :: us) (V.ref a :: vs) Q E hr I2.env0 (by have:=hb s2 (Value.ref a :: us) I2.kIn hl;rwa [Jy]at this) r2 q2) fun r s' hq=>?_)
 cases r with
 | error e=>exact hx H2 s2 e s' I2 hq
 | ok fl =>
  cases fl with
  | ret u=>exact I2.after hq
  | next=>exact False.elim hq
  | brk=>exact False.elim hq
  | cont=>exact False.elim hq
end L2
namespace DL
open PySem PySem.Spec L2
open PyProof.Rows hiding St
section
variable {X:Cx} {suite:List Stmt} {b0:Stmt} {c n cl m y:Str} {np hpos pos py cpos apos spos:Pos} {ts:DTS} {i j:Nat} {o a0:Expr} {as:List Expr} {to:DTE} {t:DTA} {k:Nat} {ps:List Str} {sp:DSp}
noncomputable def XPs(X:Cx)(pins:List (Addr × Obj))(σ:St)(EX:Value→Hp→Prop):Value→Shared→Prop:=fun e s' =>
 ∃ Hc sc a cls a0 H' B,Inv X pins σ Hc sc∧e = .ref a∧s'.os=sc.os∧AllBare s'.gens∧Un (frs X.stack) [] Hc H' sc.heap s'.heap∧HOk X.prog X.w H' s'.heap ∧
  X.base.StaysIn B∧Cov B sc.heap H' (frs X.stack) s'.heap∧Air B X.stack a cls a0 s'.heap∧EX cls H'
def FI(i j:Nat)(xs:List Str)(tb:DXK→DTE)(ts:DTS):DTS:=fun F e M=>∃ Y:DXK,tb Y e M (fun d M1=>F.nx (e.set j (some d)) M1)∧∀ x M',Y (xN x) M'→x∈xs∧ts (tH i F) (e.set i (some (.exc x))) M'
theorem tY(xs:List Str)(hst:X.stack=X.env :: X.outer)(hfrm:X.env.frame=some X.env.locals)(hxe:X.xe=fun _ _=>False)(hg:Gl X c)(hc:∀ x∈xs,TkN X.K X.mg c x)(hN:X.N.Nodup)(hi:X.N[i]? = some n)(hk:X.env.kindOf n=some .local)(hlc:Loc X.env.scope n)
  (hj:X.N[j]? = some y) (hly:Loc X.env.scope y) (G:gn X.prog X.w X.K X.mg X.base cl m k ps sp) (hr:z4 k X.A) (ho:JE X o to) (ha:JA X (a0 :: as) t)
  (hs:∀ pn a,JSs (Cx.hand (Cx.pinned X pn) a) (b0 :: suite) ts) {pl:Sem Bool}
  (hst2:starEach (a0 :: as) X.env=(false,eval a0 X.env) :: starEach as X.env:=by rfl) (hpl:(backTo cpos (starEach as X.env)).any (·.1)=false:=by rfl)
  (ht:eval (.Call (.Attribute o m apos) (a0 :: as) [] cpos) X.env=(do
   let ov ← eval o X.env
   standAt apos.atName
   let (f,fst0) ← holding [ov] (getMethod ov m pl)
   callWith cpos f fst0 (backTo cpos (starEach (a0 :: as) X.env)) (backToKw cpos (keywordEach [] X.env))):=by rfl)
  (hsw:swapsWith (.Call (.Attribute o m apos) (a0 :: as) [] cpos) (some (.Name y py)) spos.line X.env=pure false:=by rfl)
  (hf:X.fn n=true∨X.env.scope.names.lookup n=some .local:=by first|exact .inl rfl|exact .inr rfl|assumption) (hfy:X.fn y=true∨X.env.scope.names.lookup y=some .local:=by first|exact .inl rfl|exact .inr rfl|assumption) (hdb:(c == ("__debug__" : Str))=false:=by decide) :
  JS X (.Try [.Assign [.Name y py] (.Call (.Attribute o m apos) (a0 :: as) [] cpos) spos] [.ExceptHandler (some (.Name c np)) (some n) (b0 :: suite) hpos] [] [] pos) (FI i j xs (fun Y=>nU cl m sp Y to t) ts):=by
 refine⟨?_⟩
 rintro pins s σ H D I ⟨e,M,F,ok,am,⟨Y,h1,h2⟩,fit⟩
 rw[hxe]
 have Ip:=S4 I
 refine wpAny_Try_except ?_
 obtain⟨C,f,fd,FF,g1,g2,g3,g4⟩:=G.ex
 have wo:PE (X.wish (XPs X pins σ (gp X H Y))) o (up X.K to):=fun pins' s' σ' H' Q' I' hw =>
  wpAny_mono (ho.out pins' s' σ' H' Q' I'.unwish hw) (fun _ _ ⟨v,H2,I2,r,q⟩=>⟨v,H2,I2.wish _,r,q⟩) fun _ _ z=>by rw[hxe]at z;exact False.elim z
 have wa:PA (X.wish (XPs X pins σ (gp X H Y))) (a0 :: as) (upA X.K t):=fun pos' pins' s' σ' H' Q' I' hw =>
  wpAny_mono (ha.out pos' pins' s' σ' H' Q' I'.unwish hw) (fun _ _ ⟨v,H2,I2,r,q⟩=>⟨v,H2,I2.wish _,r,q⟩) fun _ _ z=>by rw[hxe]at z;exact False.elim z
 have one:wpAny (model X.prog X.w) X.A (exec (.Assign [.Name y py] (.Call (.Attribute o m apos) (a0 :: as) [] cpos) spos) X.env) (fun fl s1=>fl = .next∧SP X pins D .next s1) (XPs X pins σ (gp X H Y)) s:=by
  have mw:=xW (X:=X.wish (XPs X pins σ (gp X H Y))) (pins:=pins) (σ:=σ) (H:=H) (s:=s) (E:=fun cls _ H'=>gp X H Y cls H') (Q:=fun v H1=>D.nx (σ.set j (some v)) H1) wo g2.cl g3 FF hr g4
   (fun Hc sc e' s' Ic hq=>by
    obtain⟨a,cls,a0,H',B,rfl,ho,hg,un,hok,_,hB,cov,fl,hE⟩:=hq
    exact⟨Hc,sc,a,cls,a0,H',B,Ic.unwish,rfl,ho,hg,un,hok,hB,cov,.inl fl,hE⟩) wa (I.wish _)
   (xX g2.nm ok am h1 fun x ds M2 h v vs H2 k a r1 r2=>⟨x :: ds,M2,_,Y,by rw[Jy];exact .cons r1 r2,a,h,fun d M' hd v' H' k' a' r'=>fit.nx _ M' hd _ H' (k.trans k') a' ((ok.mono (k.trans k')).set r' j),fun y C M' hy z H' kt' a'=>⟨k.trans kt',y,C,M',rfl,hy,a',z⟩⟩) hst2 hpl ht
  refine wpAny_Assign_Name (wpAny_mono mw (fun v s1 ⟨y,H1,I1,r1,q1⟩=>?_) fun _ _ z=>z) hsw
  exact J5 I1.unwish hN hj hly r1 (fun s2 I2=>⟨rfl,_,H1,I2,q1⟩) hfy
 refine wpAny_mono (wpAny_execs_cons (wpAny_mono one (fun fl s1 ⟨e1,q⟩=>by subst e1;exact wpAny_execs_nil (Q:=fun fl s1=>fl = .next∧SP X pins D .next s1) ⟨rfl,q⟩) fun _ _ z=>z)) (fun fl s1 q=>?_) fun ev s1 hx=>?_
 ·obtain⟨rfl,q⟩:=q
  exact wpAny_execs_nil q
 ·obtain⟨Hc,sc,a,cls,a0',H',B,Ic,rfl,ho',hgb,un,hok,hB,cov,fl,kt2,x,Cq,M',rfl,hmx,am',hy⟩:=hx
  obtain⟨xin,hts⟩:=h2 x M' hy
  obtain⟨Cc,Cq2,m1,m2,mns,hex⟩:=(hc x xin).ex
  have ecx:Cq=Cq2:=by
   have:=hmx.symm.trans m2
   injection this with this
   injection this
  subst ecx
  have fl':Air B (X.env :: X.outer) a (.ref Cq) a0' s1.heap:=by rw[← hst];exact fl
  have hfr:X.A.frames=some (X.env :: X.outer):=by rw[← hst];exact I.ok.frames
  refine Air.looks (L:=X.env.locals) hfr hfrm fl' fun h4 held ups4=>?_
  refine wpAny_landsW held fun h5 fl5 ups5=>?_
  have I5:=S4 (pz Ic ho' hgb un hok cov fl fl5.1 (ups4.trans ups5))
  refine wpAny_handleBy_cons (codeAny_handlers_test ?_) (by intro q;cases q)
  refine P4 (X:=Cx.hand (Cx.pinned X (X.pn++pins)) a) (iU I5) hg m1 ?_ hdb
  have lt:PySem.W.Looks (model X.prog X.w) h5 (typeOf (.ref a)) (.ref Cq):=by
   obtain⟨ob,hob,hoc⟩:=fl5.there
   rw[← hoc]
   exact(PySem.W.Looks.ld hob).andThen .now
  refine(PySem.W.exm_one (I5.kIn) lt hex).here ?_
  show codeAny _ _ _ _ _
  refine codeAny_handlers_suite_as ?_
  refine lands_againW fl5 fun h6 fl6 ups6=>?_
  obtain⟨ob,hob,hoc⟩:=fl6.there
  obtain⟨nH,I6'⟩:=ko Ic ho' hgb un hok cov fl fl6.1 ((ups4.trans ups5).trans ups6) hob
  have I6:=S4 I6'
  have hx6:Has X.K (upd H' a (.frz ob (.own 0))) (.ref a) (.exc x):=.exc ⟨ob,Cq,j4,hoc,mns⟩
  have kt3:=kt2.trans (KT.alloc (o:=.frz ob (.own 0)) nH)
  refine J5 (X:=Cx.hand (Cx.pinned X (X.pn++pins)) a) (v:=.ref a) (iU I6) hN hi hlc rfl (fun s7 I7=>?_) hf
  refine wpAny_mono ((hs (X.pn++pins) a).out [] s7 _ _ (CB i D) I7 ⟨_,M',tH i F,(ok.mono kt3).set hx6 i,am'.alloc nH,hts,(yv fit i).mono kt3⟩) (fun fl s2 q=>?_) fun e2 s2 z=>?_
  ·exact yk hN hi hk (gX (oM I6.ok q))
  ·have z:X.xe e2 s2:=z
   rw[hxe]at z
   exact z.elim
end
inductive aA (K:IT):List DictEntry→List (Str × D)→Prop
 | nil:aA K [] []
 | cons {e:DictEntry} {x:Str} {t:Tok} {d:D} {es:List DictEntry} {fs:List (Str × D)}:e.key = .str x t→ju K e.val d→aA K es fs→aA K (e :: es) ((x,d) :: fs)
theorem p6{K:IT}{x:Str}{t:Tok}{hs:Int}{u:Value}{d:D}{es:List DictEntry}{fs:List (Str × D)}(h:ju K u d)(r:aA K es fs):aA K ((⟨hs,.str x t,u⟩:DictEntry) :: es) ((x,d) :: fs):=.cons rfl h r
structure yT(K:IT)(P:Params)(mg:Str→Option Value)(x:Str)(tab:List (Str × D)):Prop where
 ex:∃(a:Addr) (es:Array DictEntry) (n:Nat),mg x=some (.ref a)∧K.lookup a=some ⟨.type "dict",none,.dict es n,#[]⟩∧PySem.W.KeysLit P es.toList∧(a == sysModules)=false∧aA K es.toList tab
theorem iY{K:IT}{s:Str}:∀{es:List DictEntry} {tab:List (Str × D)},aA K es tab →
  (es.find? (·.key.isStr s)=none∧t5 s tab=none∧es.any (·.refKey)=false) ∨ ∃ e d,es.find? (·.key.isStr s)=some e∧t5 s tab=some d∧ju K e.val d
 | _,_,.nil=>.inl ⟨rfl,rfl,rfl⟩
 | _,_,.cons (e:=e) (x:=x) (t:=t) (d:=d) (es:=es) (fs:=fs) hk hv r=>by
  by_cases h:x=s
  ·have h1:e.key.isStr s=true:=by rw[hk,h,PySem.W.isStr_of];show(s == s)=true;exact beq_self_eq_true s
   exact .inr ⟨e,d,by rw[Lx,h1],by show(if x=s then some d else t5 s fs)=_;rw[if_pos h],hv⟩
  ·have h1:e.key.isStr s=false:=by
    rw[hk,PySem.W.isStr_of]
    show(x == s)=false
    exact beq_eq_false_iff_ne.mpr h
   have h2:t5 s ((x,d) :: fs)=t5 s fs:=by show(if x=s then some d else t5 s fs)=_;rw[if_neg h]
   have h3:e.refKey=false:=by unfold DictEntry.refKey;rw[hk]
   rcases iY (s:=s) r with⟨a,b,c⟩|⟨e',d',a,b,c⟩
   ·exact .inl ⟨by rw[Lx,h1];exact a,by rw[h2];exact b,by rw[LM,h3];exact c⟩
   ·exact .inr ⟨e',d',by rw[Lx,h1];exact a,by rw[h2];exact b,c⟩
theorem uH{K:IT}{a:Addr}{es:Array DictEntry}{n:Nat}{tab:List (Str × D)}{s:Str}(hl:K.lookup a=some ⟨.type "dict",none,.dict es n,#[]⟩)(hd:aA K es.toList tab) :
  (PySem.W.nsIn K a s=some none∧t5 s tab=none) ∨ ∃ u d,PySem.W.nsIn K a s=some (some u)∧t5 s tab=some d∧ju K u d:=by
 unfold PySem.W.nsIn
 rw[hl]
 dsimp only
 rcases iY (s:=s) hd with⟨a1,b,c⟩|⟨e,d,a1,b,c⟩
 ·rw[a1]
  exact .inl ⟨by show(if es.toList.any (·.refKey)=true then none else some none)=_;rw[c];rfl,b⟩
 ·rw[a1]
  exact .inr ⟨e.val,d,rfl,b,c⟩
section
variable {X:Cx} {a b:Expr} {x:Str} {p pos:Pos} {tab:List (Str × D)} {ta:DTE}
def kF(tab:List (Str × D))(y:D)(M:Mem)(R:DK):Prop:=∃ s,y = .str s∧R (.bl (t5 s tab).isNone) M
def fW(tab:List (Str × D))(ta:DTE):DTE:=fun e M R=>ta e M fun y M1=>kF tab y M1 R
def Ag(K:IT)(q:Addr)(tab:List (Str × D)):R2:=fun x y H Q=>∃ s,x = .str s∧y = .ref q∧Q (.bl (t5 s tab).isNone) H
theorem xJ{q:Addr}{es:Array DictEntry}{n:Nat}(hl:X.K.lookup q=some ⟨.type "dict",none,.dict es n,#[]⟩)(hk:PySem.W.KeysLit X.w.params es.toList)(lo:(q == sysModules)=false)(hd:aA X.K es.toList tab):OpR X (compareOp .NotIn) (Ag X.K q tab):=by
 intro pins s σ H x y v u Q I rx ry h
 obtain⟨z,rfl,rfl,r⟩:=h
 obtain⟨t,rfl⟩:=rx
 obtain rfl:u=Value.ref q:=ry
 have hm:=PySem.W.mapOf_K (prog:=X.prog) (w:=X.w) I.kIn hl hk
 rcases uH (s:=z) hl hd with⟨e1,e2⟩|⟨u',d,e1,e2,_⟩
 ·rw[e2]at r
  exact wpAny_notIn_of (strKind_is X.prog X.w z t) lo hm (by rw[PySem.W.find_K hl e1];exact⟨.bl true,H,I.tok _,rfl,r⟩)
 ·rw[e2]at r
  exact wpAny_notIn_of (strKind_is X.prog X.w z t) lo hm (by rw[PySem.W.find_K hl e1];exact⟨.bl false,H,I.tok _,rfl,r⟩)
theorem xT{q:Addr}{σ:St}{H:Hp}{Q:VK}(h:up X.K (fW tab ta) σ H Q):tOp (Ag X.K q tab) (up X.K ta) (tC (.ref q)) σ H Q:=by
 obtain⟨e,M,R,ok,am,t,f⟩:=h
 refine⟨e,M,_,ok,am,t,fun y M1 ⟨s,z,r⟩ v H1 k1 a1 r1=>?_⟩
 subst z
 cases r1
 exact⟨s,rfl,rfl,f _ _ r _ _ k1 a1 (.bl _)⟩
theorem kj(T:yT X.K X.w.params X.mg x tab)(hg:Gl X x)(ha:JE X a ta)(hdb:(x == ("__debug__" : Str))=false:=by decide):JT X (.Compare a [.NotIn] [.Name x p] pos) (ja (fW tab ta)):=by
 obtain⟨q,es,n,hm,hl,hk,lo,hd⟩:=T.ex
 exact⟨PT.imp (mZ (xJ hl hk lo hd) ha.out (fm (v:=.ref q) hg hm rfl hdb) rfl) fun σ H Q ⟨e,M,R,ok,am,t,f⟩=>xT ⟨e,M,_,ok,am,t,bJ f⟩⟩
def kG(tab:List (Str × D))(y:D)(M:Mem)(R:DK):Prop:=∃ s v,y = .str s∧t5 s tab=some v∧R v M
def uR(tab:List (Str × D))(tb:DTE):DTE:=fun e M R=>tb e M fun y M1=>kG tab y M1 R
def BQ(K:IT)(q:Addr)(tab:List (Str × D)):R2:=fun x y H Q=>x = .ref q∧∃ s d,y = .str s∧t5 s tab=some d∧∀ v,(∀ H',Has K H' v d)→Q v H
theorem uh{q:Addr}{es:Array DictEntry}{n:Nat}(hl:X.K.lookup q=some ⟨.type "dict",none,.dict es n,#[]⟩)(hk:PySem.W.KeysLit X.w.params es.toList)(hd:aA X.K es.toList tab):IxR X (BQ X.K q tab):=by
 intro value slice pins s σ H x y v u Q I rx ry h hs
 obtain⟨rfl,z,d,rfl,e2,r⟩:=h
 obtain⟨t,rfl⟩:=ry
 obtain rfl:v=Value.ref q:=rx
 obtain⟨m,F⟩:=I.fr
 rcases uH (s:=z) hl hd with⟨_,e3⟩|⟨u',d',e1,e3,hc⟩
 ·rw[e2]at e3;cases e3
 ·obtain rfl:d=d':=by rw[e2]at e3;exact Option.some.inj e3
  obtain⟨v',rv,hv⟩:=hc.ex
  exact PySem.W.topItem_K F I.ok.mod.kin hl hk e1 ⟨v',H,I.tok _,rv,r v' hv⟩ hs
theorem iR(T:yT X.K X.w.params X.mg x tab)(hg:Gl X x)(hb:JE X b ta)(hs:bc b)(hdb:(x == ("__debug__" : Str))=false:=by decide):JE X (.Subscript (.Name x p) b pos) (uR tab ta):=by
 obtain⟨q,es,n,hm,hl,hk,lo,hd⟩:=T.ex
 exact⟨PE.imp (Aj (uh hl hk hd) (fm (v:=.ref q) hg hm rfl hdb) hb.out hs) fun σ H Q ⟨e,M,R,ok,am,t,f⟩=>⟨e,M,_,ok,am,t,fun y M1 ⟨s,w,z,hw,r⟩ v H1 k1 a1 r1=>by
  subst z
  cases r1
  exact⟨rfl,s,w,rfl,hw,fun v' hv'=>f _ _ r _ _ k1 a1 (hv' _)⟩⟩⟩
end
theorem Dn{K:IT}{P:Params}{mg:Str→Option Value}{h:Heap}{x:Str}{a:Addr}{es:List DictEntry}{n:Nat}{tab:List (Str × D)}(X:K.In h)(G:h.Ns mainGlobals mg)
  (nm:PySem.W.nsIn K mainGlobals x=some (some (.ref a))) (l:K.lookup a=some ⟨.type "dict",none,.dict es.toArray n,#[]⟩) (k:PySem.W.KeysLit P es) (lo:(a == sysModules)=false) (hd:aA K es tab):yT K P mg x tab :=
 ⟨a,es.toArray,n,PySem.W.mg_of X G nm,l,k,lo,hd⟩
end DL
namespace DL
open PySem PySem.Spec L2 PySem.W
open PyProof.Rows hiding St
section
variable {K:IT} {mg:Str→Option Value} {c x q f0:Str} {C f:Addr} {st:Stmt} {ps:List Str} {h:Heap}
theorem yC(n:nsIn K mainGlobals c=some (some (.ref C)))(pg:plainGet K C Str.empty=true)(hd:hasDictIn K C=true)(po:plainOver K C=true)(sa:findIn K (.ref C) "__setattr__" = some (some (.builtin "object.__setattr__"))):yU K c:=⟨C,n,⟨pg,hd,po,sa⟩⟩
theorem tQ(n:nsIn K mainGlobals c=some (some (.ref C)))(a:findIn K (.ref C) f0=some none):NoA K c f0:=⟨C,n,a⟩
theorem CJ(n:nsIn K mainGlobals c=some (some (.ref C)))(mk:makesIn K C=true)(i:findIn K (.ref C) "__init__" = some (some (.ref f)))(fn:isFn K (.ref f)=true)(kp:keepIn K (.ref C)=true):MkD K c:=⟨C,f,n,⟨mk,i,fn,kp⟩⟩
theorem kz{oc:Value}{od an:Option Addr}{osl:Array (Option Value)}{dV kV doc pm cdv ct:Value}(X:K.In h)(G:h.Ns mainGlobals mg)(n:nsIn K mainGlobals c=some (some (.ref C)))(a:findIn K (.ref C) x=some (some (.ref f)))(i:isFn K (.ref f)=true)
  (l:K.lookup f=some ⟨oc,od,.func (fnOf x q (G1 st) (A4 st) (e5 st) dV kV doc pm an cdv ct),osl⟩) (cd:codeIn K cdv q=true) (k:keepIn K (.ref f)=true)
  (pg:plainGet K C Str.empty=true) (hd:hasDictIn K C=true) (po:plainOver K C=true) (sa:findIn K (.ref C) "__setattr__" = some (some (.builtin "object.__setattr__")))
  (hb:∀ us:List Value,us.length=ps.length→bindArgs (fnOf x q (G1 st) (A4 st) (e5 st) dV kV doc pm an cdv ct) ⟨us,[]⟩=pure (ps.zip us)):DfM K mg c x q st ps :=
 ⟨C,f,_,⟨⟨oc,od,dV,kV,doc,pm,an,cdv,ct,osl,rfl,l,cd⟩⟩,mg_of X G n,⟨n,⟨pg,hd,po,sa⟩⟩,⟨a,i,k⟩,.all hb⟩
end
section
variable {c f m:Str} {x y:D} {M:Mem} {R:DK} {e:Ev} {ta tv to:DTE} {t:DTA} {F:E5} {sp:DSp} {Y:DXK} {tab:List (Str × D)} {i j:Nat} {xs:List Str} {tb:DXK→DTE} {ts:DTS}
theorem zT:FV c f ta e M R=ta e M fun x M1=>DS c f x M1 R:=rfl
theorem qN:AL c f ta tv F e M=tv e M fun y M1=>ta e M1 fun x M2=>DO c f y x M2 (F.nx e):=rfl
theorem qS:nU c m sp Y to t e M R=to e M fun x M1=>DQ c m x M1 (t e M1 fun ds M2=>sp (x :: ds) M2 R Y):=rfl
theorem qT:AO c sp e M R = ∀ x,M x=none→sp [.ref x] (j9 M x (.ins c [])) (fun d M2=>d = .non∧R (.ref x) M2) Y0:=rfl
theorem gM:fW tab ta e M R=ta e M fun y M1=>kF tab y M1 R:=rfl
theorem gL{s:Str}:kF tab (.str s) M R=R (.bl (t5 s tab).isNone) M:=propext ⟨fun⟨_,z,r⟩=>by cases z;exact r,fun r=>⟨s,rfl,r⟩⟩
theorem mB:uR tab ta e M R=ta e M fun y M1=>kG tab y M1 R:=rfl
theorem gO{s:Str}:kG tab (.str s) M R = ∃ v,t5 s tab=some v∧R v M:=propext ⟨fun⟨_,v,z,h,r⟩=>by cases z;exact⟨v,h,r⟩,fun⟨v,h,r⟩=>⟨s,v,rfl,h,r⟩⟩
theorem T3{p:Addr}{fs:List (Str × D)}{v:D}(h:M p=some (.ins c fs))(g:t5 f fs=some v)(r:R v M):DS c f (.ref p) M R:=⟨p,fs,v,rfl,h,g,r⟩
theorem gm{P:Mem→Prop}{p:Addr}{fs:List (Str × D)}(h:M p=some (.ins c fs))(hl:fs.length<1000)(r:P (j9 M p (.ins c (jU f y fs)))):DO c f y (.ref p) M P:=⟨p,fs,rfl,h,hl,r⟩
theorem ow{P:Prop}{p:Addr}{fs:List (Str × D)}(h:M p=some (.ins c fs))(g:t5 m fs=none)(r:P):DQ c m (.ref p) M P:=⟨⟨p,fs,rfl,h,g⟩,r⟩
end
end DL
namespace DL
open PySem PySem.Spec L2
open PyProof.Rows hiding St
theorem tZ{X:Cx}{body suite:List Stmt}{c:Expr}{n:Option Str}{hpos pos:Pos}{t:DTS}(hxe:X.xe=fun _ _=>False)(hb:JSs X body t):JS X (.Try body [.ExceptHandler (some c) n suite hpos] [] [] pos) t:=by
 refine⟨fun pins s σ H D I h=>?_⟩
 refine wpAny_Try_except (wpAny_mono (hb.out pins s σ H D I h) (fun fl s1 q=>?_) fun e s1 z=>?_)
 ·cases fl with
  | next=>exact wpAny_execs_nil q
  | brk=>exact q
  | cont=>exact q
  | ret u=>exact q
 ·rw[hxe]at z;exact False.elim z
theorem yR.noX{P:Program}{w:World}{K:IT}{mg:Str→Option Value}{base:Heap}{c x:Str}{k:Nat}{ps:List Str}{sp:DSp}(G:gn P w K mg base c x k ps sp):FnM P w K mg base c x k ps (noX sp):=G.fn fun _ _ _ _ h=>h
section
variable {X:Cx} {mk:Bool} {H₀:Hp} {Y:DXK} {pos:Pos} {c a b:Expr} {ta tb:DTE} {tA:DTT}
theorem Bo{es:List Expr}{tr:DTA}(h:JXA X mk H₀ Y es tr):JXE X mk H₀ Y (.List es pos) (uP tr) :=
 ⟨PE.imp (X4 (jX (X:=Cx.ex' X mk H₀ Y) h.out)) fun σ H Q ⟨k,e,M,R,ok,am,t,f⟩=>⟨k,e,M,_,ok,am,t,fun ds M1 ⟨hz,h1⟩ vs H1 k1 a1 r1=>⟨by rw[r1.length];exact hz,fun p hp=>V2 f k1 a1 r1 h1 p hp⟩⟩⟩
theorem EG(hc:JT X.nox c tA)(ha:JXE X mk H₀ Y a ta)(hb:JXE X mk H₀ Y b tb):JXE X mk H₀ Y (.IfExp c a b pos) (dIf tA ta tb) :=
 ⟨PE.imp (iq (X:=Cx.ex' X mk H₀ Y) (mH hc.out) ha.out hb.out) fun σ H Q ⟨kk,e,M,R,ok,am,t,f⟩=>⟨e,M,_,ok,am,t,fun k M1 h1 H1 k1 a1=>by
  cases k with
  | true=>exact⟨kk.trans k1,e,M1,R,ok.mono k1,a1,h1,f.mono k1⟩
  | false=>exact⟨kk.trans k1,e,M1,R,ok.mono k1,a1,h1,f.mono k1⟩⟩⟩
end
end DL
namespace GM
open PySem PySem.Spec L2 DL PySem.NumText
open RM (sz)
noncomputable def jnW:List (List Nat)→List Nat
 | []=>[]
 | [w]=>w
 | w :: r=>w++32 :: jnW r
theorem Br{c:Nat}{a b:List Nat}(h:c∉a):(a++c :: b).takeWhile (· != c)=a∧(a++c :: b).dropWhile (· != c)=c :: b:=by
 induction a with
 | nil=>exact⟨by simp,by simp⟩
 | cons x a ih =>
  have hx:x≠c:=fun e=>h (e▸IZ ..)
  obtain⟨i1,i2⟩:=ih fun m=>h (Jc _ m)
  rw[Li,JP (by simp[hx]),Kn (by simp[hx]),i1,i2]
  exact⟨rfl,rfl⟩
theorem bL:∀(ws:List (List Nat)) (N:Nat),ws≠[]→(∀ w∈ws,32∉w)→(jnW ws).length<N→F9 [32] N (jnW ws) []=ws
 | [],_,h,_,_=>absurd rfl h
 | [w],N,_,hw,hN=>by
  have h0:¬ 32∈jnW [w]:=hw w (by simp)
  rw[bM 32 N _ [] hN,if_neg h0];rfl
 | w :: v :: r,N,_,hw,hN=>by
  have e:jnW (w :: v :: r)=w++32 :: jnW (v :: r):=rfl
  have h1:=Br (c:=32) (a:=w) (b:=jnW (v :: r)) (hw w (by simp))
  rw[e]at hN ⊢
  rw[bM 32 N _ [] hN,if_pos (by simp),h1.1,h1.2]
  rw[Jp,Jv]at hN
  show([]++w) :: F9 [32] (N - 1 - w.length) (jnW (v :: r)) []=_
  rw[bL (v :: r) (N - 1 - w.length) (by simp) (fun x hx=>hw x (Jc _ hx)) (by omega)]
  rfl
theorem af{s:Str}{ws:List Str}(h:sg s=jnW (ws.map sg))(hn:ws≠[])(hw:∀ w∈ws,32∉sg w):Txt.split s (Str.ofString " ")=ws:=by
 have sp:Str.ofString " " = ⟨#[32]⟩:=by decide +kernel
 rw[sp,rR (x:=s) (y:=⟨#[32]⟩) (Ja 1) (by decide +kernel) (Kz s.length)]
 show(F9 [32] s.length.succ (sg s) []).map mkS=ws
 rw[h,bL _ _ (by simpa using hn) (fun x hx=>by obtain⟨w,hm,rfl⟩:=Ma.mp hx;exact hw w hm) (by rw[← h,y4];exact Kz _),Kl]
 conv=>rhs;rw[← Mv ws]
 exact KJ fun x _=>rfl
theorem gR(n:Int):32∉sg (tx n):=fun h=>by have:=gQ n 32 h;omega
theorem fi(q:Rat):32∉sg (rtx q):=by
 unfold rtx
 split
 ·exact gR _
 ·rw[F0,F0]
  intro h
  rcases JF.mp h with h|h
  ·rcases JF.mp h with h|h
   ·exact gR _ h
   ·exact absurd h (by decide +kernel)
  ·exact gR _ h
theorem tU{x:Str × Rat}(h:(x.1 = "gap" ∧ 0≤x.2)∨x.1 = "glass" ∨ (x.1 = "stop" ∧ 0<x.2)):F4 x.1 x.2=true:=by
 have mb:F4 x.1 x.2=if x.1=Str.ofString "gap" then decide (0≤x.2.num)else if x.1=Str.ofString "stop" then decide (0<x.2.num)else decide (x.1=Str.ofString "glass"):=rfl
 rw[mb]
 rcases h with⟨e,h2⟩|e|⟨e,h2⟩
 ·rw[if_pos e,decide_eq_true_eq];exact LH.mpr h2
 ·rw[if_neg (by rw[e];decide +kernel),if_neg (by rw[e];decide +kernel),decide_eq_true_eq];exact e
 ·rw[if_neg (by rw[e];decide +kernel),if_pos e,decide_eq_true_eq]
  have:=(Rat.lt_iff 0 x.2).mp h2
  simpa using this
noncomputable abbrev Hl:=Rat × List (Str × Rat) × Rat
noncomputable def F7(h:Hl):D:=.tup [g8 h.1,.vl (h.2.1.map i5),g8 h.2.2]
noncomputable def stD(h:Hl):D:=.tup [.vl (h.2.1.map i5),g8 h.1,g8 h.2.2]
structure E3(h:Hl):Prop where
 n:sz h.1≤41
 f:sz h.2.2≤41
 l:h.2.1.length≤12
 p:∀ x∈h.2.1,p7 x
noncomputable def hl0:Hl:=(0,[],0)
theorem um:E3 hl0:=⟨by decide +kernel,by decide +kernel,by decide,fun _ h=>nomatch h⟩
structure y1(M:Mem)(d l:Addr)(h:Hl)(ps:List Hl):Prop where
 ob:M d=some (.ins (Str.ofString "Desk") [(Str.ofString "hall",F7 h),(Str.ofString "past",.ref l)])
 pa:M l=some (.lst (ps.map F7))
inductive Cmd
 | put (w:Str) (q:Rat)|set (k:Nat) (q:Rat)|cut (k:Nat)|near (q:Rat)|far (q:Rat)|back|bench|hall
noncomputable def Cmd.row:Cmd→Str
 | .put w q=>Str.ofString "put " ++ w++Str.ofString " " ++ rtx q
 | .set k q=>Str.ofString "set " ++ tx (k:Int)++Str.ofString " " ++ rtx q
 | .cut k=>Str.ofString "cut " ++ tx (k:Int)
 | .near q=>Str.ofString "near " ++ rtx q
 | .far q=>Str.ofString "far " ++ rtx q
 | .back=>Str.ofString "back"
 | .bench=>Str.ofString "bench"
 | .hall=>Str.ofString "hall"
noncomputable def Cmd.word:Cmd→Str
 | .put _ _=>Str.ofString "put"
 | .set _ _=>Str.ofString "set"
 | .cut _=>Str.ofString "cut"
 | .near _=>Str.ofString "near"
 | .far _=>Str.ofString "far"
 | .back=>Str.ofString "back"
 | .bench=>Str.ofString "bench"
 | .hall=>Str.ofString "hall"
noncomputable def Cmd.vals:Cmd→List D
 | .put w q=>[.str w,g8 q]
 | .set k q=>[.int (k:Int),g8 q]
 | .cut k=>[.int (k:Int)]
 | .near q=>[g8 q]
 | .far q=>[g8 q]
 | _=>[]
noncomputable def Cmd.Ok:Cmd→Prop
 | .put w q=>E9 w=true∧sz q≤41
 | .set k q=>k≤12∧sz q≤41
 | .cut k=>k≤12
 | .near q=>sz q≤41
 | .far q=>sz q≤41
 | _=>True
theorem GY{q:Rat}(h:sz q≤41):rdR (sg (rtx q))=some q:=have g:=Ar (q:=q) (by omega);sS g.1 g.2
theorem xo(k:Nat):rtx (k:Rat)=tx (k:Int):=by
 have h1:((k:Rat)).num=(k:Int):=rfl
 have h2:((k:Rat)).den=1:=rfl
 unfold rtx
 rw[if_pos h2,h1]
theorem BK{k:Nat}(h:k≤12):rdR (sg (tx (k:Int)))=some (k:Rat):=by
 rw[← xo]
 refine sS ?_ ?_
 ·show(k:Int).natAbs<_
  rw[Jl]
  exact Kh h (by decide +kernel)
 ·show 1<_
  decide +kernel
theorem wY{w:Str}(h:E9 w=true):32∉sg w:=by
 unfold E9 at h
 rw[Jz,Jz,decide_eq_true_eq,decide_eq_true_eq,decide_eq_true_eq]at h
 rcases h with(h|h)|h<;>rw[h]<;>decide +kernel
theorem W1{w:Str}(h:E9 w=true):w.length≤5:=by
 unfold E9 at h
 rw[Jz,Jz,decide_eq_true_eq,decide_eq_true_eq,decide_eq_true_eq]at h
 rcases h with(h|h)|h<;>rw[h]<;>decide +kernel
noncomputable def Cmd.texts:Cmd→List Str
 | .put w q=>[w,rtx q]
 | .set k q=>[tx (k:Int),rtx q]
 | .cut k=>[tx (k:Int)]
 | .near q=>[rtx q]
 | .far q=>[rtx q]
 | _=>[]
theorem Cmd.split{c:Cmd}(h:c.Ok):Txt.split c.row (Str.ofString " ")=c.word :: c.texts:=by
 have b1:sg (Str.ofString " ")=[32]:=by decide +kernel
 have w2:∀{a b a0:Str},sg a=sg a0++[32]→32∉sg a0→32∉sg b→Txt.split (a++b) (Str.ofString " ")=[a0,b]:=fun{a b a0} e h1 h2 =>
  af (by rw[F0,e];show(sg a0++[32])++sg b=sg a0++32 :: sg b;simp) (by simp) (fun w hw=>by
   simp only[Jj,Js,or_false]at hw
   rcases hw with rfl|rfl
   ·exact h1
   ·exact h2)
 have w3:∀{a b c a0:Str},sg a=sg a0++[32]→32∉sg a0→32∉sg b→32∉sg c→Txt.split (a++b++Str.ofString " " ++ c) (Str.ofString " ")=[a0,b,c]:=fun{a b c a0} e h1 h2 h3 =>
  af (by rw[F0,F0,F0,e,b1];show _=sg a0++32 :: (sg b++32 :: sg c);simp) (by simp) (fun w hw=>by
   simp only[Jj,Js,or_false]at hw
   rcases hw with rfl|rfl|rfl
   ·exact h1
   ·exact h2
   ·exact h3)
 cases c with
 | put w q=>exact w3 (a0:=Str.ofString "put") (by decide +kernel) (by decide +kernel) (wY h.1) (fi q)
 | set k q=>exact w3 (a0:=Str.ofString "set") (by decide +kernel) (by decide +kernel) (gR _) (fi q)
 | cut k=>exact w2 (a0:=Str.ofString "cut") (by decide +kernel) (by decide +kernel) (gR _)
 | near q=>exact w2 (a0:=Str.ofString "near") (by decide +kernel) (by decide +kernel) (fi q)
 | far q=>exact w2 (a0:=Str.ofString "far") (by decide +kernel) (by decide +kernel) (fi q)
 | back=>decide +kernel
 | bench=>decide +kernel
 | hall=>decide +kernel
theorem Cmd.len{c:Cmd}(h:c.Ok):c.row.length≤200:=by
 have tk:∀ k:Nat,k≤12→(tx (k:Int)).length≤3:=fun k hk=>G5 (n:=(k:Int)) (k:=2) (by decide) (by rw[Jl];omega)
 have q4:(Str.ofString "put ").length=4:=by decide +kernel
 have q5:(Str.ofString "set ").length=4:=by decide +kernel
 have q6:(Str.ofString "cut ").length=4:=by decide +kernel
 have q7:(Str.ofString "near ").length=5:=by decide +kernel
 have q8:(Str.ofString "far ").length=4:=by decide +kernel
 have q1:(Str.ofString " ").length=1:=by decide +kernel
 cases c with
 | put w q=>have h1:=z9 h.2;have h2:=W1 h.1;unfold Cmd.row;rw[j5,j5,j5];omega
 | set k q=>have h1:=z9 h.2;have h2:=tk k h.1;unfold Cmd.row;rw[j5,j5,j5];omega
 | cut k=>have h2:=tk k h;unfold Cmd.row;rw[j5];omega
 | near q=>have h1:=z9 (q:=q) h;unfold Cmd.row;rw[j5];omega
 | far q=>have h1:=z9 (q:=q) h;unfold Cmd.row;rw[j5];omega
 | back=>decide +kernel
 | bench=>decide +kernel
 | hall=>decide +kernel
abbrev U3(t:Str)(M:Mem)(R:DK)(Y:DXK):Prop:=t.length≤100000∧∃ q,rdR (sg t)=some q∧R (g8 q) M
def jR:DSp:=fun ds M R Y=>∃(t:Str),ds=[.str t]∧U3 t M R Y
theorem gA{t:Str}{M:Mem}{R:DK}{Y:DXK}:jR [.str t] M R Y=(U3 t M R Y):=propext ⟨fun z=>by obtain⟨_,_,_⟩:=z;walk_at "inj",fun h=>⟨t,rfl,h⟩⟩
abbrev P3(f t:Str)(M:Mem)(R:DK)(Y:DXK):Prop:=t.length≤100000∧((f=Str.ofString "word" ∧ E9 t=true∧R (.str t) M)∨(f=Str.ofString "number" ∧ ∃ q,rdR (sg t)=some q∧R (g8 q) M)∨(f=Str.ofString "part" ∧ ∃ k:Nat,rdR (sg t)=some (k:Rat)∧R (.int (k:Int)) M))
def fc:DSp:=fun ds M R Y=>∃(f t:Str),ds=[.str f,.str t]∧P3 f t M R Y
theorem dw{f t:Str}{M:Mem}{R:DK}{Y:DXK}:fc [.str f,.str t] M R Y=(P3 f t M R Y):=propext ⟨fun z=>by obtain⟨_,_,_,_⟩:=z;walk_at "inj",fun h=>⟨f,t,rfl,h⟩⟩
abbrev U2(s:Str)(M:Mem)(R:DK)(Y:DXK):Prop:=∃ c:Cmd,s=c.row∧c.Ok∧R (.tup [.str c.word,.vl c.vals]) M
def jQ:DSp:=fun ds M R Y=>∃(s:Str),ds=[.str s]∧U2 s M R Y
theorem gz{s:Str}{M:Mem}{R:DK}{Y:DXK}:jQ [.str s] M R Y=(U2 s M R Y):=propext ⟨fun z=>by obtain⟨_,_,_⟩:=z;walk_at "inj",fun h=>⟨s,rfl,h⟩⟩
abbrev U4(bs:List (Str × Rat))(k:Nat)(M:Mem)(R:DK)(Y:DXK):Prop:=(∀ x,bs[k]? = some x→R (i5 x) M)∧(bs.length≤k→Y (xN "NoPart") M)
def jS:DSp:=fun ds M R Y=>∃(bs:List (Str × Rat)) (k:Nat),ds=[.vl (bs.map i5),.int (k:Int)]∧U4 bs k M R Y
theorem gB{bs:List (Str × Rat)}{k:Nat}{M:Mem}{R:DK}{Y:DXK}:jS [.vl (bs.map i5),.int (k:Int)] M R Y=(U4 bs k M R Y):=propext ⟨fun z=>by obtain⟨_,_,_,_⟩:=z;walk_at "inj",fun h=>⟨bs,k,rfl,h⟩⟩
abbrev aG(w:Str)(q:Rat)(M:Mem)(R:DK)(Y:DXK):Prop:=(F4 w q=true→R (i5 (w,q)) M)∧(F4 w q=false→Y (xN "NoNumber") M)
def mR:DSp:=fun ds M R Y=>∃(w:Str) (q:Rat),ds=[.str w,g8 q]∧aG w q M R Y
theorem kO{w:Str}{q:Rat}{M:Mem}{R:DK}{Y:DXK}:mR [.str w,g8 q] M R Y=(aG w q M R Y):=propext ⟨fun z=>by obtain⟨_,_,_,_⟩:=z;walk_at "inj",fun h=>⟨w,q,rfl,h⟩⟩
noncomputable def chB(bs:List (Str × Rat)):Cmd→Except Str (List (Str × Rat))
 | .put w q=>if F4 w q=false then .error (Str.ofString "NoNumber")else if 12≤bs.length then .error (Str.ofString "TooMany")else .ok (bs++[(w,q)])
 | .set k q=>match bs[k]? with
  | none=>.error (Str.ofString "NoPart")
  | some x=>if F4 x.1 q=false then .error (Str.ofString "NoNumber")else .ok (bs.take k++[(x.1,q)]++bs.drop (k+1))
 | .cut k=>match bs[k]? with
  | none=>.error (Str.ofString "NoPart")
  | some _=>.ok (bs.take k++[]++bs.drop (k+1))
 | _=>.ok bs
noncomputable def Cmd.isB:Cmd→Prop
 | .put _ _=>True
 | .set _ _=>True
 | .cut _=>True
 | _=>False
noncomputable def Cmd.isC:Cmd→Prop
 | .near _=>True
 | .far _=>True
 | c=>c.isB
noncomputable def chH(h:Hl):Cmd→Except Str Hl
 | .near q=>.ok (q,h.2.1,h.2.2)
 | .far q=>.ok (h.1,h.2.1,q)
 | c=>match chB h.2.1 c with
  | .ok cs=>.ok (h.1,cs,h.2.2)
  | .error x=>.error x
noncomputable def bV(h:Hl)(ps:List Hl):Cmd→Except Str (Str × Hl × List Hl)
 | .back=>match ps.getLast? with
  | none=>.error (Str.ofString "NoPast")
  | some g=>.ok (Str.ofString "ok",g,ps.dropLast)
 | .bench=>.ok (btx h.2.1,h,ps)
 | .hall=>if 8<h.2.1.length then .error (Str.ofString "TooMany")else .ok (htx h.1 h.2.1 h.2.2,h,ps)
 | c=>match chH h c with
  | .ok g=>.ok (Str.ofString "ok",g,ps++[h])
  | .error x=>.error x
def Oth(d l:Addr)(M M':Mem):Prop:=∀ b,b≠d→b≠l→M' b=M b
abbrev aF(bs:List (Str × Rat))(w:Str)(q:Rat)(M:Mem)(R:DK)(Y:DXK):Prop:=bs.length≤12∧(F4 w q=false→Y (xN "NoNumber") M)∧(F4 w q=true→12≤bs.length→Y (xN "TooMany") M)∧(F4 w q=true→bs.length<12→R (.vl ((bs++[(w,q)]).map i5)) M)
def si:DSp:=fun ds M R Y=>∃(bs:List (Str × Rat)) (w:Str) (q:Rat),ds=[.vl (bs.map i5),.str w,g8 q]∧aF bs w q M R Y
theorem kN{bs:List (Str × Rat)}{w:Str}{q:Rat}{M:Mem}{R:DK}{Y:DXK}:si [.vl (bs.map i5),.str w,g8 q] M R Y=(aF bs w q M R Y):=propext ⟨fun z=>by obtain⟨_,_,_,_,_⟩:=z;walk_at "inj",fun h=>⟨bs,w,q,rfl,h⟩⟩
abbrev fh(bs:List (Str × Rat))(w:Str)(vs:List D)(M:Mem)(R:DK)(Y:DXK):Prop:=bs.length≤12∧∃ c:Cmd,w=c.word∧vs=c.vals∧c.isB∧(∀ cs,chB bs c = .ok cs→R (.vl (cs.map i5)) M)∧(∀ x,chB bs c = .error x→Y (xN x) M)
def BJ:DSp:=fun ds M R Y=>∃(bs:List (Str × Rat)) (w:Str) (vs:List D),ds=[.vl (bs.map i5),.str w,.vl vs]∧fh bs w vs M R Y
theorem qd{bs:List (Str × Rat)}{w:Str}{vs:List D}{M:Mem}{R:DK}{Y:DXK}:BJ [.vl (bs.map i5),.str w,.vl vs] M R Y=(fh bs w vs M R Y):=propext ⟨fun z=>by obtain⟨_,_,_,_,_⟩:=z;walk_at "inj",fun h=>⟨bs,w,vs,rfl,h⟩⟩
abbrev fg(near:Rat)(bs:List (Str × Rat))(far:Rat)(w:Str)(vs:List D)(M:Mem)(R:DK)(Y:DXK):Prop:=bs.length≤12∧∃ c:Cmd,w=c.word∧vs=c.vals∧c.isC∧(∀ g,chH (near,bs,far) c = .ok g→R (F7 g) M)∧(∀ x,chH (near,bs,far) c = .error x→Y (xN x) M)
def BI:DSp:=fun ds M R Y=>∃(near:Rat) (bs:List (Str × Rat)) (far:Rat) (w:Str) (vs:List D),ds=[.tup [g8 near,.vl (bs.map i5),g8 far],.str w,.vl vs]∧fg near bs far w vs M R Y
theorem qc{near:Rat}{bs:List (Str × Rat)}{far:Rat}{w:Str}{vs:List D}{M:Mem}{R:DK}{Y:DXK}:BI [.tup [g8 near,.vl (bs.map i5),g8 far],.str w,.vl vs] M R Y=(fg near bs far w vs M R Y):=propext ⟨fun z=>by obtain⟨_,_,_,_,_,_,_⟩:=z;walk_at "inj",fun h=>⟨near,bs,far,w,vs,rfl,h⟩⟩
abbrev aM(near:Rat)(bs:List (Str × Rat))(far:Rat)(w:Str)(vs:List D)(M:Mem)(R:DK)(Y:DXK):Prop:=E3 (near,bs,far)∧w=Str.ofString "hall" ∧ (8<bs.length→Y (xN "TooMany") M)∧(bs.length≤8→R (.str (htx near bs far)) M)
def sy:DSp:=fun ds M R Y=>∃(near:Rat) (bs:List (Str × Rat)) (far:Rat) (w:Str) (vs:List D),ds=[.tup [g8 near,.vl (bs.map i5),g8 far],.str w,.vl vs]∧aM near bs far w vs M R Y
theorem kX{near:Rat}{bs:List (Str × Rat)}{far:Rat}{w:Str}{vs:List D}{M:Mem}{R:DK}{Y:DXK}:sy [.tup [g8 near,.vl (bs.map i5),g8 far],.str w,.vl vs] M R Y=(aM near bs far w vs M R Y):=propext ⟨fun z=>by obtain⟨_,_,_,_,_,_,_⟩:=z;walk_at "inj",fun h=>⟨near,bs,far,w,vs,rfl,h⟩⟩
abbrev aQ(bs:List (Str × Rat))(w:Str)(vs:List D)(M:Mem)(R:DK)(Y:DXK):Prop:=(bs.length≤12∧∀ x∈bs,p7 x)∧w=Str.ofString "bench" ∧ R (.str (btx bs)) M
def sG:DSp:=fun ds M R Y=>∃(bs:List (Str × Rat)) (w:Str) (vs:List D),ds=[.vl (bs.map i5),.str w,.vl vs]∧aQ bs w vs M R Y
theorem lh{bs:List (Str × Rat)}{w:Str}{vs:List D}{M:Mem}{R:DK}{Y:DXK}:sG [.vl (bs.map i5),.str w,.vl vs] M R Y=(aQ bs w vs M R Y):=propext ⟨fun z=>by obtain⟨_,_,_,_,_⟩:=z;walk_at "inj",fun h=>⟨bs,w,vs,rfl,h⟩⟩
abbrev aL(d:Addr)(M:Mem)(R:DK)(Y:DXK):Prop:=M d=some (.ins (Str.ofString "Desk") [])∧∀ l,M l=none→R .non (j9 (j9 M l (.lst [])) d (.ins (Str.ofString "Desk") [(Str.ofString "hall",F7 hl0),(Str.ofString "past",.ref l)]))
def sx:DSp:=fun ds M R Y=>∃(d:Addr),ds=[.ref d]∧aL d M R Y
theorem kW{d:Addr}{M:Mem}{R:DK}{Y:DXK}:sx [.ref d] M R Y=(aL d M R Y):=propext ⟨fun z=>by obtain⟨_,_,_⟩:=z;walk_at "inj",fun h=>⟨d,rfl,h⟩⟩
abbrev aP(d:Addr)(M:Mem)(R:DK)(Y:DXK):Prop:=∃ h ps l,y1 M d l h ps∧(ps=[]→Y (xN "NoPast") M)∧∀ qs g,ps=qs++[g]→R (.str (Str.ofString "ok")) (j9 (j9 M l (.lst (qs.map F7))) d (.ins (Str.ofString "Desk") [(Str.ofString "hall",F7 g),(Str.ofString "past",.ref l)]))
def sF:DSp:=fun ds M R Y=>∃(d:Addr),ds=[.ref d]∧aP d M R Y
theorem lb{d:Addr}{M:Mem}{R:DK}{Y:DXK}:sF [.ref d] M R Y=(aP d M R Y):=propext ⟨fun z=>by obtain⟨_,_,_⟩:=z;walk_at "inj",fun h=>⟨d,rfl,h⟩⟩
abbrev eZ(d:Addr)(s:Str)(M:Mem)(R:DK)(Y:DXK):Prop:=∃(c:Cmd) (h:Hl) (ps:List Hl) (l:Addr),s=c.row∧c.Ok∧E3 h∧ps.length≤1000∧y1 M d l h ps∧(∀ a h' ps',bV h ps c = .ok (a,h',ps')→∀ M',y1 M' d l h' ps'→Oth d l M M'→R (.str a) M')∧(∀ x,bV h ps c = .error x→Y (xN x) M)
def BF:DSp:=fun ds M R Y=>∃(d:Addr) (s:Str),ds=[.ref d,.str s]∧eZ d s M R Y
theorem pX{d:Addr}{s:Str}{M:Mem}{R:DK}{Y:DXK}:BF [.ref d,.str s] M R Y=(eZ d s M R Y):=propext ⟨fun z=>by obtain⟨_,_,_,_⟩:=z;walk_at "inj",fun h=>⟨d,s,rfl,h⟩⟩
noncomputable def F8(x:Str):Int:=if x=Str.ofString "NoPart" then 1 else if x=Str.ofString "NoNumber" then 2 else if x=Str.ofString "TooMany" then 3 else 4
abbrev aE(d:Addr)(s:Str)(M:Mem)(R:DK)(Y:DXK):Prop:=∃(c:Cmd) (h:Hl) (ps:List Hl) (l:Addr),s=c.row∧c.Ok∧E3 h∧ps.length≤1000∧y1 M d l h ps∧(∀ a h' ps',bV h ps c = .ok (a,h',ps')→∀ M',y1 M' d l h' ps'→Oth d l M M'→R (.tup [.str a,.vl []]) M')∧(∀ x,bV h ps c = .error x→R (.tup [.non,.vl [.int (F8 x)]]) M)
def ic:DSp:=fun ds M R Y=>∃(d:Addr) (s:Str),ds=[.ref d,.str s]∧aE d s M R Y
theorem kM{d:Addr}{s:Str}{M:Mem}{R:DK}{Y:DXK}:ic [.ref d,.str s] M R Y=(aE d s M R Y):=propext ⟨fun z=>by obtain⟨_,_,_,_⟩:=z;walk_at "inj",fun h=>⟨d,s,rfl,h⟩⟩
theorem G2{bs:List (Str × Rat)}{w:Str}{q:Rat}:chB bs (.put w q)=if F4 w q=false then .error (Str.ofString "NoNumber")else if 12≤bs.length then .error (Str.ofString "TooMany")else .ok (bs++[(w,q)]):=rfl
theorem Q1{bs:List (Str × Rat)}{k:Nat}{q:Rat}{x:Str × Rat}(h:bs[k]? = some x):chB bs (.set k q)=if F4 x.1 q=false then .error (Str.ofString "NoNumber")else .ok (bs.take k++[(x.1,q)]++bs.drop (k+1)):=by
 show(match bs[k]? with|none=>_|some x=>_)=_
 rw[h]
theorem V6{bs:List (Str × Rat)}{k:Nat}{q:Rat}(h:bs.length≤k):chB bs (.set k q) = .error (Str.ofString "NoPart"):=by
 show(match bs[k]? with|none=>_|some x=>_)=_
 rw[Ly h]
theorem aZ{bs:List (Str × Rat)}{k:Nat}{x:Str × Rat}(h:bs[k]? = some x):chB bs (.cut k) = .ok (bs.take k++[]++bs.drop (k+1)):=by
 show(match bs[k]? with|none=>_|some x=>_)=_
 rw[h]
theorem V7{bs:List (Str × Rat)}{k:Nat}(h:bs.length≤k):chB bs (.cut k) = .error (Str.ofString "NoPart"):=by
 show(match bs[k]? with|none=>_|some x=>_)=_
 rw[Ly h]
theorem nD(w:Str):∀ ts:List Str,inV (.str w) (ts.map V.str)=ts.any (· == w)
 | []=>rfl
 | t :: ts=>by
  show((t == w) || inV (.str w) (ts.map V.str))=_
  rw[nD w ts];rfl
noncomputable def Q4:List (Str × D):=[("put",.tup [.str "word",.str "number"]),("set",.tup [.str "part",.str "number"]),("cut",.tup [.str "part"]),("near",.tup [.str "number"]),("far",.tup [.str "number"]),("back",.tup []),("bench",.tup []),("hall",.tup []),("table",.tup []),("image",.tup [.str "plane"]),("ray",.tup [.str "number",.str "number"]),("idle",.tup [.str "part"]),("round",.tup []),("ever",.tup [.str "number",.str "number"]),("glasses",.tup [])]
noncomputable def Cmd.forms:Cmd→List Str
 | .put _ _=>["word","number"]
 | .set _ _=>["part","number"]
 | .cut _=>["part"]
 | .near _=>["number"]
 | .far _=>["number"]
 | _=>[]
theorem sL:t5 (Str.ofString "put") Q4=some (.tup [.str "word",.str "number"]):=by kernel_rfl
theorem sJ:t5 (Str.ofString "set") Q4=some (.tup [.str "part",.str "number"]):=by kernel_rfl
theorem sN:t5 (Str.ofString "cut") Q4=some (.tup [.str "part"]):=by kernel_rfl
theorem oP:t5 (Str.ofString "near") Q4=some (.tup [.str "number"]):=by kernel_rfl
theorem sM:t5 (Str.ofString "far") Q4=some (.tup [.str "number"]):=by kernel_rfl
theorem oR:t5 (Str.ofString "back") Q4=some (.tup []):=by kernel_rfl
theorem jT:t5 (Str.ofString "bench") Q4=some (.tup []):=by kernel_rfl
theorem oQ:t5 (Str.ofString "hall") Q4=some (.tup []):=by kernel_rfl
theorem Cmd.rows(c:Cmd):t5 c.word Q4=some (.tup (c.forms.map D.str)):=by
 cases c with
 | put w q=>exact sL
 | set k q=>exact sJ
 | cut k=>exact sN
 | near q=>exact oP
 | far q=>exact sM
 | back=>exact oR
 | bench=>exact jT
 | hall=>exact oQ
theorem V3(x y:D):t5 (Str.ofString "hall") [(Str.ofString "hall",x),(Str.ofString "past",y)]=some x:=if_pos rfl
theorem cE(x y:D):t5 (Str.ofString "past") [(Str.ofString "hall",x),(Str.ofString "past",y)]=some y:=by
 have h:¬ Str.ofString "hall" = Str.ofString "past" := by decide +kernel
 show(if Str.ofString "hall" = Str.ofString "past" then _ else(if Str.ofString "past" = Str.ofString "past" then _ else _))=_
 rw[if_neg h,if_pos rfl]
theorem ij(x y z:D):jU (Str.ofString "hall") z [(Str.ofString "hall",x),(Str.ofString "past",y)]=[(Str.ofString "hall",z),(Str.ofString "past",y)]:=if_pos rfl
theorem sW(x y:D):jU (Str.ofString "past") y [(Str.ofString "hall",x)]=[(Str.ofString "hall",x),(Str.ofString "past",y)]:=by
 have h:¬ Str.ofString "hall" = Str.ofString "past" := by decide +kernel
 show(if Str.ofString "hall" = Str.ofString "past" then _ else _)=_
 rw[if_neg h];rfl
theorem nt(x y:D){m:Str}(h1:¬ Str.ofString "hall" = m)(h2:¬ Str.ofString "past" = m):t5 m [(Str.ofString "hall",x),(Str.ofString "past",y)]=none:=by
 show(if Str.ofString "hall" = m then _ else(if Str.ofString "past" = m then _ else _))=_
 rw[if_neg h1,if_neg h2];rfl
theorem y1.ne{M:Mem}{d l:Addr}{h:Hl}{ps:List Hl}(x:y1 M d l h ps):d≠l:=fun e=>by
 have:=x.ob
 rw[e,x.pa]at this;cases this
noncomputable def Cmd.tri:Cmd→List (Str × Str × D)
 | .put w q=>[(Str.ofString "word",w,.str w),(Str.ofString "number",rtx q,g8 q)]
 | .set k q=>[(Str.ofString "part",tx (k:Int),.int (k:Int)),(Str.ofString "number",rtx q,g8 q)]
 | .cut k=>[(Str.ofString "part",tx (k:Int),.int (k:Int))]
 | .near q=>[(Str.ofString "number",rtx q,g8 q)]
 | .far q=>[(Str.ofString "number",rtx q,g8 q)]
 | _=>[]
theorem Cmd.tri_f(c:Cmd):c.forms=c.tri.map (·.1):=by cases c<;>rfl
theorem Cmd.tri_t(c:Cmd):c.texts=c.tri.map (·.2.1):=by cases c<;>rfl
theorem Cmd.tri_v(c:Cmd):c.vals=c.tri.map (·.2.2):=by cases c<;>rfl
theorem Cmd.tri_l(c:Cmd):c.tri.length≤2:=by
 cases c with
 | put _ _=>exact Ja 2
 | set _ _=>exact Ja 2
 | cut _=>show 1≤2;decide
 | near _=>show 1≤2;decide
 | far _=>show 1≤2;decide
 | back=>exact Jx _
 | bench=>exact Jx _
 | hall=>exact Jx _
def js(x:Str × Str × D):Prop:=x.2.1.length≤100000∧((x.1=Str.ofString "word" ∧ E9 x.2.1=true∧x.2.2 = .str x.2.1)∨(x.1=Str.ofString "number" ∧ ∃ q,rdR (sg x.2.1)=some q∧x.2.2=g8 q)∨(x.1=Str.ofString "part" ∧ ∃ k:Nat,rdR (sg x.2.1)=some (k:Rat)∧x.2.2 = .int (k:Int)))
theorem Cmd.tri_ok{c:Cmd}(h:c.Ok):∀ x∈c.tri,js x:=by
 have nq:∀ q:Rat,sz q≤41→js (Str.ofString "number",rtx q,g8 q):=fun q hq=>⟨by have:=z9 hq;show(rtx q).length≤_;omega,.inr (.inl ⟨rfl,q,GY hq,rfl⟩)⟩
 have pk:∀ k:Nat,k≤12→js (Str.ofString "part",tx (k:Int),.int (k:Int)):=fun k hk=>⟨by have:=G5 (n:=(k:Int)) (k:=2) (by decide) (by rw[Jl];omega);show(tx (k:Int)).length≤_;omega,.inr (.inr ⟨rfl,k,BK hk,rfl⟩)⟩
 have two:∀{a b:Str × Str × D},js a→js b→∀ x∈[a,b],js x:=fun ha hb x hx=>by
  simp only[Jj,Js,or_false]at hx
  rcases hx with rfl|rfl
  ·exact ha
  ·exact hb
 have one:∀{a:Str × Str × D},js a→∀ x∈[a],js x:=fun ha x hx=>by
  simp only[Jj,Js,or_false]at hx
  rw[hx];exact ha
 cases c with
 | put w q=>exact two ⟨by have:=W1 h.1;show w.length≤_;omega,.inl ⟨rfl,h.1,rfl⟩⟩ (nq q h.2)
 | set k q=>exact two (pk k h.1) (nq q h.2)
 | cut k=>exact one (pk k h)
 | near q=>exact one (nq q h)
 | far q=>exact one (nq q h)
 | back=>exact fun _ hx=>nomatch hx
 | bench=>exact fun _ hx=>nomatch hx
 | hall=>exact fun _ hx=>nomatch hx
theorem vN(xs:List (Str × Str × D)):W0 ((xs.map (·.1)).map D.str) ((xs.map (·.2.1)).map D.str)=xs.map fun x=>.tup [.str x.1,.str x.2.1]:=by
 induction xs with
 | nil=>rfl
 | cons x xs ih =>
  unfold W0 at ih ⊢
  rw[IY,IY,IY,IY,List.zipWith_cons_cons,ih];rfl
theorem xc{M:Mem}{a b:Addr}{x y z:MO}(_h:b≠a):j9 (j9 (j9 M a x) b y) a z=j9 (j9 M b y) a z:=by
 funext c
 by_cases e:c=a
 ·rw[e,d9,d9]
 ·rw[e7 e,e7 e]
  by_cases e2:c=b
  ·rw[e2,d9,d9]
  ·rw[e7 e2,e7 e2,e7 e]
theorem kH{neg:Bool}{w:Str}(ts:List Str){M:Mem}{R:DK}(r:R (.bl (if neg then !(ts.any (· == w))else ts.any (· == w))) M):gIn neg (.str w) (.tup (ts.map D.str)) M R :=
 ⟨.str w,ts.map D.str,ts.map V.str,rfl,by simp only[D6],by rw[Kl,Kl];rfl,by rw[nD];exact r⟩
theorem bU{h:Hl}{ps:List Hl}{c:Cmd}(hb:c.isC):bV h ps c=(match chH h c with|.ok g=>.ok (Str.ofString "ok",g,ps++[h])|.error x=>.error x):=by
 cases c<;>first|rfl|exact hb.elim
theorem eW(h:Hl):bV h [] .back = .error (Str.ofString "NoPast"):=rfl
theorem P1(h g:Hl)(qs:List Hl):bV h (qs++[g]) .back = .ok (Str.ofString "ok",g,qs):=by
 show(match (qs++[g]).getLast? with|none=>_|some g'=>Except.ok (Str.ofString "ok",g',(qs++[g]).dropLast))=_
 rw[LD,LC]
noncomputable def chT:List Str:=[Str.ofString "put",Str.ofString "set",Str.ofString "cut",Str.ofString "near",Str.ofString "far"]
theorem yF:(chT.any fun x=>x == Str.ofString "put")=true:=by decide +kernel
theorem yE:(chT.any fun x=>x == Str.ofString "set")=true:=by decide +kernel
theorem yH:(chT.any fun x=>x == Str.ofString "cut")=true:=by decide +kernel
theorem vd:(chT.any fun x=>x == Str.ofString "near")=true:=by decide +kernel
theorem yG:(chT.any fun x=>x == Str.ofString "far")=true:=by decide +kernel
theorem vf:(chT.any fun x=>x == Str.ofString "back")=false:=by decide +kernel
theorem pN:(chT.any fun x=>x == Str.ofString "bench")=false:=by decide +kernel
theorem ve:(chT.any fun x=>x == Str.ofString "hall")=false:=by decide +kernel
theorem Cmd.change(c:Cmd):((chT.any fun x=>x == c.word)=true∧c.isC)∨((chT.any fun x=>x == c.word)=false∧(c = .back∨c = .bench∨c = .hall)):=by
 cases c with
 | put w q=>exact .inl ⟨yF,trivial⟩
 | set w q=>exact .inl ⟨yE,trivial⟩
 | cut w=>exact .inl ⟨yH,trivial⟩
 | near q=>exact .inl ⟨vd,trivial⟩
 | far q=>exact .inl ⟨yG,trivial⟩
 | back=>exact .inr ⟨vf,.inl rfl⟩
 | bench=>exact .inr ⟨pN,.inr (.inl rfl)⟩
 | hall=>exact .inr ⟨ve,.inr (.inr rfl)⟩
noncomputable def erN:List Str:=[Str.ofString "NoPart",Str.ofString "NoNumber",Str.ofString "TooMany",Str.ofString "NoPast"]
theorem yJ{bs:List (Str × Rat)}{c:Cmd}{x:Str}(h:chB bs c = .error x):x∈erN:=by
 have a1:Str.ofString "NoPart" ∈ erN:=IZ
 have a2:Str.ofString "NoNumber" ∈ erN:=.tail _ IZ
 have a3:Str.ofString "TooMany" ∈ erN:=.tail _ (.tail _ IZ)
 cases c with
 | put w q =>
  rw[G2]at h
  split at h
  ·cases h;exact a2
  ·split at h
   ·cases h;exact a3
   ·cases h
 | set k q =>
  by_cases hk:bs.length≤k
  ·rw[V6 hk]at h;cases h;exact a1
  ·rw[Q1 (Ji (by omega))]at h
   split at h
   ·cases h;exact a2
   ·cases h
 | cut k =>
  by_cases hk:bs.length≤k
  ·rw[V7 hk]at h;cases h;exact a1
  ·rw[aZ (Ji (by omega))]at h;cases h
 | near q=>cases h
 | far q=>cases h
 | back=>cases h
 | bench=>cases h
 | hall=>cases h
theorem nX{h:Hl}{c:Cmd}(hb:c.isB):chH h c=(match chB h.2.1 c with|.ok cs=>.ok (h.1,cs,h.2.2)|.error x=>.error x):=by
 cases c<;>first|rfl|exact hb.elim
theorem yI{h:Hl}{c:Cmd}{x:Str}(e:chH h c = .error x):x∈erN:=by
 have key:c.isB→x∈erN:=fun hb=>by
  rw[nX hb]at e
  cases q:chB h.2.1 c with
  | ok cs=>rw[q]at e;cases e
  | error y=>rw[q]at e;cases e;exact yJ q
 cases c with
 | put w q=>exact key trivial
 | set k q=>exact key trivial
 | cut k=>exact key trivial
 | near q=>cases e
 | far q=>cases e
 | back=>cases e
 | bench=>cases e
 | hall=>cases e
theorem rX{h:Hl}{ps:List Hl}{c:Cmd}{x:Str}(e:bV h ps c = .error x):x∈erN:=by
 rcases c.change with⟨_,hb⟩|⟨_,hb⟩
 ·rw[bU hb]at e
  cases q:chH h c with
  | ok g=>rw[q]at e;cases e
  | error y=>rw[q]at e;cases e;exact yI q
 ·rcases hb with rfl|rfl|rfl
  ·cases ps with
   | nil=>cases e;exact .tail _ (.tail _ (.tail _ IZ))
   | cons a r =>
    have:=P1 h ((a :: r).getLast (by simp)) ((a :: r).dropLast)
    rw[JL]at this
    rw[this]at e;cases e
  ·cases e
  ·have e:(if 8<h.2.1.length then _ else _)=_:=e
   split at e
   ·cases e;exact .tail _ (.tail _ IZ)
   ·cases e
noncomputable def flX(x:Str):List Bool:=[false,decide (x=Str.ofString "NoPart"),decide (x=Str.ofString "NoNumber"),decide (x=Str.ofString "TooMany"),decide (x=Str.ofString "NoPast")]
theorem He{x:Str}(h:x∈erN):((JZ 5).filter fun k:Nat=>(flX x)[k]?.getD false).map (fun k:Nat=>D.int (k:Int))=[.int (F8 x)]:=by
 simp only[erN,Jj,Js,or_false]at h
 have key:∀ y:Str,∀ l:List Bool,flX y=l→((JZ 5).filter fun k:Nat=>l[k]?.getD false).map (fun k:Nat=>D.int (k:Int))=[.int (F8 y)]→((JZ 5).filter fun k:Nat=>(flX y)[k]?.getD false).map (fun k:Nat=>D.int (k:Int))=[.int (F8 y)]:=fun y l e q=>by rw[e];exact q
 rcases h with rfl|rfl|rfl|rfl
 ·exact key _ [false,true,false,false,false] (by unfold flX;decide +kernel) rfl
 ·exact key _ [false,false,true,false,false] (by unfold flX;decide +kernel) (by rw[show F8 (Str.ofString "NoNumber")=2 by decide +kernel];rfl)
 ·exact key _ [false,false,false,true,false] (by unfold flX;decide +kernel) (by rw[show F8 (Str.ofString "TooMany")=3 by decide +kernel];rfl)
 ·exact key _ [false,false,false,false,true] (by unfold flX;decide +kernel) (by rw[show F8 (Str.ofString "NoPast")=4 by decide +kernel];rfl)
theorem eF{x n:Str}{a b c d:Bool}(h:x∈erN)(e1:a=decide (Str.ofString "NoPart" = n))(e2:b=decide (Str.ofString "NoNumber" = n))(e3:c=decide (Str.ofString "TooMany" = n))(e4:d=decide (Str.ofString "NoPast" = n)):(x,decide (x=n))∈[(Str.ofString "NoPart",a),(Str.ofString "NoNumber",b),(Str.ofString "TooMany",c),(Str.ofString "NoPast",d)]:=by
 simp only[erN,Jj,Js,or_false]at h
 subst e1 e2 e3 e4
 rcases h with rfl|rfl|rfl|rfl
 ·exact IZ
 ·exact .tail _ IZ
 ·exact .tail _ (.tail _ IZ)
 ·exact .tail _ (.tail _ (.tail _ IZ))
theorem jE{x:Str}{a:Bool}(h:x∈erN):(x,a)∈[(Str.ofString "NoPart",a),(Str.ofString "NoNumber",a),(Str.ofString "TooMany",a),(Str.ofString "NoPast",a)]:=by
 simp only[erN,Jj,Js,or_false]at h
 rcases h with rfl|rfl|rfl|rfl
 ·exact IZ
 ·exact .tail _ IZ
 ·exact .tail _ (.tail _ IZ)
 ·exact .tail _ (.tail _ (.tail _ IZ))
theorem y1.oth{M M':Mem}{d l:Addr}{h:Hl}{ps:List Hl}(x:y1 M d l h ps)(e1:M' d=M d)(e2:M' l=M l):y1 M' d l h ps:=⟨e1.trans x.ob,e2.trans x.pa⟩
noncomputable def iL(h:Hl)(ps:List Hl):Cmd→Except Str Hl
 | .back=>match ps.getLast? with
  | none=>.error (Str.ofString "NoPast")
  | some g=>.ok g
 | c=>chH h c
noncomputable def iX:Except Str Hl→D
 | .ok g=>stD g
 | .error x=>.int (F8 x)
abbrev aK(w:Str)(q:Rat)(M:Mem)(R:DK)(Y:DXK):Prop:=E9 w=true∧R (.bl (F4 w q)) M
def mT:DSp:=fun ds M R Y=>∃(w:Str) (q:Rat),ds=[.str w,g8 q]∧aK w q M R Y
theorem kS{w:Str}{q:Rat}{M:Mem}{R:DK}{Y:DXK}:mT [.str w,g8 q] M R Y=(aK w q M R Y):=propext ⟨fun z=>by obtain⟨_,_,_,_⟩:=z;walk_at "inj",fun h=>⟨w,q,rfl,h⟩⟩
abbrev aJ(bs:List (Str × Rat))(near far:Rat)(w:Str)(q:Rat)(M:Mem)(R:DK)(Y:DXK):Prop:=E9 w=true∧bs.length≤12∧(F4 w q=false→R (.int 2) M)∧(F4 w q=true→bs.length=12→R (.int 3) M)∧(F4 w q=true→bs.length<12→R (stD (near,bs++[(w,q)],far)) M)
def so:DSp:=fun ds M R Y=>∃(bs:List (Str × Rat)) (near far:Rat) (w:Str) (q:Rat),ds=[.tup [.vl (bs.map i5),g8 near,g8 far],.str w,g8 q]∧aJ bs near far w q M R Y
theorem kR{bs:List (Str × Rat)}{near far:Rat}{w:Str}{q:Rat}{M:Mem}{R:DK}{Y:DXK}:so [.tup [.vl (bs.map i5),g8 near,g8 far],.str w,g8 q] M R Y=(aJ bs near far w q M R Y):=propext ⟨fun z=>by obtain⟨_,_,_,_,_,_,_⟩:=z;walk_at "inj",fun h=>⟨bs,near,far,w,q,rfl,h⟩⟩
abbrev aO(p:Addr)(bs:List (Str × Rat))(near far:Rat)(l:Addr)(M:Mem)(R:DK)(Y:DXK):Prop:=y0 M p∧E3 (near,bs,far)∧∃ ps:List Hl,(M l=some (.lst (ps.map stD))∧∀ g∈ps,E3 g)∧∀(c:Cmd) M',c.Ok→(c.isC∨c = .back)→z6 p M M'→R (.tup [.str c.row,iX (iL (near,bs,far) ps c)]) M'
def sC:DSp:=fun ds M R Y=>∃(p:Addr) (bs:List (Str × Rat)) (near far:Rat) (l:Addr),ds=[.ref p,.tup [.vl (bs.map i5),g8 near,g8 far],.ref l]∧aO p bs near far l M R Y
theorem kZ{p:Addr}{bs:List (Str × Rat)}{near far:Rat}{l:Addr}{M:Mem}{R:DK}{Y:DXK}:sC [.ref p,.tup [.vl (bs.map i5),g8 near,g8 far],.ref l] M R Y=(aO p bs near far l M R Y):=propext ⟨fun z=>by obtain⟨_,_,_,_,_,_,_⟩:=z;walk_at "inj",fun h=>⟨p,bs,near,far,l,rfl,h⟩⟩
abbrev T9(d:Addr)(bs:List (Str × Rat))(near far:Rat)(M:Mem)(R:DK)(Y:DXK):Prop:=∃(ps:List Hl) (l:Addr),y1 M d l (near,bs,far) ps∧E3 (near,bs,far)∧ps.length≤1000∧R (.bl true) M
def jN:DSp:=fun ds M R Y=>∃(d:Addr) (bs:List (Str × Rat)) (near far:Rat),ds=[.ref d,.tup [.vl (bs.map i5),g8 near,g8 far]]∧T9 d bs near far M R Y
theorem gw{d:Addr}{bs:List (Str × Rat)}{near far:Rat}{M:Mem}{R:DK}{Y:DXK}:jN [.ref d,.tup [.vl (bs.map i5),g8 near,g8 far]] M R Y=(T9 d bs near far M R Y):=propext ⟨fun z=>by obtain⟨_,_,_,_,_,_⟩:=z;walk_at "inj",fun h=>⟨d,bs,near,far,rfl,h⟩⟩
theorem iK{h:Hl}{ps:List Hl}{c:Cmd}(hb:c.isC):iL h ps c=chH h c:=by
 cases c<;>first|rfl|exact hb.elim
theorem iJ{h:Hl}{ps:List Hl}{c:Cmd}{x:Str}(hb:c.isB)(hc:c.isC)(e:chB h.2.1 c = .error x):iX (iL h ps c) = .int (F8 x):=by
 rw[iK hc,nX hb,e];rfl
theorem tN{h:Hl}{ps:List Hl}{c:Cmd}{cs:List (Str × Rat)}(hb:c.isB)(hc:c.isC)(e:chB h.2.1 c = .ok cs):iX (iL h ps c)=stD (h.1,cs,h.2.2):=by
 rw[iK hc,nX hb,e];rfl
theorem AX:F8 (Str.ofString "NoPart")=1:=by decide +kernel
theorem AW:F8 (Str.ofString "NoNumber")=2:=by decide +kernel
theorem AV:F8 (Str.ofString "TooMany")=3:=by decide +kernel
theorem AU:F8 (Str.ofString "NoPast")=4:=by decide +kernel
theorem oN{bs:List (Str × Rat)}{n:Nat}{x:Str × Rat}(h:n<bs.length):(bs.map i5).set n (i5 x)=(bs.take n++[x]++bs.drop (n+1)).map i5:=by
 rw[← List.map_set,List.set_eq_take_append_cons_drop,if_pos h,Km];rfl
theorem dX{x:Str × Rat}(h:p7 x):E9 x.1=true:=by
 unfold E9
 rw[Jz,Jz,decide_eq_true_eq,decide_eq_true_eq,decide_eq_true_eq]
 rcases h.kind with⟨e,_⟩|e|⟨e,_⟩
 ·exact .inl (.inl e)
 ·exact .inl (.inr e)
 ·exact .inr e
theorem jh:∀{bs:List (Str × Rat)} (k:Nat),(∀ x∈bs,p7 x)→clL (k+3) (bs.map i5)=true
 | [],_,_=>rfl
 | p :: bs,k,h=>by
  rw[IY]
  show(cl (k+3) (i5 p) && clL (k+3) _)=true
  rw[jh k fun x hx=>h x (Jc _ hx),LR]
  show(PyData.canLay0 (.str p.1) && true)=true
  rw[yD (dX (h p IZ))];rfl
theorem Ga{h:Hl}(k:Nat)(ok:E3 h):cl (k+5) (stD h)=true:=by
 show(clL (k+3) (h.2.1.map i5) && true)=true
 rw[jh k ok.p];rfl
theorem uY:∀{ps:List Hl} (k:Nat),(∀ g∈ps,E3 g)→clL (k+5) (ps.map stD)=true
 | [],_,_=>rfl
 | p :: ps,k,h=>by
  rw[IY]
  show(cl (k+5) (stD p) && clL (k+5) _)=true
  rw[Ga k (h p IZ),uY k fun x hx=>h x (Jc _ hx)];rfl
theorem CG{q:Rat}(h:sz q≤41):∃ q2:Rat,sz q2≤41∧D.tup [D.int (max 1 (q.num.natAbs:Int)),D.int (q.den:Int)]=g8 q2:=by
 by_cases h0:q.num=0
 ·have hq:q=0:=Rat.num_eq_zero.mp h0
  refine⟨1,by rw[RM.rN];decide,?_⟩
  rw[hq];rfl
 ·refine⟨pS q,by rw[rP];exact h,?_⟩
  rw[vz,show max 1 (q.num.natAbs:Int)=(q.num.natAbs:Int)by omega]
theorem CD(h:Hl):iX (iL h [] .back) = .int 4:=by
 show D.int (F8 (Str.ofString "NoPast"))=_
 rw[AU]
theorem tO(h g:Hl)(qs:List Hl):iL h (qs++[g]) .back = .ok g:=by
 show(match (qs++[g]).getLast? with|none=>_|some g'=>Except.ok g')=_
 rw[LD]
theorem vy{s:Str}(h:∀ c∈sg s,c<128):PyData.canLay0 (.str s)=true:=by
 show s.cps.all (· < 0x110000)=true
 rw[Array.all_eq_true_iff_forall_mem]
 intro c hc
 have:=h c (Array.mem_toList_iff.mpr hc)
 exact decide_eq_true (by omega)
theorem DE{bs:List (Str × Rat)}(hp:∀ x∈bs,p7 x)(hl:bs.length≤12):PyData.canLay0 (.str (btx bs))=true:=vy (vp hp (by omega)).2
theorem yj{near far:Rat}{bs:List (Str × Rat)}(hp:∀ x∈bs,p7 x)(hl:bs.length≤12):∀ c∈sg (htx near bs far),c<128:=by
 unfold htx
 exact C4 (C4 (C4 (C4 (fj near) (by decide +kernel)) (vp hp (by omega)).2) (by decide +kernel)) (fj far)
theorem y1.same{M M':Mem}{d l:Addr}{h:Hl}{ps:List Hl}(x:y1 M d l h ps)(y:y1 M' d l h ps)(o:Oth d l M M'):M'=M:=by
 funext b
 by_cases e1:b=d
 ·rw[e1,x.ob,y.ob]
 ·by_cases e2:b=l
  ·rw[e2,x.pa,y.pa]
  ·exact o b e1 e2
abbrev aD(d:Addr)(bs:List (Str × Rat))(near far:Rat)(q p:Addr)(M:Mem)(R:DK)(Y:DXK):Prop:=∃(ps:List Hl) (l:Addr),(y1 M d l (near,bs,far) ps∧E3 (near,bs,far)∧ps.length≤900∧(∀ g∈ps,E3 g)∧M q=some (.lst (ps.map stD))∧y0 M p∧l≠q∧l≠p)∧∀(h':Hl) (ps':List Hl) (M':Mem),E3 h'→(∀ g∈ps',E3 g)→ps'.length≤ps.length+1→y1 M' d l h' ps'→M' q=some (.lst (ps'.map stD))→y0 M' p→(∀ b o,b≠d→b≠l→b≠q→b≠p→M b=some o→M' b=some o)→R (.tup [.bl true,stD h']) M'
def sh:DSp:=fun ds M R Y=>∃(d:Addr) (bs:List (Str × Rat)) (near far:Rat) (q p:Addr),ds=[.ref d,.tup [.vl (bs.map i5),g8 near,g8 far],.ref q,.ref p]∧aD d bs near far q p M R Y
theorem kL{d:Addr}{bs:List (Str × Rat)}{near far:Rat}{q p:Addr}{M:Mem}{R:DK}{Y:DXK}:sh [.ref d,.tup [.vl (bs.map i5),g8 near,g8 far],.ref q,.ref p] M R Y=(aD d bs near far q p M R Y):=propext ⟨fun z=>by obtain⟨_,_,_,_,_,_,_,_⟩:=z;walk_at "inj",fun h=>⟨d,bs,near,far,q,p,rfl,h⟩⟩
theorem BC{h:Hl}{ps:List Hl}{c:Cmd}(hc:c.isC∨c = .back){a:Str}{h':Hl}{ps':List Hl}(e:bV h ps c = .ok (a,h',ps')):a=Str.ofString "ok" ∧ iL h ps c = .ok h'∧((c.isC∧ps'=ps++[h])∨(c = .back∧ps=ps'++[h'])):=by
 rcases hc with hb|rfl
 ·rw[bU hb]at e
  rw[iK hb]
  cases q:chH h c with
  | ok g=>rw[q]at e;cases e;exact⟨rfl,rfl,.inl ⟨hb,rfl⟩⟩
  | error y=>rw[q]at e;cases e
 ·cases ps with
  | nil=>cases e
  | cons x r =>
   have e1:(x :: r).dropLast++[(x :: r).getLast (by simp)]=x :: r:=JL _
   rw[← e1,P1]at e
   rw[← e1,tO]
   cases e
   exact⟨rfl,rfl,.inr ⟨rfl,rfl⟩⟩
theorem BD{h:Hl}{ps:List Hl}{c:Cmd}(hc:c.isC∨c = .back){x:Str}(e:bV h ps c = .error x):iL h ps c = .error x:=by
 rcases hc with hb|rfl
 ·rw[bU hb]at e
  rw[iK hb]
  cases q:chH h c with
  | ok g=>rw[q]at e;cases e
  | error y=>rw[q]at e;cases e;rfl
 ·cases ps with
  | nil=>cases e;rfl
  | cons x r =>
   have e1:(x :: r).dropLast++[(x :: r).getLast (by simp)]=x :: r:=JL _
   rw[← e1,P1]at e;cases e
theorem tT{w:Str}{q:Rat}(h:F4 w q=true)(hq:sz q≤41):p7 (w,q):=by
 have mb:F4 w q=if w=Str.ofString "gap" then decide (0≤q.num)else if w=Str.ofString "stop" then decide (0<q.num)else decide (w=Str.ofString "glass"):=rfl
 rw[mb]at h
 refine⟨?_,hq⟩
 by_cases h1:w=Str.ofString "gap"
 ·rw[if_pos h1,decide_eq_true_eq]at h
  exact .inl ⟨h1,LH.mp h⟩
 ·rw[if_neg h1]at h
  by_cases h2:w=Str.ofString "stop"
  ·rw[if_pos h2,decide_eq_true_eq]at h
   exact .inr (.inr ⟨h2,(Rat.lt_iff 0 q).mpr (by simpa using h)⟩)
  ·rw[if_neg h2,decide_eq_true_eq]at h
   exact .inr (.inl h)
theorem DB{bs cs:List (Str × Rat)}{c:Cmd}(hl:bs.length≤12)(hp:∀ x∈bs,p7 x)(hc:c.Ok)(e:chB bs c = .ok cs):cs.length≤12∧∀ x∈cs,p7 x:=by
 cases c with
 | put w q =>
  rw[G2]at e
  split at e
  ·cases e
  ·rename_i h1
   split at e
   ·cases e
   ·rename_i h2
    cases e
    exact⟨by rw[Jp];show _+1≤_;omega,p7.app hp (tT (by simpa using h1) hc.2)⟩
 | set k q =>
  by_cases hk:bs.length≤k
  ·rw[V6 hk]at e;cases e
  ·have hx:=Ji (show k<bs.length by omega)
   rw[Q1 hx]at e
   split at e
   ·cases e
   ·rename_i h1
    cases e
    refine⟨by rw[Jp,Jp,Jw,JB];show _+1+_≤_;omega,fun x hm=>?_⟩
    rcases JF.mp hm with hm|hm
    ·rcases JF.mp hm with hm|hm
     ·exact hp x (LF hm)
     ·rw[JY.mp hm];exact tT (by simpa using h1) hc.2
    ·exact hp x (LG hm)
 | cut k =>
  by_cases hk:bs.length≤k
  ·rw[V7 hk]at e;cases e
  ·have hx:=Ji (show k<bs.length by omega)
   rw[aZ hx]at e
   cases e
   refine⟨by rw[Jy,Jp,Jw,JB];omega,fun x hm=>?_⟩
   rw[Jy]at hm
   rcases JF.mp hm with hm|hm
   ·exact hp x (LF hm)
   ·exact hp x (LG hm)
 | near q=>cases e;exact⟨hl,hp⟩
 | far q=>cases e;exact⟨hl,hp⟩
 | back=>cases e;exact⟨hl,hp⟩
 | bench=>cases e;exact⟨hl,hp⟩
 | hall=>cases e;exact⟨hl,hp⟩
theorem DA{h g:Hl}{c:Cmd}(ok:E3 h)(hc:c.Ok)(e:chH h c = .ok g):E3 g:=by
 have key:c.isB→E3 g:=fun hb=>by
  rw[nX hb]at e
  cases q:chB h.2.1 c with
  | ok cs =>
   rw[q]at e;cases e
   have:=DB ok.l ok.p hc q
   exact⟨ok.n,ok.f,this.1,this.2⟩
  | error y=>rw[q]at e;cases e
 cases c with
 | put w q=>exact key trivial
 | set k q=>exact key trivial
 | cut k=>exact key trivial
 | near q=>cases e;exact⟨hc,ok.f,ok.l,ok.p⟩
 | far q=>cases e;exact⟨ok.n,hc,ok.l,ok.p⟩
 | back=>cases e;exact ok
 | bench=>cases e;exact ok
 | hall=>cases e;exact ok
theorem sO{c:Cmd}(hc:c.Ok)(hb:c.isC):¬ c.row=Str.ofString "back" := fun e=>by
 have h1:=Cmd.split hc
 rw[e,show Txt.split (Str.ofString "back") (Str.ofString " ")=[Str.ofString "back"]by decide +kernel]at h1
 have h2:=(List.cons.inj h1).1
 cases c with
 | put w q=>exact absurd h2 (by show ¬ _=Str.ofString "put";decide +kernel)
 | set w q=>exact absurd h2 (by show ¬ _=Str.ofString "set";decide +kernel)
 | cut w=>exact absurd h2 (by show ¬ _=Str.ofString "cut";decide +kernel)
 | near q=>exact absurd h2 (by show ¬ _=Str.ofString "near";decide +kernel)
 | far q=>exact absurd h2 (by show ¬ _=Str.ofString "far";decide +kernel)
 | back=>exact hb.elim
 | bench=>exact hb.elim
 | hall=>exact hb.elim
theorem nh{M:Mem}{p q:Addr}{ps:List Hl}(h:y0 M p)(hq:M q=some (.lst (ps.map stD))):q≠p:=fun e=>by
 obtain⟨x,y,z,e3⟩:=h.ex
 rw[← e,hq]at e3
 cases ps with
 | nil=>cases e3
 | cons a r=>cases e3
theorem C3{M:Mem}{d p:Addr}{c:Str}{fs:List (Str × D)}{ds:List D}(h:M d=some (.ins c fs))(hp:M p=some (.lst ds)):d≠p:=fun e=>by rw[e,hp]at h;cases h
theorem V4{a b:D}(h:a=b):@decide (a=b) (Ke _)=true:=@decide_eq_true _ (Ke _) h
structure aq(M:Mem)(D L Q:Nat→Addr)(st:Addr)(H:Nat→Hl)(P:Nat→List Hl)(n:Nat):Prop where
 dk:∀ j,j<2→y1 M (D j) (L j) (H j) (P j)
 qs:∀ j,j<2→M (Q j)=some (.lst ((P j).map stD))
 ss:M st=some (.lst [stD (H 0),stD (H 1)])
 ok:∀ j,j<2→E3 (H j)∧(P j).length≤n∧∀ g∈P j,E3 g
structure vM(D L Q:Nat→Addr)(st:Addr):Prop where
 dd:D 0≠D 1
 ll:L 0≠L 1
 qq:Q 0≠Q 1
 lq:∀ i j,i<2→j<2→L i≠Q j
 ls:∀ i,i<2→L i≠st
 qs:∀ i,i<2→Q i≠st
theorem W3{A:Nat→Addr}(h:A 0≠A 1){i j:Nat}(hi:i<2)(hj:j<2)(ne:i≠j):A i≠A j:=by
 rcases(show i=0∧j=1∨i=1∧j=0 by omega)with⟨rfl,rfl⟩|⟨rfl,rfl⟩
 ·exact h
 ·exact h.symm
noncomputable def two(a b:Addr):Nat→Addr:=fun j=>if j=0 then a else b
theorem DH{a b:D}{k:Nat}(hk:k<2):atI [a,b] (k:Int)=some (if k=0 then a else b):=by
 rcases(show k=0∨k=1 by omega)with rfl|rfl
 ·exact D5 (j:=0) rfl
 ·exact D5 (j:=1) rfl
theorem oj{a b:Addr}{k:Nat}(hk:k<2):atI [D.ref a,D.ref b] (k:Int)=some (.ref (two a b k)):=by
 rw[DH hk]
 unfold two
 split<;>rfl
theorem vw{H:Nat→Hl}{k:Nat}(hk:k<2):atI [stD (H 0),stD (H 1)] (k:Int)=some (stD (H k)):=by
 rcases(show k=0∨k=1 by omega)with rfl|rfl
 ·exact D5 (j:=0) rfl
 ·exact D5 (j:=1) rfl
theorem ph{M1:Mem}{d0 l0 d1 l1 st q0 q1:Addr}(a1:M1 d0=some (.ins (Str.ofString "Desk") [(Str.ofString "hall",F7 hl0),(Str.ofString "past",.ref l0)]))(a2:M1 l0=some (.lst []))(b1:M1 d1=none)
  (b2:j9 M1 d1 (.ins (Str.ofString "Desk") []) l1=none) {M2:Mem} (e2:M2=j9 (j9 (j9 M1 d1 (.ins (Str.ofString "Desk") [])) l1 (.lst [])) d1 (.ins (Str.ofString "Desk") [(Str.ofString "hall",F7 hl0),(Str.ofString "past",.ref l1)])) (b3:M2 st=none)
  {M3:Mem} (e3:M3=j9 M2 st (.lst [stD hl0,stD hl0])) (b4:M3 q0=none) {M4:Mem} (e4:M4=j9 M3 q0 (.lst [])) (b5:M4 q1=none) :
  aq (j9 M4 q1 (.lst [])) (two d0 d1) (two l0 l1) (two q0 q1) st (fun _=>hl0) (fun _=>[]) 0∧vM (two d0 d1) (two l0 l1) (two q0 q1) st:=by
 have c1:d1≠l1:=fun e=>by rw[← e,d9]at b2;cases b2
 have c2:M1 l1=none:=by rw[e7 (Ne.symm c1)]at b2;exact b2
 have dd:d1≠d0:=fun e=>by rw[e,a1]at b1;cases b1
 have d1l0:d1≠l0:=fun e=>by rw[e,a2]at b1;cases b1
 have l1d0:l1≠d0:=fun e=>by rw[e,a1]at c2;cases c2
 have l1l0:l1≠l0:=fun e=>by rw[e,a2]at c2;cases c2
 have m2a:M2 d0=M1 d0:=by rw[e2,e7 dd.symm,e7 l1d0.symm,e7 dd.symm]
 have m2b:M2 l0=M1 l0:=by rw[e2,e7 d1l0.symm,e7 l1l0.symm,e7 d1l0.symm]
 have m2c:M2 d1=some (.ins (Str.ofString "Desk") [(Str.ofString "hall",F7 hl0),(Str.ofString "past",.ref l1)]):=by rw[e2,d9]
 have m2d:M2 l1=some (.lst []):=by rw[e2,e7 c1.symm,d9]
 have n1:d0≠st:=fun e=>by rw[← e,m2a,a1]at b3;cases b3
 have n2:l0≠st:=fun e=>by rw[← e,m2b,a2]at b3;cases b3
 have n3:d1≠st:=fun e=>by rw[← e,m2c]at b3;cases b3
 have n4:l1≠st:=fun e=>by rw[← e,m2d]at b3;cases b3
 have m3:∀ x,x≠st→M3 x=M2 x:=fun x h=>by rw[e3,e7 h]
 have m3s:M3 st=some (.lst [stD hl0,stD hl0]):=by rw[e3,d9]
 have u1:d0≠q0:=fun e=>by rw[← e,m3 _ n1,m2a,a1]at b4;cases b4
 have u2:l0≠q0:=fun e=>by rw[← e,m3 _ n2,m2b,a2]at b4;cases b4
 have u3:d1≠q0:=fun e=>by rw[← e,m3 _ n3,m2c]at b4;cases b4
 have u4:l1≠q0:=fun e=>by rw[← e,m3 _ n4,m2d]at b4;cases b4
 have u5:st≠q0:=fun e=>by rw[← e,m3s]at b4;cases b4
 have m4:∀ x,x≠q0→M4 x=M3 x:=fun x h=>by rw[e4,e7 h]
 have m4q:M4 q0=some (.lst []):=by rw[e4,d9]
 have v1:d0≠q1:=fun e=>by rw[← e,m4 _ u1,m3 _ n1,m2a,a1]at b5;cases b5
 have v2:l0≠q1:=fun e=>by rw[← e,m4 _ u2,m3 _ n2,m2b,a2]at b5;cases b5
 have v3:d1≠q1:=fun e=>by rw[← e,m4 _ u3,m3 _ n3,m2c]at b5;cases b5
 have v4:l1≠q1:=fun e=>by rw[← e,m4 _ u4,m3 _ n4,m2d]at b5;cases b5
 have v5:st≠q1:=fun e=>by rw[← e,m4 _ u5,m3s]at b5;cases b5
 have v6:q0≠q1:=fun e=>by rw[← e,m4q]at b5;cases b5
 have by2:∀{A:Nat→Prop},A 0→A 1→∀ j,j<2→A j:=fun h0 h1 j hj=>by
  rcases(show j=0∨j=1 by omega)with rfl|rfl
  ·exact h0
  ·exact h1
 refine⟨⟨by2 ⟨?_,?_⟩ ⟨?_,?_⟩,by2 ?_ ?_,?_,by2 ⟨um,Ja _,fun _ h=>nomatch h⟩ ⟨um,Ja _,fun _ h=>nomatch h⟩⟩,⟨dd.symm,l1l0.symm,v6,fun i j hi hj=>?_,by2 n2 n4,by2 u5.symm v5.symm⟩⟩
 ·show j9 M4 q1 _ d0=_
  rw[e7 v1,m4 _ u1,m3 _ n1,m2a,a1];rfl
 ·show j9 M4 q1 _ l0=_
  rw[e7 v2,m4 _ u2,m3 _ n2,m2b,a2];rfl
 ·show j9 M4 q1 _ d1=_
  rw[e7 v3,m4 _ u3,m3 _ n3,m2c];rfl
 ·show j9 M4 q1 _ l1=_
  rw[e7 v4,m4 _ u4,m3 _ n4,m2d];rfl
 ·show j9 M4 q1 _ q0=_
  rw[e7 v6,m4q];rfl
 ·show j9 M4 q1 _ q1=_
  rw[d9];rfl
 ·rw[e7 v5,m4 _ u5,m3s]
 ·rcases(show i=0∨i=1 by omega)with rfl|rfl<;>rcases(show j=0∨j=1 by omega)with rfl|rfl
  ·exact u2
  ·exact v2
  ·exact u4
  ·exact v4
theorem aq.keep{M M':Mem}{D L Q:Nat→Addr}{st:Addr}{H:Nat→Hl}{P:Nat→List Hl}{n:Nat}(x:aq M D L Q st H P n)(k:∀ b o,M b=some o→M' b=some o):aq M' D L Q st H P n :=
 ⟨fun j hj=>⟨k _ _ (x.dk j hj).ob,k _ _ (x.dk j hj).pa⟩,fun j hj=>k _ _ (x.qs j hj),k _ _ x.ss,x.ok⟩
theorem aq.step{M M':Mem}{D L Q:Nat→Addr}{st p:Addr}{H:Nat→Hl}{P:Nat→List Hl}{n k:Nat}(x:aq M D L Q st H P n)(ap:vM D L Q st)(hk:k<2)(hp:y0 M p){h':Hl}{ps':List Hl}(ok:E3 h')(og:∀ g∈ps',E3 g)(hl:ps'.length≤(P k).length+1)
  (dk:y1 M' (D k) (L k) h' ps') (hq:M' (Q k)=some (.lst (ps'.map stD))) (kp:∀ b o,b≠D k→b≠L k→b≠Q k→b≠p→M b=some o→M' b=some o) (np:∀ j,j<2→L j≠p) (sp:st≠p) :
  M' st=some (.lst [stD (H 0),stD (H 1)])∧aq (j9 M' st (.lst ([stD (H 0),stD (H 1)].set k (stD h')))) D L Q st (fun j=>if j=k then h' else H j) (fun j=>if j=k then ps' else P j) (n+1):=by
 have lD:∀{j i},j<2→i<2→L j≠D i:=fun{j i} hj hi=>(C3 (x.dk i hi).ob (x.dk j hj).pa).symm
 have qD:∀{j i},j<2→i<2→Q j≠D i:=fun{j i} hj hi=>(C3 (x.dk i hi).ob (x.qs j hj)).symm
 have sD:∀{i},i<2→st≠D i:=fun{i} hi=>(C3 (x.dk i hi).ob x.ss).symm
 have pD:∀{i},i<2→D i≠p:=fun{i} hi=>by obtain⟨a,b,c,e⟩:=hp.ex;exact C3 (x.dk i hi).ob e
 have pQ:∀{i},i<2→Q i≠p:=fun{i} hi=>nh hp (x.qs i hi)
 have s1:M' st=some (.lst [stD (H 0),stD (H 1)]):=kp _ _ (sD hk) (ap.ls k hk).symm (ap.qs k hk).symm sp x.ss
 refine⟨s1,fun j hj=>?_,fun j hj=>?_,?_,fun j hj=>?_⟩
 ·by_cases e:j=k
  ·subst e
   simp only[if_pos]
   exact dk.oth (e7 (sD hj).symm) (e7 (ap.ls j hj))
  ·simp only[if_neg e]
   have a:=kp _ _ (W3 ap.dd hj hk e) (lD hk hj).symm (qD hk hj).symm (pD hj) (x.dk j hj).ob
   have b:=kp _ _ (lD hj hk) (W3 ap.ll hj hk e) (ap.lq j k hj hk) (np j hj) (x.dk j hj).pa
   exact⟨by rw[e7 (sD hj).symm];exact a,by rw[e7 (ap.ls j hj)];exact b⟩
 ·rw[e7 (ap.qs j hj)]
  by_cases e:j=k
  ·subst e
   simp only[if_pos]
   exact hq
  ·simp only[if_neg e]
   exact kp _ _ (qD hj hk) (ap.lq k j hk hj).symm (W3 ap.qq hj hk e) (pQ hj) (x.qs j hj)
 ·rw[d9]
  rcases(show k=0∨k=1 by omega)with rfl|rfl
  ·rfl
  ·rfl
 ·have o:=x.ok j hj
  by_cases e:j=k
  ·subst e
   simp only[if_pos]
   exact⟨ok,by omega,og⟩
  ·simp only[if_neg e]
   exact⟨o.1,by omega,o.2.2⟩
def pT(M:Mem)(D L Q:Nat→Addr)(H:Nat→Hl)(P:Nat→List Hl)(k:Nat):Prop:=∀ j,k≤j→j<2→y1 M (D j) (L j) (H j) (P j)∧M (Q j)=some (.lst ((P j).map stD))
theorem pT.oth{M M':Mem}{D L Q:Nat→Addr}{st:Addr}{H:Nat→Hl}{P:Nat→List Hl}{k:Nat}{h:Hl}{ps:List Hl}(x:pT M D L Q H P (k+1))(ap:vM D L Q st)(hk:k<2)(dk:y1 M (D k) (L k) h ps)(o:Oth (D k) (L k) M M'):pT M' D L Q H P (k+1):=fun j h1 h2=>by
 obtain⟨a,b⟩:=x j h1 h2
 have ne:j≠k:=by omega
 refine⟨a.oth (o _ (W3 ap.dd h2 hk ne) (C3 a.ob dk.pa)) (o _ (C3 dk.ob a.pa).symm (W3 ap.ll h2 hk ne)),?_⟩
 rw[o _ (C3 dk.ob b).symm (ap.lq k j hk h2).symm];exact b
theorem oH{P:List Hl}{n i:Nat}(hn:P.length=n)(hi:i<n):∃ g,P[n - 1 - i]? = some g∧P.take (n - i)=P.take (n - (i+1))++[g]∧g∈P:=by
 have h1:n - 1 - i<P.length:=by omega
 refine⟨P[n - 1 - i],Ji h1,?_,Lh h1⟩
 rw[show n - i=(n - 1 - i)+1 by omega,JN h1,show n - (i+1)=n - 1 - i by omega]
end GM
namespace K59
open PySem PySem.Spec L2 DL GM
open RM (sz)
open PyProof.Rows hiding St
local macro_rules|`(tactic| walk_at "sim")=>do
 let f:=fun(b:Bool) (p:String) (s:String)=>((s.splitOn " ").mapM (fun s=>(let i:=Lean.mkIdent (p++s).toName;if b then `(Lean.Parser.Tactic.simpLemma| ↓$i:ident)else `(Lean.Parser.Tactic.simpLemma| $i:ident))):Lean.MacroM _)
 let a := "z_C EB Ez Ex Ey Ew Eu Et qF zW zY EA zx rj zw qQ ED zO zy rd zp zH rh EE qR zt rb zu mr lY qE lZ bF zX zv qP zM zZ zG zN zQ zP qU rg zq gN qO mq gJ lW gK mE qB lV zR zU mC zo me qL qK ma mm mh ml mj mf qM zS zV qV qW EC jz lO lN lR lQ lP lU lS qI mn mD lH lG lK lJ lI lM lL Z6 bp dE bq dD Z5 bj dB bo dA Z9 bx dM bz dJ Z8 bu dI bw dH Z7 br dG bt dF ae bC dQ bD dP aa bA dO bB dN Eh Eg Ef Ee Ed Ec Eb Ea DZ DY yV Es Er Ep Eo En Em El Ek Ej Ei zl bh bg jy qA qz qy qx qw qv qu qt qr qp qo qm ql zk zj zi zh ze zc yZ yY yX yW rf qJ qY mz zK qj qk zI qX qZ zL zJ zr qC qG md qH zF lX gH dR zm zT qN qS qT gM gL mB gO"
 let b := "gG dz lj qi qh qg qf lA lu lr lB lF lE lC lh lb qe gE qd qc kZ kY qb kX qa gD kW kU kT gC kS kR kQ kP gB kO pZ kN gA gz dw gy gx pY kM pX gw kL pW du Z4 kK gv bf gu aQ aP bY fh fg aO aN aM bX aL U6 U5 aK aJ ig aI aH U4 aG fe aF U3 U2 P3 U1 U0 fb aE eZ T9 aD eY P2"
 let xs:=((← f true "DL." a)++(← f true "GM." b)++(← f false "GM." b)++(← f false "DL." a)++(← f false "" "DL.wO DL.wI DL.wx DL.wg DL.wQ DL.wJ DL.wy DL.wj DL.wR DL.wK DL.wz DL.wm DL.wU DL.wL DL.wA DL.wq DL.wV DL.wM DL.wB DL.wt DL.wW DL.wN DL.wC DL.wu DL.vS DL.vY DL.vT DL.vZ DL.vU DL.wb DL.vV DL.wc DL.vW DL.wd DL.vX DL.we GM.wD GM.wF GM.wG GM.wH DL.Bn DL.Bm DL.Bl DL.Bk DL.Bj DL.Bi DL.Bh DL.Bg DL.Bf DL.vR DL.vQ DL.vP Nat.reduceAdd Nat.reduceLT Nat.reduceLeDiff Nat.zero_add Int.reduceLT Int.reduceLE Int.reduceEq eq_self decide_true decide_false D.int.injEq D.str.injEq beq_self_eq_true and_self true_and and_true not_true_eq_false not_false_eq_true false_implies true_implies forall_const C9 IY Jq Li Ml Jy Jv Lw Jo jj List.getElem?_cons_zero List.getElem?_cons_succ Option.getD_some decide_eq_true_eq decide_eq_false_iff_not Lb Bool.not_eq_false' Bool.and_self KG LR Bool.xor_false Bool.false_xor Bool.true_xor Bool.not_true Bool.not_false KS Bool.true_eq_false reduceIte GM.r0 GM.r1 GM.r2 GM.r4 GM.rm1 GM.rm2 GM.i7 GM.BO GM.Fb GM.EZ GM.BN")).toArray
 `(tactic| try simp only[$xs,*])
local macro_rules|`(tactic| walk_at "fn")=>do
 let i:=fun(s:String)=>Lean.mkIdent s.toName
 let x:=(("f cdv A outer s H E ds M R Y hr h".splitOn " ").map i).toArray
 `(tactic| (refine $(i "y2") $(i "d") $(i "sc") (by walk_at "len") (fun $x*=>?_);have $(i "hu"):ident:=$(i "hr.units")))
local macro_rules|`(tactic| walk_at "len")=>`(tactic| (intro ds M R Y h;repeat(first|exact congrArg Kj h.1|(obtain⟨_,h⟩:=h))))
local macro_rules|`(tactic| walk_at "size")=>`(tactic| first|omega|grind only[RM.Bw,RM.rO,RM.Bv,RM.jF,RM.rN,RM.xi,GM.rP])
local macro_rules|`(tactic| walk_at "sc")=>`(tactic| exact⟨rfl,rfl,rfl,by decide +kernel,rfl,by decide +kernel,by decide +kernel⟩)
noncomputable def top(i:Nat):Stmt:=PySem.Challenge.pw_roundglass_k59_desk_keeps.main.body.getD i (.Pass ⟨0,0,0,0⟩)
noncomputable abbrev K2:Stmt:=top 115
noncomputable abbrev X2:Stmt:=top 14
noncomputable abbrev R3:Stmt:=top 13
noncomputable abbrev R4:Stmt:=top 15
noncomputable abbrev K5:Stmt:=top 116
noncomputable abbrev R0:Stmt:=top 40
noncomputable abbrev X1:Stmt:=top 41
noncomputable abbrev N4:Stmt:=top 117
noncomputable abbrev K6:Stmt:=top 118
noncomputable abbrev F1:Stmt:=top 144
noncomputable abbrev G8:Stmt:=top 120
noncomputable abbrev K3:Stmt:=top 121
noncomputable abbrev K4:Stmt:=top 122
noncomputable abbrev G6:Stmt:=top 130
noncomputable abbrev N2:Stmt:=top 131
noncomputable abbrev Q9:Stmt:=top 132
noncomputable abbrev N5:Stmt:=top 119
noncomputable abbrev G7:Stmt:=top 143
noncomputable abbrev C5:Stmt:=fQ (top 145) 2
noncomputable abbrev N3:Stmt:=top 134
noncomputable abbrev X0:Stmt:=top 133
noncomputable abbrev rY:Stmt:=top 135
noncomputable abbrev D9:Stmt:=top 136
noncomputable abbrev X3:Stmt:=top 137
noncomputable abbrev R7:Stmt:=fQ (top 145) 1
noncomputable abbrev N8:Stmt:=top 153
noncomputable abbrev N7:Stmt:=top 151
noncomputable abbrev B7:Stmt:=top 152
noncomputable abbrev K7:Stmt:=top 157
noncomputable abbrev R6:Stmt:=top 154
noncomputable abbrev R5:Stmt:=top 155
noncomputable abbrev O0:Stmt:=top 148
noncomputable abbrev K8:Stmt:=top 149
noncomputable abbrev G9:Stmt:=top 150
noncomputable abbrev O1:Stmt:=top 156
noncomputable abbrev N6:Stmt:=top 158
noncomputable abbrev N9:Stmt:=top 147
noncomputable abbrev E1:Stmt:=fQ (top 145) 0
noncomputable abbrev rZ:Stmt:=top 159
theorem cP:i4 ["number","unit","rest","pieces","piece"] ["number"] (e5 K2):=by walk_at "sc"
theorem jL:i4 ["one","other"] ["one","other"] (e5 X2):=by walk_at "sc"
theorem hJ:i4 ["thing"] ["thing"] (e5 R3):=by walk_at "sc"
theorem hV:i4 ["thing","top","bottom"] ["thing"] (e5 R4):=by walk_at "sc"
theorem cS:i4 ["one","top","bottom"] ["one"] (e5 K5):=by walk_at "sc"
theorem hG:i4 ["word","number"] ["word","number"] (e5 R0):=by walk_at "sc"
theorem jK:i4 ["thing","word","number"] ["thing"] (e5 X1):=by walk_at "sc"
theorem eO:i4 ["part"] ["part"] (e5 N4):=by walk_at "sc"
theorem cT:i4 ["bench"] ["bench"] (e5 K6):=by walk_at "sc"
theorem ar:i4 ["bench","question","values"] ["bench","question","values"] (e5 F1):=by walk_at "sc"
theorem bS:i4 ["text"] ["text"] (e5 G8):=by walk_at "sc"
theorem cQ:i4 ["text"] ["text"] (e5 K3):=by walk_at "sc"
theorem cR:i4 ["text","top_text","slash","bottom_text","told"] ["text"] (e5 K4):=by walk_at "sc"
theorem bQ:i4 ["text"] ["text"] (e5 G6):=by walk_at "sc"
theorem eM:i4 ["form","text","number"] ["form","text"] (e5 N2):=by walk_at "sc"
theorem gZ:i4 ["row","words"] ["row"] (e5 Q9):=by walk_at "sc"
theorem eP:i4 ["hall","near","bench","far"] ["hall"] (e5 N5):=by walk_at "sc"
theorem bR:i4 ["hall","question","values"] ["hall","question","values"] (e5 G7):=by walk_at "sc"
theorem T8:i4 ["self"] ["self"] (e5 C5):=by walk_at "sc"
theorem eN:i4 ["word","number"] ["word","number"] (e5 N3):=by walk_at "sc"
theorem jJ:i4 ["bench","k"] ["bench","k"] (e5 X0):=by walk_at "sc"
theorem BA:i4 ["bench","word","number","part"] ["bench","word","number"] (e5 rY):=by walk_at "sc"
theorem W8:i4 ["bench","deed","values","k","part","instead"] ["bench","deed","values"] (e5 D9):=by walk_at "sc"
theorem jM:i4 ["hall","deed","values","near","bench","far"] ["hall","deed","values"] (e5 X3):=by walk_at "sc"
theorem ib:i4 ["self","row","word","values","hall"] ["self","row"] (e5 R7):=by walk_at "sc"
theorem eS:i4 ["desk","row","found","flags","e"] ["desk","row"] (e5 N8):=by walk_at "sc"
theorem eR:i4 ["one"] ["one"] (e5 N7):=by walk_at "sc"
theorem Q8:i4 ["bench"] ["bench"] (e5 B7):=by walk_at "sc"
theorem cU:i4 ["desk","state","bench","near","far","due"] ["desk","state"] (e5 K7):=by walk_at "sc"
theorem ia:i4 ["word","number"] ["word","number"] (e5 R6):=by walk_at "sc"
theorem hZ:i4 ["state","word","number"] ["state","word","number"] (e5 R5):=by walk_at "sc"
theorem eU:i4 ["pool","base","digit","near","stir"] ["pool","base"] (e5 O0):=by walk_at "sc"
theorem cV:i4 ["top","bottom","one","other"] ["top","bottom"] (e5 K8):=by walk_at "sc"
theorem bT:i4 ["pool","pick","top"] ["pool"] (e5 G9):=by walk_at "sc"
theorem eV:i4 ["pool","state","past","pick","number","k","bench","word","row"] ["pool","state","past"] (e5 O1):=by walk_at "sc"
theorem eQ:i4 ["desk","state","past","pool","row","due","found"] ["desk","state","past","pool"] (e5 N6):=by walk_at "sc"
theorem eT:i4 ["cell"] ["cell"] (e5 N9):=by walk_at "sc"
theorem W9:i4 ["self"] ["self"] (e5 E1):=by walk_at "sc"
theorem BB:i4 ["script","desks","states","pasts","cell","pool","k","good","state","j"] ["script"] (e5 rZ):=by walk_at "sc"
structure Txt(K:IT)(mg:Str→Option Value)(Pm:Params):Prop where
 b_ValueError:mg "ValueError" = none
 b_abs:mg "abs" = none
 b_any:mg "any" = none
 b_bool:mg "bool" = none
 b_divmod:mg "divmod" = none
 b_int:mg "int" = none
 b_isinstance:mg "isinstance" = none
 b_len:mg "len" = none
 b_list:mg "list" = none
 b_max:mg "max" = none
 b_range:mg "range" = none
 b_reversed:mg "reversed" = none
 b_str:mg "str" = none
 b_tuple:mg "tuple" = none
 b_zip:mg "zip" = none
 sub:jr K
 o_Desk:yU K "Desk"
 n_Desk__hall:NoA K "Desk" "hall"
 n_Desk__past:NoA K "Desk" "past"
 m_Desk:MkD K "Desk"
 dc_ROWS:yT K Pm mg "ROWS" [("put",(.tup [(.str "word"),(.str "number")])),("set",(.tup [(.str "part"),(.str "number")])),("cut",(.tup [(.str "part")])),("near",(.tup [(.str "number")])),("far",(.tup [(.str "number")])),("back",(.tup [])),("bench",(.tup [])),("hall",(.tup [])),("table",(.tup [])),("image",(.tup [(.str "plane")])),("ray",(.tup [(.str "number"),(.str "number")])),("idle",(.tup [(.str "part")])),("round",(.tup [])),("ever",(.tup [(.str "number"),(.str "number")])),("glasses",(.tup []))]
 c_CHANGES:GlD K mg "CHANGES" (.tup [(.str "put"),(.str "set"),(.str "cut"),(.str "near"),(.str "far")])
 c_FIGURES:GlD K mg "FIGURES" (.str "0123456789")
 c_HALL_APART:GlD K mg "HALL_APART" (.str " | ")
 c_MOST_BETWEEN:GlD K mg "MOST_BETWEEN" (.int 8)
 c_MOST_FIGURES:GlD K mg "MOST_FIGURES" (.int 300)
 c_MOST_PARTS:GlD K mg "MOST_PARTS" (.int 12)
 c_NOUGHT:GlD K mg "NOUGHT" (.tup [(.int 0),(.int 1)])
 c_NO_PARTS:GlD K mg "NO_PARTS" (.str "none")
 c_OF_HALLS:GlD K mg "OF_HALLS" (.tup [(.str "hall"),(.str "round"),(.str "ever")])
 c_PART_WORDS:GlD K mg "PART_WORDS" (.tup [(.str "gap"),(.str "glass"),(.str "stop")])
 x_NoNumber:ExD K mg "NoNumber"
 x_NoPart:ExD K mg "NoPart"
 x_NoPast:ExD K mg "NoPast"
 x_NoText:ExD K mg "NoText"
 x_TooMany:ExD K mg "TooMany"
 kn_GlassError__NoNumber:TkN K mg "GlassError" "NoNumber"
 kn_GlassError__NoPart:TkN K mg "GlassError" "NoPart"
 kn_GlassError__NoPast:TkN K mg "GlassError" "NoPast"
 kn_GlassError__TooMany:TkN K mg "GlassError" "TooMany"
 ke_NoNumber:kJ K "NoNumber"
 ke_NoPart:kJ K "NoPart"
 ke_NoPast:kJ K "NoPast"
 ke_TooMany:kJ K "TooMany"
 ki_NoNumber__NoPart_NoNumber_TooMany_NoPast:IsN K mg ["NoNumber"] [("NoPart",false),("NoNumber",true),("TooMany",false),("NoPast",false)]
 ki_NoPart__NoPart_NoNumber_TooMany_NoPast:IsN K mg ["NoPart"] [("NoPart",true),("NoNumber",false),("TooMany",false),("NoPast",false)]
 ki_NoPast__NoPart_NoNumber_TooMany_NoPast:IsN K mg ["NoPast"] [("NoPart",false),("NoNumber",false),("TooMany",false),("NoPast",true)]
 ki_NoRow__NoPart_NoNumber_TooMany_NoPast:IsN K mg ["NoRow"] [("NoPart",false),("NoNumber",false),("TooMany",false),("NoPast",false)]
 ki_NoText_NoRatio_NoWhole__NoPart_NoNumber_TooMany_NoPast:IsN K mg ["NoText","NoRatio","NoWhole"] [("NoPart",false),("NoNumber",false),("TooMany",false),("NoPast",false)]
 ki_TooMany__NoPart_NoNumber_TooMany_NoPast:IsN K mg ["TooMany"] [("NoPart",false),("NoNumber",false),("TooMany",true),("NoPast",false)]
 kb_ValueError__NoPart_NoNumber_TooMany_NoPast:IsR K [.type "ValueError"] [("NoPart",true),("NoNumber",true),("TooMany",true),("NoPast",true)]
section
variable {P:Program} {w:World} {K:IT} {mg:Str→Option Value} {base:Heap}
theorem cX(T:Txt K mg w.params)(d:Df K mg "whole_text" K2 ["number"]):Fn P w K mg base "whole_text" 1 ["number"] BE:=by
 have sc:=cP
 walk_at "fn"
 obtain⟨n,rfl,hn,k⟩:=h
 have lg:n.natAbs.log2<1920:=S1 (k:=1920) (IX (IX hn (show 10 ^ 13≤2 ^ 44 by decide)) (JD (by decide) (by decide))) (by decide)
 have sl:=A2
 have tl:=G5 (n:=(n.natAbs:Int)) (k:=13) (by decide) (by rw[Jl];exact hn)
 refine⟨_,(d4 (jst 1 sc.nd (j3 ed d3 d3)) (d4 (jst 2 sc.nd (f8 J9 rfl T.b_abs D2 (a7 (a8 0) a9))) (d4 (jst 3 sc.nd (J1 a9)) (d4 (Y1 PassesOwn.never (jtm xS (a8 2) (a8 1)) (d4 (m5 (f8 vm rfl T.b_divmod pR (a7 (a8 2) (a7 (a8 1) a9))) (m9 (n:=2) rfl (d8 (jn 2 sc.nd) (d8 (jn 4 sc.nd) j8)))) (d5 (F5 (eh PySem.F.slot_list_append PySem.F.type_list_append J8 (a8 3) (a7 (S2 PySem.F.slot_str_zfill PySem.F.type_str_zfill tR xu (B9 O7 rfl T.b_str B2 (a7 (a8 4) a9)) (a7 d3 a9)) a9)))))) (d4 (F5 (eh PySem.F.slot_list_append PySem.F.type_list_append J8 (a8 3) (a7 (B9 O7 rfl T.b_str B2 (a7 (a8 2) a9)) a9))) (d5 (d6 (E2 (j3 u7 (F6 (jtm Q3 (a8 0) d3) e6 e6) (uf rfl rfl T.b_reversed ao e6 (a8 3))))))))))),?_⟩
 walk_at "sim"
 refine⟨⟨by decide,by decide,by decide⟩,fun p hp=>?_⟩
 refine oo (fun m e M'=>e=[some (D.int n),some (D.int (10 ^ LS 60)),some (D.int (n.natAbs:Int)),some (D.ref p),none]∧M'=j9 M p (.lst [])) 0 ⟨rfl,rfl⟩ ?_
 rintro m e M' ⟨rfl,rfl⟩
 have ks:=aC n
 walk_at "sim"
 refine⟨fun h=>?_,fun _=>S9 d9 ⟨by rw[Jl];exact lg,DX d9 (by decide) ?_⟩⟩
 ·have h2:(10:Int) ^ 60≤(n.natAbs:Int):=h
  have h3:(10:Int) ^ 13≤10 ^ 60:=by decide
  have h4:(n.natAbs:Int)<10 ^ 13:=by exact_mod_cast hn
  omega
 have sm:Z1 (Str.ofString "") ([tx (n.natAbs:Int)].reverse):=⟨by show(tx (n.natAbs:Int)).length+0+1≤1048576;omega,by decide +kernel⟩
 have kp:∀(ds:List D) (a:Addr) (o:MO),M a=some o→j9 (j9 M p (.lst [])) p (.lst ds) a=some o:=fun ds a o h=>by
  have ne:a≠p:=fun e=>by rw[e,hp]at h;cases h
  rw[e7 ne,e7 ne];exact h
 refine⟨fun hneg=>⟨_,[tx (n.natAbs:Int)],rfl,by simp only[C8,d9];rfl,sm,?_,vH (M2:=M) (fun a o h=>kp _ a o h) ?_⟩,fun hneg=>⟨_,[tx (n.natAbs:Int)],rfl,by simp only[C8,d9];rfl,sm,?_,vH (M2:=M) (fun a o h=>kp _ a o h) ?_⟩⟩
 ·show(Str.ofString "-").length+(tx (n.natAbs:Int)).length≤sizeLine
  rw[show(Str.ofString "-").length=1 by decide +kernel];omega
 ·rw[if_pos hneg]at ks
  show R (.str (Str.ofString "-" ++ tx (n.natAbs:Int))) M
  rw[ks];exact k
 ·show(Str.ofString "").length+(tx (n.natAbs:Int)).length≤sizeLine
  rw[show(Str.ofString "").length=0 by decide +kernel];omega
 ·rw[if_neg hneg]at ks
  show R (.str (Str.ofString "" ++ tx (n.natAbs:Int))) M
  rw[ks];exact k
theorem ka(T:Txt K mg w.params)(d:Df K mg "divisor" X2 ["one","other"]):Fn P w K mg base "divisor" 1 ["one","other"] W6:=by
 have sc:=jL
 refine y2 d sc (fun ds M R Y h=>?_) (fun f cdv A outer s H E ds M R Y hr h=>?_)
 ·obtain⟨a,b,rfl,_⟩:=h;rfl
 ·obtain⟨a,b,rfl,k⟩:=h
  refine⟨_,(d4 (Y1 PassesOwn.never (jtm F3 (a8 1) d3) (d5 (aR (i:=0) (j:=1) rfl sc.nd rfl rfl (by decide) rfl rfl (a7 (a8 1) (a7 (j3 ah (a8 0) (a8 1)) a9))))) (d5 (d6 (a8 0)))),?_⟩
  refine⟨fun m e M'=>M'=M∧∃ u:Nat,e=[some (.int (u:Int)),some (.int (m:Int))]∧JK u m=JK a b,⟨b,rfl,a,rfl,rfl⟩,?_⟩
  rintro v e M' ⟨rfl,u,rfl,hg⟩
  refine⟨_,rfl,_,rfl,_,rfl,?_⟩
  refine Fv (fun h0=>?_) (fun h0=>?_)
  ·have hv:0<v:=by omega
   refine⟨_,rfl,_,rfl,_,rfl,_,_,rfl,rfl,by omega,_,_,rfl,?_⟩
   exact⟨u % v,Nat.mod_lt _ hv,rfl,v,rfl,by rw[← RM.iW u v (by omega)];exact hg⟩
  ·have hv:v=0:=by omega
   subst hv
   rw[Nat.gcd_zero_right]at hg
   subst hg
   exact⟨_,rfl,k⟩
theorem iD(T:Txt K mg w.params)(d:Df K mg "is_whole" R3 ["thing"]):Fn P w K mg base "is_whole" 1 ["thing"] eX:=by
 have sc:=hJ
 walk_at "fn"
 obtain⟨x,rfl,hx,k⟩:=h
 cases x with
 | ref a=>cases hx
 | ty a=>cases hx
 | exc a=>cases hx
 | int i =>
  refine⟨_,(d5 (d6 (E6 (f8 (t8 T.sub) rfl T.b_isinstance d7 (a7 (a8 0) (a7 (p9 rfl T.b_int J3) a9))) (B8 (L6 (f8 (t8 T.sub) rfl T.b_isinstance d7 (a7 (a8 0) (a7 (p9 rfl T.b_bool N0) a9)))))))),?_⟩
  walk_at "sim"
  exact k
 | bl i =>
  refine⟨_,(d5 (d6 (E6 (f8 (t8 T.sub) rfl T.b_isinstance d7 (a7 (a8 0) (a7 (p9 rfl T.b_int J3) a9))) (B8 (L6 (f8 (t8 T.sub) rfl T.b_isinstance d7 (a7 (a8 0) (a7 (p9 rfl T.b_bool N0) a9)))))))),?_⟩
  walk_at "sim"
  exact k
 | non =>
  refine⟨_,(d5 (d6 (E6 (f8 (t8 T.sub) rfl T.b_isinstance d7 (a7 (a8 0) (a7 (p9 rfl T.b_int J3) a9))) (B8 (L6 (f8 (t8 T.sub) rfl T.b_isinstance d7 (a7 (a8 0) (a7 (p9 rfl T.b_bool N0) a9)))))))),?_⟩
  walk_at "sim"
  exact k
 | str i =>
  refine⟨_,(d5 (d6 (E6 (f8 (t8 T.sub) rfl T.b_isinstance d7 (a7 (a8 0) (a7 (p9 rfl T.b_int J3) a9))) (B8 (L6 (f8 (t8 T.sub) rfl T.b_isinstance d7 (a7 (a8 0) (a7 (p9 rfl T.b_bool N0) a9)))))))),?_⟩
  walk_at "sim"
  exact k
 | tup i =>
  refine⟨_,(d5 (d6 (E6 (f8 (t8 T.sub) rfl T.b_isinstance d7 (a7 (a8 0) (a7 (p9 rfl T.b_int J3) a9))) (B8 (L6 (f8 (t8 T.sub) rfl T.b_isinstance d7 (a7 (a8 0) (a7 (p9 rfl T.b_bool N0) a9)))))))),?_⟩
  walk_at "sim"
  exact k
 | vl i =>
  refine⟨_,(d5 (d6 (E6 (f8 (t8 T.sub) rfl T.b_isinstance d7 (a7 (a8 0) (a7 (p9 rfl T.b_int J3) a9))) (B8 (L6 (f8 (t8 T.sub) rfl T.b_isinstance d7 (a7 (a8 0) (a7 (p9 rfl T.b_bool N0) a9)))))))),?_⟩
  walk_at "sim"
  exact k
 | dic =>
  refine⟨_,(d5 (d6 (E6 (f8 (t8 T.sub) rfl T.b_isinstance d7 (a7 (a8 0) (a7 (p9 rfl T.b_int J3) a9))) (B8 (L6 (f8 (t8 T.sub) rfl T.b_isinstance d7 (a7 (a8 0) (a7 (p9 rfl T.b_bool N0) a9)))))))),?_⟩
  walk_at "sim"
  exact k
theorem iE(T:Txt K mg w.params)(d:Df K mg "is_ratio" R4 ["thing"])(Hw:Fn P w K mg base "divisor" 1 ["one","other"] W6)(Hq:Fn P w K mg base "is_whole" 1 ["thing"] eX):Fn P w K mg base "is_ratio" 2 ["thing"] bW:=by
 have sc:=hV
 walk_at "fn"
 obtain⟨x,rfl,hx,k⟩:=h
 cases x with
 | ref a=>cases hx
 | ty a=>cases hx
 | exc a=>cases hx
 | int i =>
  refine⟨_,(d4 (g5 (t4 (o6 (i6 (f9 (f8 (t8 T.sub) rfl T.b_isinstance d7 (a7 (a8 0) (a7 (p9 rfl T.b_tuple y7) a9))))) (m8 (jtm F3 (f8 y8 rfl T.b_len p0 (a7 (a8 0) a9)) d3)))) (d5 (d6 w6)) f7) (d4 (m5 (a8 0) (m9 (n:=2) rfl (d8 (jn 1 sc.nd) (d8 (jn 2 sc.nd) j8)))) (d4 (g5 (t4 (o6 (i6 (f9 (jc Hq hr (a7 (a8 1) a9)))) (o6 (i6 (f9 (jc Hq hr (a7 (a8 2) a9)))) (m8 (jtm Q3 (a8 2) d3))))) (d5 (d6 w6)) f7) (d5 (d6 (jm A0 (jc Hw hr (a7 (f8 J9 rfl T.b_abs D2 (a7 (a8 1) a9)) (a7 (a8 2) a9))) d3)))))),?_⟩
  walk_at "sim"
  exact k
 | bl i =>
  refine⟨_,(d4 (g5 (t4 (o6 (i6 (f9 (f8 (t8 T.sub) rfl T.b_isinstance d7 (a7 (a8 0) (a7 (p9 rfl T.b_tuple y7) a9))))) (m8 (jtm F3 (f8 y8 rfl T.b_len p0 (a7 (a8 0) a9)) d3)))) (d5 (d6 w6)) f7) (d4 (m5 (a8 0) (m9 (n:=2) rfl (d8 (jn 1 sc.nd) (d8 (jn 2 sc.nd) j8)))) (d4 (g5 (t4 (o6 (i6 (f9 (jc Hq hr (a7 (a8 1) a9)))) (o6 (i6 (f9 (jc Hq hr (a7 (a8 2) a9)))) (m8 (jtm Q3 (a8 2) d3))))) (d5 (d6 w6)) f7) (d5 (d6 (jm A0 (jc Hw hr (a7 (f8 J9 rfl T.b_abs D2 (a7 (a8 1) a9)) (a7 (a8 2) a9))) d3)))))),?_⟩
  walk_at "sim"
  exact k
 | non =>
  refine⟨_,(d4 (g5 (t4 (o6 (i6 (f9 (f8 (t8 T.sub) rfl T.b_isinstance d7 (a7 (a8 0) (a7 (p9 rfl T.b_tuple y7) a9))))) (m8 (jtm F3 (f8 y8 rfl T.b_len p0 (a7 (a8 0) a9)) d3)))) (d5 (d6 w6)) f7) (d4 (m5 (a8 0) (m9 (n:=2) rfl (d8 (jn 1 sc.nd) (d8 (jn 2 sc.nd) j8)))) (d4 (g5 (t4 (o6 (i6 (f9 (jc Hq hr (a7 (a8 1) a9)))) (o6 (i6 (f9 (jc Hq hr (a7 (a8 2) a9)))) (m8 (jtm Q3 (a8 2) d3))))) (d5 (d6 w6)) f7) (d5 (d6 (jm A0 (jc Hw hr (a7 (f8 J9 rfl T.b_abs D2 (a7 (a8 1) a9)) (a7 (a8 2) a9))) d3)))))),?_⟩
  walk_at "sim"
  exact k
 | str i =>
  refine⟨_,(d4 (g5 (t4 (o6 (i6 (f9 (f8 (t8 T.sub) rfl T.b_isinstance d7 (a7 (a8 0) (a7 (p9 rfl T.b_tuple y7) a9))))) (m8 (jtm F3 (f8 y8 rfl T.b_len p0 (a7 (a8 0) a9)) d3)))) (d5 (d6 w6)) f7) (d4 (m5 (a8 0) (m9 (n:=2) rfl (d8 (jn 1 sc.nd) (d8 (jn 2 sc.nd) j8)))) (d4 (g5 (t4 (o6 (i6 (f9 (jc Hq hr (a7 (a8 1) a9)))) (o6 (i6 (f9 (jc Hq hr (a7 (a8 2) a9)))) (m8 (jtm Q3 (a8 2) d3))))) (d5 (d6 w6)) f7) (d5 (d6 (jm A0 (jc Hw hr (a7 (f8 J9 rfl T.b_abs D2 (a7 (a8 1) a9)) (a7 (a8 2) a9))) d3)))))),?_⟩
  walk_at "sim"
  exact k
 | vl i =>
  refine⟨_,(d4 (g5 (t4 (o6 (i6 (f9 (f8 (t8 T.sub) rfl T.b_isinstance d7 (a7 (a8 0) (a7 (p9 rfl T.b_tuple y7) a9))))) (m8 (jtm F3 (f8 y8 rfl T.b_len p0 (a7 (a8 0) a9)) d3)))) (d5 (d6 w6)) f7) (d4 (m5 (a8 0) (m9 (n:=2) rfl (d8 (jn 1 sc.nd) (d8 (jn 2 sc.nd) j8)))) (d4 (g5 (t4 (o6 (i6 (f9 (jc Hq hr (a7 (a8 1) a9)))) (o6 (i6 (f9 (jc Hq hr (a7 (a8 2) a9)))) (m8 (jtm Q3 (a8 2) d3))))) (d5 (d6 w6)) f7) (d5 (d6 (jm A0 (jc Hw hr (a7 (f8 J9 rfl T.b_abs D2 (a7 (a8 1) a9)) (a7 (a8 2) a9))) d3)))))),?_⟩
  walk_at "sim"
  exact k
 | dic =>
  refine⟨_,(d4 (g5 (t4 (o6 (i6 (f9 (f8 (t8 T.sub) rfl T.b_isinstance d7 (a7 (a8 0) (a7 (p9 rfl T.b_tuple y7) a9))))) (m8 (jtm F3 (f8 y8 rfl T.b_len p0 (a7 (a8 0) a9)) d3)))) (d5 (d6 w6)) f7) (d4 (m5 (a8 0) (m9 (n:=2) rfl (d8 (jn 1 sc.nd) (d8 (jn 2 sc.nd) j8)))) (d4 (g5 (t4 (o6 (i6 (f9 (jc Hq hr (a7 (a8 1) a9)))) (o6 (i6 (f9 (jc Hq hr (a7 (a8 2) a9)))) (m8 (jtm Q3 (a8 2) d3))))) (d5 (d6 w6)) f7) (d5 (d6 (jm A0 (jc Hw hr (a7 (f8 J9 rfl T.b_abs D2 (a7 (a8 1) a9)) (a7 (a8 2) a9))) d3)))))),?_⟩
  walk_at "sim"
  exact k
 | tup ds =>
  match ds,hx,k with
  | [],hx,k =>
   refine⟨_,(d4 (g5 (t4 (o6 (i6 (f9 (f8 (t8 T.sub) rfl T.b_isinstance d7 (a7 (a8 0) (a7 (p9 rfl T.b_tuple y7) a9))))) (m8 (jtm F3 (f8 y8 rfl T.b_len p0 (a7 (a8 0) a9)) d3)))) (d5 (d6 w6)) f7) (d4 (m5 (a8 0) (m9 (n:=2) rfl (d8 (jn 1 sc.nd) (d8 (jn 2 sc.nd) j8)))) (d4 (g5 (t4 (o6 (i6 (f9 (jc Hq hr (a7 (a8 1) a9)))) (o6 (i6 (f9 (jc Hq hr (a7 (a8 2) a9)))) (m8 (jtm Q3 (a8 2) d3))))) (d5 (d6 w6)) f7) (d5 (d6 (jm A0 (jc Hw hr (a7 (f8 J9 rfl T.b_abs D2 (a7 (a8 1) a9)) (a7 (a8 2) a9))) d3)))))),?_⟩
   walk_at "sim"
   exact⟨fun _=>k,fun z=>absurd z (by decide)⟩
  | [a],hx,k =>
   rw[show cB (.tup [a])=false by cases a<;>rfl]at k
   refine⟨_,(d4 (g5 (t4 (o6 (i6 (f9 (f8 (t8 T.sub) rfl T.b_isinstance d7 (a7 (a8 0) (a7 (p9 rfl T.b_tuple y7) a9))))) (m8 (jtm F3 (f8 y8 rfl T.b_len p0 (a7 (a8 0) a9)) d3)))) (d5 (d6 w6)) f7) (d4 (m5 (a8 0) (m9 (n:=2) rfl (d8 (jn 1 sc.nd) (d8 (jn 2 sc.nd) j8)))) (d4 (g5 (t4 (o6 (i6 (f9 (jc Hq hr (a7 (a8 1) a9)))) (o6 (i6 (f9 (jc Hq hr (a7 (a8 2) a9)))) (m8 (jtm Q3 (a8 2) d3))))) (d5 (d6 w6)) f7) (d5 (d6 (jm A0 (jc Hw hr (a7 (f8 J9 rfl T.b_abs D2 (a7 (a8 1) a9)) (a7 (a8 2) a9))) d3)))))),?_⟩
   walk_at "sim"
   exact⟨fun _=>k,fun z=>absurd z (by decide)⟩
  | a :: b :: c :: r,hx,k =>
   rw[show cB (.tup (a :: b :: c :: r))=false by cases a<;>first|rfl|(cases b<;>rfl)]at k
   refine⟨_,(d4 (g5 (t4 (o6 (i6 (f9 (f8 (t8 T.sub) rfl T.b_isinstance d7 (a7 (a8 0) (a7 (p9 rfl T.b_tuple y7) a9))))) (m8 (jtm F3 (f8 y8 rfl T.b_len p0 (a7 (a8 0) a9)) d3)))) (d5 (d6 w6)) f7) (d4 (m5 (a8 0) (m9 (n:=2) rfl (d8 (jn 1 sc.nd) (d8 (jn 2 sc.nd) j8)))) (d4 (g5 (t4 (o6 (i6 (f9 (jc Hq hr (a7 (a8 1) a9)))) (o6 (i6 (f9 (jc Hq hr (a7 (a8 2) a9)))) (m8 (jtm Q3 (a8 2) d3))))) (d5 (d6 w6)) f7) (d5 (d6 (jm A0 (jc Hw hr (a7 (f8 J9 rfl T.b_abs D2 (a7 (a8 1) a9)) (a7 (a8 2) a9))) d3)))))),?_⟩
   walk_at "sim"
   exact⟨fun _=>k,fun z=>absurd z (by omega)⟩
  | [a,b],hx,k =>
   refine⟨_,(d4 (g5 (t4 (o6 (i6 (f9 (f8 (t8 T.sub) rfl T.b_isinstance d7 (a7 (a8 0) (a7 (p9 rfl T.b_tuple y7) a9))))) (m8 (jtm F3 (f8 y8 rfl T.b_len p0 (a7 (a8 0) a9)) d3)))) (d5 (d6 w6)) f7) (d4 (m5 (a8 0) (m9 (n:=2) rfl (d8 (jn 1 sc.nd) (d8 (jn 2 sc.nd) j8)))) (d4 (g5 (t4 (o6 (i6 (f9 (jc Hq hr (a7 (a8 1) a9)))) (o6 (i6 (f9 (jc Hq hr (a7 (a8 2) a9)))) (m8 (jtm Q3 (a8 2) d3))))) (d5 (d6 w6)) f7) (d5 (d6 (jm A0 (jc Hw hr (a7 (f8 J9 rfl T.b_abs D2 (a7 (a8 1) a9)) (a7 (a8 2) a9))) d3)))))),?_⟩
   walk_at "sim"
   have hx':fl0 a=true∧fl0 b=true:=by simpa[fl1]using hx
   refine⟨fun z=>absurd rfl z,fun _=>⟨hx'.1,fun h1=>?_,fun h1=>⟨hx'.2,fun h2=>?_,fun h2=>?_⟩⟩⟩
   ·rw[yi h1]at k;exact k
   ·rw[yh h2]at k;exact k
   ·obtain⟨n,rfl⟩:=iT h1
    obtain⟨m,rfl⟩:=iT h2
    walk_at "sim"
    refine⟨fun h=>?_,fun h=>?_⟩
    ·rw[show cB (.tup [.int n,.int m])=false by show(decide (1≤m) && _)=false;rw[decide_eq_false (by omega)];rfl]at k
     exact k
    ·obtain⟨d,rfl⟩:=Ku (show 0≤m by omega)
     walk_at "sim"
     rw[show cB (.tup [.int n,.int (d:Int)])=decide (JK n.natAbs d=1)by show(decide (1≤(d:Int)) && _)=_;rw[decide_eq_true (by omega)];rfl]at k
     rw[show decide (((JK n.natAbs d:Nat):Int)=1)=decide (JK n.natAbs d=1)from decide_eq_decide.mpr (by omega)]
     exact k
theorem cZ(T:Txt K mg w.params)(d:Df K mg "ratio_text" K5 ["one"])(HB:Fn P w K mg base "whole_text" 1 ["number"] BE)(Hu:Fn P w K mg base "is_ratio" 2 ["thing"] bW):Fn P w K mg base "ratio_text" 3 ["one"] ie:=by
 have sc:=cS
 walk_at "fn"
 obtain⟨q,rfl,hz,k⟩:=h
 have n13:=An hz
 have d13:=AJ hz
 have h1:=G5 (by decide) n13
 have h2:=G5 (by decide) d13
 have sl:=A2
 have e1:(Str.ofString "/").length=1:=by decide +kernel
 refine⟨_,(d4 (g5 (i6 (f9 (jc Hu hr (a7 (a8 0) a9)))) (d5 p4) f7) (d4 (m5 (a8 0) (m9 (n:=2) rfl (d8 (jn 1 sc.nd) (d8 (jn 2 sc.nd) j8)))) (d4 (g5 (jtm A0 (a8 2) d3) (d5 (d6 (jc HB hr (a7 (a8 1) a9)))) f7) (d5 (d6 (j3 u7 (j3 u7 (jc HB hr (a7 (a8 1) a9)) e6) (jc HB hr (a7 (a8 2) a9)))))))),?_⟩
 walk_at "sim"
 refine⟨rfl,fun h=>(by rw[iS]at h;cases h),fun _=>⟨fun h=>⟨n13,?_⟩,fun h=>⟨n13,by omega,d13,by rw[j5];omega,?_⟩⟩⟩
 ·have k:R (.str (rtx q)) M:=k
  unfold rtx at k
  rw[if_pos (by omega)]at k;exact k
 ·have k:R (.str (rtx q)) M:=k
  unfold rtx at k
  rw[if_neg (by omega)]at k;exact k
theorem iC(T:Txt K mg w.params)(d:Df K mg "may_have" R0 ["word","number"]):Fn P w K mg base "may_have" 1 ["word","number"] mS:=by
 have sc:=hG
 walk_at "fn"
 obtain⟨w,q,rfl,k⟩:=h
 refine⟨_,(d4 (g5 (jtm v7 (a8 0) e6) (d5 (d6 (jm xS (jx (a8 1) d3) d3))) f7) (d4 (g5 (jtm v7 (a8 0) e6) (d5 (d6 (jm iH (jx (a8 1) d3) d3))) f7) (d5 (d6 (jm v7 (a8 0) e6))))),?_⟩
 walk_at "sim"
 have k:R (.bl (F4 w q)) M:=k
 unfold F4 at k
 refine⟨fun e=>?_,fun e=>⟨fun e2=>?_,fun e2=>?_⟩⟩
 ·rw[if_pos e]at k;exact k
 ·rw[if_neg e,if_pos e2]at k;exact k
 ·rw[if_neg e,if_neg e2]at k;exact k
theorem jZ(T:Txt K mg w.params)(d:Df K mg "is_part" X1 ["thing"])(HC:Fn P w K mg base "may_have" 1 ["word","number"] mS)(Hu:Fn P w K mg base "is_ratio" 2 ["thing"] bW):Fn P w K mg base "is_part" 3 ["thing"] sv:=by
 have sc:=jK
 walk_at "fn"
 obtain⟨w,q,rfl,k⟩:=h
 refine⟨_,(d4 (g5 (t4 (o6 (i6 (f9 (f8 (t8 T.sub) rfl T.b_isinstance d7 (a7 (a8 0) (a7 (p9 rfl T.b_tuple y7) a9))))) (m8 (jtm F3 (f8 y8 rfl T.b_len p0 (a7 (a8 0) a9)) d3)))) (d5 (d6 w6)) f7) (d4 (m5 (a8 0) (m9 (n:=2) rfl (d8 (jn 1 sc.nd) (d8 (jn 2 sc.nd) j8)))) (d5 (d6 (E6 (jc Hu hr (a7 (a8 2) a9)) (B8 (jc HC hr (a7 (a8 1) (a7 (a8 2) a9))))))))),?_⟩
 walk_at "sim"
 exact⟨fun h=>absurd rfl h,fun _=>⟨rfl,fun _=>k,fun h=>by rw[iS]at h;cases h⟩⟩
theorem fA(T:Txt K mg w.params)(d:Df K mg "part_text" N4 ["part"])(Hx:Fn P w K mg base "ratio_text" 3 ["one"] ie)(HV:Fn P w K mg base "is_part" 3 ["thing"] sv):Fn P w K mg base "part_text" 4 ["part"] BG:=by
 have sc:=eO
 walk_at "fn"
 obtain⟨x,rfl,hx,k⟩:=h
 have h1:=bG hx
 have h2:=z9 hx.sz
 have sl:=A2
 have e1:(Str.ofString " ").length=1:=by decide +kernel
 refine⟨_,(d4 (g5 (i6 (f9 (jc HV hr (a7 (a8 0) a9)))) (d5 p4) f7) (d5 (d6 (j3 u7 (j3 u7 (jx (a8 0) d3) e6) (jc Hx hr (a7 (jx (a8 0) d3) a9)))))),?_⟩
 walk_at "sim"
 refine⟨x.1,x.2,rfl,?_⟩
 unfold U6
 rw[tU hx.kind]
 walk_at "sim"
 exact⟨by omega,hx.sz,by rw[j5];omega,k⟩
theorem dc(T:Txt K mg w.params)(d:Df K mg "bench_text" K6 ["bench"])(HK:Fn P w K mg base "part_text" 4 ["part"] BG):Fn P w K mg base "bench_text" 5 ["bench"] sE:=by
 have sc:=cT
 walk_at "fn"
 obtain⟨x0,bs,rfl,hx0,⟨hl,hp⟩,k⟩:=h
 rcases hx0 with rfl|rfl
 all_goals
  refine⟨_,(d4 (g5 (i6 (f9 (f8 (DC T.sub) rfl T.b_isinstance d7 (a7 (a8 0) (a7 (i8 (a7 (p9 rfl T.b_list oh) (a7 (p9 rfl T.b_tuple y7) a9))) a9))))) (d5 p4) f7) (d4 (g5 (jtm A0 (f8 y8 rfl T.b_len p0 (a7 (a8 0) a9)) d3) (d5 (d6 (z5 rfl T.c_NO_PARTS))) f7) (d5 (d6 (fO e6 (a7 (O5 [] ["part"] [] rfl (by decide +kernel) rfl (by decide +kernel) (by decide +kernel) rfl jo jo (fM (a8 0)) (fun _ _ _ _ _ _=>(jn 0 (show(["part"]:List Str).Nodup by decide +kernel))) (fun _ _ _ _ _ _=>P5) (fun _ _ _ _ _ _=>(jc HK hr (a7 (a8 0) a9)))) a9)))))),?_⟩
  walk_at "sim"
  rw[IW]
  refine⟨fun h=>?_,fun h=>?_⟩
  ·have:bs=[]:=List.eq_nil_of_length_eq_zero (by omega)
   rw[this,ba]at k;exact k
  ·have ne:bs≠[]:=fun e=>h (by rw[e];rfl)
   unfold btx at k
   rw[if_neg ne]at k
   have ps:=mX hp
   refine P9 (fun x=>D.str (ptx x)) (by omega) (by first|simp only[D3]|simp only[D6]) (fun x hx Q hQ=>?_) ?_
   ·walk_at "sim"
    exact⟨hp x hx,hQ⟩
   ·exact⟨_,_,bs.map ptx,rfl,rfl,by show some _=some _;rw[Kl];rfl,⟨by rw[IW];omega,by decide +kernel⟩,k⟩
theorem av(T:Txt K mg w.params)(d:Df K mg "bench_answer" F1 ["bench","question","values"])(Hz:Fn P w K mg base "bench_text" 5 ["bench"] sE):Fn P w K mg base "bench_answer" 6 ["bench","question","values"] sG:=by
 have sc:=ar
 walk_at "fn"
 obtain⟨bs,w,vs,rfl,ok,rfl,k⟩:=h
 refine⟨_,(d4 (g5 (jtm v7 (a8 1) e6) (d5 (d6 (jc Hz hr (a7 (a8 0) a9)))) f7) (d4 p4 (d4 p4 (d4 p4 (d4 p4 (d5 p4)))))),?_⟩
 walk_at "sim"
 exact⟨ok,k⟩
theorem cm(T:Txt K mg w.params)(d:Df K mg "are_figures" G8 ["text"]):Fn P w K mg base "are_figures" 1 ["text"] sA:=by
 have sc:=bS
 walk_at "fn"
 obtain⟨s,rfl,hs,k⟩:=h
 refine⟨_,(d4 (g5 (t4 (o6 (jtm A0 (f8 vj rfl T.b_len p0 (a7 (a8 0) a9)) d3) (o6 (jtm iH (f8 vj rfl T.b_len p0 (a7 (a8 0) a9)) (z5 rfl T.c_MOST_FIGURES)) (m8 (f9 (f8 (Gb rfl) rfl T.b_any DF (a7 (O5 [] ["sign"] [] rfl (by decide +kernel) rfl (by decide +kernel) (by decide +kernel) rfl jo jo (yc (a8 0)) (fun _ _ _ _ _ _=>(jn 0 (show(["sign"]:List Str).Nodup by decide +kernel))) (fun _ _ _ _ _ _=>P5) (fun _ _ _ _ _ _=>(jm tI (a8 0) (z5 rfl T.c_FIGURES)))) a9))))))) (d5 (d6 w6)) f7) (d5 (d6 (ki (jm v7 (a8 0) e6) (B8 (jm tJ (CS (a8 0) d3) e6)))))),?_⟩
 walk_at "sim"
 have hl:=y4 s
 have sl:=eG hs
 have no:∀ M',J2 (sg s)=false→M'=M→R (D.bl false) M':=fun M' h e=>by rw[e,← h];exact k
 refine⟨sl,fun h0=>no M ?_ rfl,fun h0=>⟨sl,fun h1=>no M ?_ rfl,fun h1=>?_⟩⟩
 ·rw[L9];rw[decide_eq_false (show ¬ (sg s).length≠0 by omega)];rfl
 ·rw[L9];rw[decide_eq_false (show ¬ (sg s).length≤300 by omega),Kg];rfl
 refine P9 (xs:=sg s) (enc:=fun c=>D.str ⟨#[c]⟩) (fun c=>.bl (!isF c)) (by omega) trivial (fun c hc Q hQ=>?_) ?_
 ·walk_at "sim"
  rw[Dl]
  exact hQ
 have em:(sg s).map (fun c=>D.bl (!isF c))=((sg s).map fun c=>!isF c).map D.bl:=by rw[Kl];rfl
 rw[em]
 show Dj [_] M _
 rw[jz]
 walk_at "sim"
 have ea:((sg s).map fun c=>!isF c).any id = !(sg s).all isF:=by rw[List.any_map,List.all_eq_not_any_not,Bool.not_not];rfl
 have d1:decide ((sg s).length≠0)=true:=decide_eq_true (by omega)
 have d2:decide ((sg s).length≤300)=true:=decide_eq_true (by omega)
 refine⟨fun h=>no M ?_ rfl,fun h=>?_⟩
 ·have:(sg s).all isF=false:=by rw[ea]at h;simpa using h
  rw[L9];rw[this,Kg];rfl
 ·have hf:(sg s).all isF=true:=by
   cases hc:(sg s).all isF with
   | true=>rfl
   | false=>(have h9:=h;rw[ea,hc]at h9;cases h9)
  have z0:sg (Str.ofString "0")=[48]:=by decide +kernel
  refine⟨fun e=>?_,fun e=>?_⟩
  ·have e2:sg s=[48]:=by rw[e];exact z0
   have:J2 (sg s)=true:=by rw[e2];decide
   rw[← this];exact k
  ·have ne:sg s≠[48]:=fun e2=>e (jH (e2.trans z0.symm))
   cases hc:sg s with
   | nil=>rw[hc]at hl;exact absurd hl.symm (by show ¬ s.length=0;omega)
   | cons c r =>
    have g0:s.cps[(0:Int).toNat]? = some c:=by rw[← Array.getElem?_toList];show(sg s)[0]? = _;rw[hc];rfl
    refine yt (by decide) (by decide) g0 ?_
    walk_at "sim"
    have:J2 (sg s) = !decide ((⟨#[c]⟩:Str)=Str.ofString "0"):=by
     rw[L9]
     rw[d1,d2,hf,decide_eq_false ne,hc]
     by_cases q:c=48
     ·subst q
      rw[decide_eq_true (show(⟨#[48]⟩:Str)=Str.ofString "0" by decide +kernel)];rfl
     ·rw[decide_eq_false (show ¬ (⟨#[c]⟩:Str)=Str.ofString "0" from fun z=>q (by have:=congrArg sg z;rw[z0]at this;exact(List.cons.inj this).1))]
      show(true && true && true && (false || decide (some c≠some 48)))=true
      rw[decide_eq_true (show some c≠some 48 from fun z=>q (Option.some.inj z))];rfl
    rw[← this];exact k
theorem cY(T:Txt K mg w.params)(d:Df K mg "read_whole" K3 ["text"])(HE:Fn P w K mg base "are_figures" 1 ["text"] sA):Fn P w K mg base "read_whole" 2 ["text"] jO:=by
 have sc:=cQ
 walk_at "fn"
 obtain⟨s,rfl,hs,k⟩:=h
 refine⟨_,(d4 (g5 (f9 (jc HE hr (a7 (a8 0) a9))) (d5 (d6 (B9 vk rfl T.b_int J3 (a7 (a8 0) a9)))) f7) (d4 (g5 (t4 (km (jtm v7 (kl (a8 0) B5 (B4 d3)) e6) (km (f9 (jc HE hr (a7 (kl (a8 0) (B4 d3) B5) a9))) (nA (jtm tJ (a8 0) e6))))) (d5 (d6 (ud (B9 vk rfl T.b_int J3 (a7 (kl (a8 0) (B4 d3) B5) a9))))) f7) (d5 (d6 Y2)))),?_⟩
 walk_at "sim"
 have sl:=eG hs
 have m0:sg (Str.ofString "-")=[45]:=by decide +kernel
 have e1:sg (Txt.slice s none (some 1))=(sg s).take 1:=EW s 1
 have e2:sg (Txt.slice s (some 1) none)=(sg s).drop 1:=xk s 1
 refine⟨hs,fun h=>⟨_,nK h,by rw[← y4];have:=(aW h).1;omega,by rw[mU h]at k;exact k⟩,fun h=>⟨sl,fun e=>?_,fun e=>?_⟩⟩
 ·have e3:(sg s).take 1=[45]:=by rw[← e1,e,m0]
  obtain⟨r,hr⟩:=rG.mp e3
  have e4:sg (Txt.slice s (some 1) none)=r:=by rw[e2,hr];rfl
  rw[hr]at h k
  rw[xq h]at k
  refine⟨sl,Jk (Txt.slice_le s _ _) hs,?_⟩
  have q0:s=Str.ofString "-0" ↔ r=[48]:=by
   rw[Af,hr,show sg (Str.ofString "-0")=[45,48]by decide +kernel];simp
  refine⟨fun h1=>⟨fun h2=>⟨sl,_,nK h1,by rw[← y4];have:=(aW h1).1;omega,?_⟩,fun h2=>?_⟩,fun h1=>?_⟩
  ·rw[e4]at h1 ⊢
   rw[h1,decide_eq_true (show r≠[48]from fun z=>h2 (q0.mpr z))]at k;exact k
  ·rw[decide_eq_false (show ¬ r≠[48]from fun z=>z (q0.mp h2)),Kg]at k;exact k
  ·rw[e4]at h1
   rw[h1]at k;exact k
 ·rw[BL h (fun z=>e (jH (by rw[e1,z,m0])))]at k;exact k
theorem cg(T:Txt K mg w.params)(d:Df K mg "read_ratio" K4 ["text"])(Hu:Fn P w K mg base "is_ratio" 2 ["thing"] bW)(Hs:Fn P w K mg base "read_whole" 2 ["text"] jO):FnX P w K mg base "read_ratio" 3 ["text"] jP:=by
 have sc:=cR
 refine S5 d sc (by walk_at "len") (fun f cdv A outer s H E ds M R Y hr h=>?_)
 have hu:=hr.units
 obtain⟨x,rfl,k⟩:=h
 rcases k with⟨s,rfl,hs,k1,k2⟩|⟨ho,k⟩
 ·skip
  refine⟨_,(j0 (G4 (i6 (f9 (f8 (t8 T.sub) rfl T.b_isinstance d7 (a7 (a8 0) (a7 (p9 rfl T.b_str B2) a9))))) (q9 (v8 T.x_NoText rfl rfl e6)) A6) (j0 (p8 (m5 (S2 PySem.F.slot_str_partition PySem.F.type_str_partition A3 B3 (a8 0) (a7 e6 a9)) (m9 (n:=3) rfl (d8 (jn 1 sc.nd) (d8 (jn 2 sc.nd) (d8 (jn 3 sc.nd) j8)))))) (j0 (p8 (jst 4 sc.nd (i8 (a7 (jc Hs hr (a7 (a8 1) a9)) (a7 (F6 (jtm v7 (a8 2) e6) (jc Hs hr (a7 (a8 3) a9)) d3) a9))))) (j0 (G4 (t4 (o6 (i6 (f9 (jc Hu hr (a7 (a8 4) a9)))) (m8 (jtm v7 (a8 3) e6)))) (q9 (v8 T.x_NoText rfl rfl e6)) A6) (q9 (p8 (d6 (a8 4)))))))),?_⟩
  walk_at "sim"
  have sl:Str.ofString "/" = ⟨#[47]⟩:=by decide +kernel
  rw[sl]
  obtain⟨p1,p2,p3⟩:=xI s 47
  obtain⟨c1,c2⟩:=yB 47 (sg s)
  rw[y4]at c1 c2
  rw[p1,p2,p3]
  have one:(Txt.partition s ⟨#[47]⟩).2.2=Str.ofString "1" ↔ (z8 47 (sg s)).2.2=[49]:=by
   rw[Af,p3,show sg (Str.ofString "1")=[49]by decide +kernel]
  rw[one]
  have fin:∀ b:Option Int,b=(if (z8 47 (sg s)).2.1 then rdW (z8 47 (sg s)).2.2 else some 1)→((cB (.tup [cf (rdW (z8 47 (sg s)).1),cf b])=false→Y (xN (Str.ofString "NoText")) M)∧(cB (.tup [cf (rdW (z8 47 (sg s)).1),cf b])=true →
    ((z8 47 (sg s)).2.2=[49]→Y (xN (Str.ofString "NoText")) M)∧(¬ (z8 47 (sg s)).2.2=[49]→R (D.tup [cf (rdW (z8 47 (sg s)).1),cf b]) M))):=fun b hb=>by
   unfold rdR mK at k1 k2
   rw[← hb]at k1 k2
   rw[ui]
   cases ha:rdW (z8 47 (sg s)).1 with
   | none=>rw[ha]at k2;exact⟨fun _=>k2 rfl,fun z=>by cases z⟩
   | some n =>
    cases b with
    | none=>rw[ha]at k2;exact⟨fun _=>k2 rfl,fun z=>by cases z⟩
    | some d =>
     rw[ha]at k1 k2
     refine⟨fun z=>k2 ?_,fun z=>⟨fun e=>k2 ?_,fun e=>?_⟩⟩
     ·have z2:(decide (1≤d) && decide (JK n.natAbs d.natAbs=1))=false:=z
      show Lz _ (if (_ && _)=true then _ else _)=none
      rw[z2];rfl
     ·show Lz _ (if (_ && _)=true then _ else _)=none
      rw[decide_eq_false (show ¬ (z8 47 (sg s)).2.2≠[49]from fun h=>h e),Kg];rfl
     ·have z2:(decide (1≤d) && decide (JK n.natAbs d.natAbs=1))=true:=z
      have:=k1 (mkRat n d.natAbs) (by
       show Lz _ (if (_ && _)=true then _ else _)=_
       rw[z2,decide_eq_true (show(z8 47 (sg s)).2.2≠[49]from e)];rfl)
      rw[← BM z2]at this
      exact this
  refine⟨by decide,eG hs,by rw[← y4,p1];omega,fun h=>⟨by rw[← y4,p3];omega,uA _ _,?_⟩,fun h=>⟨uA _ (some 1),?_⟩⟩
  ·refine fin _ ?_
   cases hb:(z8 47 (sg s)).2.1 with
   | true=>rfl
   | false=>rw[hb]at h;exact absurd h (by decide +kernel)
  ·refine fin (some 1) ?_
   cases hb:(z8 47 (sg s)).2.1 with
   | true=>rw[hb]at h;exact absurd rfl h
   | false=>rfl
 ·cases x with
  | non =>
   refine⟨_,(j0 (G4 (i6 (f9 (f8 (t8 T.sub) rfl T.b_isinstance d7 (a7 (a8 0) (a7 (p9 rfl T.b_str B2) a9))))) (q9 (v8 T.x_NoText rfl rfl e6)) A6) (j0 (p8 (m5 (S2 PySem.F.slot_str_partition PySem.F.type_str_partition A3 B3 (a8 0) (a7 e6 a9)) (m9 (n:=3) rfl (d8 (jn 1 sc.nd) (d8 (jn 2 sc.nd) (d8 (jn 3 sc.nd) j8)))))) (j0 (p8 (jst 4 sc.nd (i8 (a7 (jc Hs hr (a7 (a8 1) a9)) (a7 (F6 (jtm v7 (a8 2) e6) (jc Hs hr (a7 (a8 3) a9)) d3) a9))))) (j0 (G4 (t4 (o6 (i6 (f9 (jc Hu hr (a7 (a8 4) a9)))) (m8 (jtm v7 (a8 3) e6)))) (q9 (v8 T.x_NoText rfl rfl e6)) A6) (q9 (p8 (d6 (a8 4)))))))),?_⟩
   walk_at "sim"
   exact k
  | bl b =>
   refine⟨_,(j0 (G4 (i6 (f9 (f8 (t8 T.sub) rfl T.b_isinstance d7 (a7 (a8 0) (a7 (p9 rfl T.b_str B2) a9))))) (q9 (v8 T.x_NoText rfl rfl e6)) A6) (j0 (p8 (m5 (S2 PySem.F.slot_str_partition PySem.F.type_str_partition A3 B3 (a8 0) (a7 e6 a9)) (m9 (n:=3) rfl (d8 (jn 1 sc.nd) (d8 (jn 2 sc.nd) (d8 (jn 3 sc.nd) j8)))))) (j0 (p8 (jst 4 sc.nd (i8 (a7 (jc Hs hr (a7 (a8 1) a9)) (a7 (F6 (jtm v7 (a8 2) e6) (jc Hs hr (a7 (a8 3) a9)) d3) a9))))) (j0 (G4 (t4 (o6 (i6 (f9 (jc Hu hr (a7 (a8 4) a9)))) (m8 (jtm v7 (a8 3) e6)))) (q9 (v8 T.x_NoText rfl rfl e6)) A6) (q9 (p8 (d6 (a8 4)))))))),?_⟩
   walk_at "sim"
   exact k
  | int b =>
   refine⟨_,(j0 (G4 (i6 (f9 (f8 (t8 T.sub) rfl T.b_isinstance d7 (a7 (a8 0) (a7 (p9 rfl T.b_str B2) a9))))) (q9 (v8 T.x_NoText rfl rfl e6)) A6) (j0 (p8 (m5 (S2 PySem.F.slot_str_partition PySem.F.type_str_partition A3 B3 (a8 0) (a7 e6 a9)) (m9 (n:=3) rfl (d8 (jn 1 sc.nd) (d8 (jn 2 sc.nd) (d8 (jn 3 sc.nd) j8)))))) (j0 (p8 (jst 4 sc.nd (i8 (a7 (jc Hs hr (a7 (a8 1) a9)) (a7 (F6 (jtm v7 (a8 2) e6) (jc Hs hr (a7 (a8 3) a9)) d3) a9))))) (j0 (G4 (t4 (o6 (i6 (f9 (jc Hu hr (a7 (a8 4) a9)))) (m8 (jtm v7 (a8 3) e6)))) (q9 (v8 T.x_NoText rfl rfl e6)) A6) (q9 (p8 (d6 (a8 4)))))))),?_⟩
   walk_at "sim"
   exact k
  | tup b =>
   refine⟨_,(j0 (G4 (i6 (f9 (f8 (t8 T.sub) rfl T.b_isinstance d7 (a7 (a8 0) (a7 (p9 rfl T.b_str B2) a9))))) (q9 (v8 T.x_NoText rfl rfl e6)) A6) (j0 (p8 (m5 (S2 PySem.F.slot_str_partition PySem.F.type_str_partition A3 B3 (a8 0) (a7 e6 a9)) (m9 (n:=3) rfl (d8 (jn 1 sc.nd) (d8 (jn 2 sc.nd) (d8 (jn 3 sc.nd) j8)))))) (j0 (p8 (jst 4 sc.nd (i8 (a7 (jc Hs hr (a7 (a8 1) a9)) (a7 (F6 (jtm v7 (a8 2) e6) (jc Hs hr (a7 (a8 3) a9)) d3) a9))))) (j0 (G4 (t4 (o6 (i6 (f9 (jc Hu hr (a7 (a8 4) a9)))) (m8 (jtm v7 (a8 3) e6)))) (q9 (v8 T.x_NoText rfl rfl e6)) A6) (q9 (p8 (d6 (a8 4)))))))),?_⟩
   walk_at "sim"
   exact k
  | vl b =>
   refine⟨_,(j0 (G4 (i6 (f9 (f8 (t8 T.sub) rfl T.b_isinstance d7 (a7 (a8 0) (a7 (p9 rfl T.b_str B2) a9))))) (q9 (v8 T.x_NoText rfl rfl e6)) A6) (j0 (p8 (m5 (S2 PySem.F.slot_str_partition PySem.F.type_str_partition A3 B3 (a8 0) (a7 e6 a9)) (m9 (n:=3) rfl (d8 (jn 1 sc.nd) (d8 (jn 2 sc.nd) (d8 (jn 3 sc.nd) j8)))))) (j0 (p8 (jst 4 sc.nd (i8 (a7 (jc Hs hr (a7 (a8 1) a9)) (a7 (F6 (jtm v7 (a8 2) e6) (jc Hs hr (a7 (a8 3) a9)) d3) a9))))) (j0 (G4 (t4 (o6 (i6 (f9 (jc Hu hr (a7 (a8 4) a9)))) (m8 (jtm v7 (a8 3) e6)))) (q9 (v8 T.x_NoText rfl rfl e6)) A6) (q9 (p8 (d6 (a8 4)))))))),?_⟩
   walk_at "sim"
   exact k
  | _=>cases ho
theorem cj(T:Txt K mg w.params)(d:Df K mg "read_number" G6 ["text"])(GX_read_ratio:FnX P w K mg base "read_ratio" 3 ["text"] jP):Fn P w K mg base "read_number" 4 ["text"] jR:=by
 have sc:=bQ
 walk_at "fn"
 obtain⟨t,rfl,hl,q,hq,k⟩:=h
 refine⟨_,(d5 (tZ rfl (d5 (d6 (jc (FnX.nox GX_read_ratio) hr (a7 (a8 0) a9)))))),?_⟩
 walk_at "sim"
 exact .inl ⟨t,rfl,hl,fun q' hq'=>by rw[hq]at hq';cases hq';exact k,fun z=>by rw[hq]at z;cases z⟩
theorem fw(T:Txt K mg w.params)(d:Df K mg "read_word" N2 ["form","text"])(HI:Fn P w K mg base "read_number" 4 ["text"] jR):Fn P w K mg base "read_word" 5 ["form","text"] fc:=by
 have sc:=eM
 walk_at "fn"
 obtain⟨f,t,rfl,hl,k⟩:=h
 refine⟨_,(d4 (g5 (jtm v7 (a8 0) e6) (d4 (g5 (jtm xR (a8 1) (z5 rfl T.c_PART_WORDS)) (d5 p4) f7) (d5 (d6 (a8 1)))) f7) (d4 (g5 (t4 (km (jtm v7 (a8 0) e6) (nA (jtm v7 (a8 1) e6)))) (d5 (d6 Y2)) f7) (d4 (jst 2 sc.nd (jc HI hr (a7 (a8 1) a9))) (d4 (g5 (jtm tJ (a8 0) e6) (d5 (d6 (a8 2))) f7) (d4 (g5 (t4 (o6 (jtm F3 (jx (a8 2) d3) d3) (m8 (jtm Q3 (jx (a8 2) d3) d3)))) (d5 p4) f7) (d5 (d6 (jx (a8 2) d3)))))))),?_⟩
 walk_at "sim"
 have pn:¬ Str.ofString "part" = Str.ofString "number" := by decide +kernel
 have wn:¬ Str.ofString "number" = Str.ofString "word" := by decide +kernel
 have wp:¬ Str.ofString "part" = Str.ofString "word" := by decide +kernel
 have ln:¬ Str.ofString "number" = Str.ofString "plane" := by decide +kernel
 have lp:¬ Str.ofString "part" = Str.ofString "plane" := by decide +kernel
 rcases k with⟨rfl,hw,k⟩|⟨rfl,q,hq,k⟩|⟨rfl,n,hq,k⟩
 ·refine⟨fun _=>?_,fun z=>absurd rfl z⟩
  have iw:inV (.str t) [.str (Str.ofString "gap"),.str (Str.ofString "glass"),.str (Str.ofString "stop")]=true:=by
   have hb:∀ a:Str,(a == t)=decide (t=a):=fun a=>by
    rw[Ki,beq_iff_eq,decide_eq_true_eq];exact eq_comm
   show((Str.ofString "gap" == t) || ((Str.ofString "glass" == t) || ((Str.ofString "stop" == t) || false)))=_
   rw[hb,hb,hb,ME,← Bool.or_assoc]
   exact hw
  refine⟨.str t,[D.str (Str.ofString "gap"),D.str (Str.ofString "glass"),D.str (Str.ofString "stop")],[.str (Str.ofString "gap"),.str (Str.ofString "glass"),.str (Str.ofString "stop")],rfl,by simp only[D6],rfl,?_⟩
  rw[iw]
  exact⟨_,rfl,fun z=>JJ z,fun _=>k⟩
 ·exact⟨fun z=>absurd z wn,fun _=>⟨fun z=>absurd z ln,fun _=>⟨hl,q,hq,fun _=>k,fun z=>absurd z.symm pn⟩⟩⟩
 ·refine⟨fun z=>absurd z wp,fun _=>⟨fun z=>absurd z lp,fun _=>⟨hl,(n:Rat),hq,fun z=>absurd rfl z,fun _=>⟨fun z=>absurd (show(((n:Rat)).den:Int)=1 from rfl) z,fun _=>⟨fun z=>?_,fun _=>k⟩⟩⟩⟩⟩
  have:((n:Rat)).num=(n:Int):=rfl
  omega
theorem iB(T:Txt K mg w.params)(d:Df K mg "read_row" Q9 ["row"])(HL:Fn P w K mg base "read_word" 5 ["form","text"] fc):Fn P w K mg base "read_row" 6 ["row"] jQ:=by
 have sc:=gZ
 walk_at "fn"
 obtain⟨s,rfl,c,rfl,hc,k⟩:=h
 refine⟨_,(d4 (g5 (i6 (f9 (f8 (t8 T.sub) rfl T.b_isinstance d7 (a7 (a8 0) (a7 (p9 rfl T.b_str B2) a9))))) (d5 p4) f7) (d4 (jst 1 sc.nd (uc rfl PySem.F.slot_str_split (a8 0) (a7 e6 a9))) (d4 (g5 (t4 (o6 (kj T.dc_ROWS rfl (jx (a8 1) d3)) (m8 (jtm F3 (f8 y8 rfl T.b_len p0 (a7 (a8 1) a9)) (j3 Q5 d3 (f8 y8 rfl T.b_len p0 (a7 (iR T.dc_ROWS rfl (jx (a8 1) d3) (fun _ _=>rfl)) a9))))))) (d5 p4) f7) (d5 (d6 (i8 (a7 (jx (a8 1) d3) (a7 (O5 [] ["form","text"] [] rfl (by decide +kernel) rfl (by decide +kernel) (by decide +kernel) rfl jo jo (yb rfl T.b_zip (a7 (iR T.dc_ROWS rfl (jx (a8 1) d3) (fun _ _=>rfl)) (a7 (J6 (a8 1) (B4 d3) B5) a9))) (fun _ _ _ _ _ _=>(m9 (n:=2) rfl (d8 (jn 0 (show(["form","text"]:List Str).Nodup by decide +kernel)) (d8 (jn 1 (show(["form","text"]:List Str).Nodup by decide +kernel)) j8)))) (fun _ _ _ _ _ _=>P5) (fun _ _ _ _ _ _=>(jc HL hr (a7 (a8 0) (a7 (a8 1) a9))))) a9)))))))),?_⟩
 walk_at "sim"
 have sl:=A2
 have hl:=Cmd.len hc
 refine⟨by decide +kernel,by omega,?_⟩
 have hr:=c.rows
 unfold Q4 at hr
 rw[Cmd.split hc,IY]
 walk_at "sim"
 rw[hr]
 have tl:=c.tri_l
 have to:=Cmd.tri_ok hc
 rw[c.tri_v]at k
 rw[c.tri_f,c.tri_t]
 generalize c.tri=xs at *
 refine⟨fun z=>JJ z,fun _=>⟨_,rfl,?_⟩⟩
 walk_at "sim"
 rw[IW,IW,IW,IW]
 refine⟨fun z=>absurd (by omega) z,fun _=>⟨_,rfl,?_⟩⟩
 have ec:DL.Z0 (D.str c.word :: Kx D.str (Kx (fun x=>x.2.1) xs)) (some 1) none=Kx D.str (Kx (fun x=>x.2.1) xs):=by
  rw[show(1:Int)=((1:Nat):Int)from rfl,cJ];rfl
 rw[ec]
 walk_at "sim"
 rw[vN]
 refine P9 (fun x=>x.2.2) (by omega) (by simp only[D6,D3,and_self]) (fun x hx Q hQ=>?_) k
 walk_at "sim"
 obtain⟨h1,h2⟩:=to x hx
 refine⟨h1,?_⟩
 rcases h2 with⟨e1,e2,e3⟩|⟨e1,q,e2,e3⟩|⟨e1,n,e2,e3⟩
 ·exact .inl ⟨e1,e2,by rw[← e3];exact hQ⟩
 ·exact .inr (.inl ⟨e1,q,e2,by rw[← e3];exact hQ⟩)
 ·exact .inr (.inr ⟨e1,n,e2,by rw[← e3];exact hQ⟩)
theorem fD(T:Txt K mg w.params)(d:Df K mg "hall_text" N5 ["hall"])(Hx:Fn P w K mg base "ratio_text" 3 ["one"] ie)(Hz:Fn P w K mg base "bench_text" 5 ["bench"] sE):Fn P w K mg base "hall_text" 6 ["hall"] xn:=by
 have sc:=eP
 walk_at "fn"
 obtain⟨x0,near,bs,far,rfl,hx0,⟨zn,zf,hl,hp⟩,k⟩:=h
 have h1:=z9 zn
 have h2:=z9 zf
 have h3:=nZ hp hl
 have sl:=A2
 have e1:(Str.ofString " | ").length=3:=by decide +kernel
 rcases hx0 with rfl|rfl
 all_goals
  refine⟨_,(d4 (g5 (t4 (o6 (i6 (f9 (f8 (t8 T.sub) rfl T.b_isinstance d7 (a7 (a8 0) (a7 (p9 rfl T.b_tuple y7) a9))))) (m8 (jtm F3 (f8 y8 rfl T.b_len p0 (a7 (a8 0) a9)) d3)))) (d5 p4) f7) (d4 (m5 (a8 0) (m9 (n:=3) rfl (d8 (jn 1 sc.nd) (d8 (jn 2 sc.nd) (d8 (jn 3 sc.nd) j8))))) (d5 (d6 (j3 u7 (j3 u7 (j3 u7 (j3 u7 (jc Hx hr (a7 (a8 1) a9)) (z5 rfl T.c_HALL_APART)) (jc Hz hr (a7 (a8 2) a9))) (z5 rfl T.c_HALL_APART)) (jc Hx hr (a7 (a8 3) a9))))))),?_⟩
  walk_at "sim"
  exact⟨fun h=>absurd rfl h,fun _=>⟨zn,by omega,⟨hl,hp⟩,by rw[j5];omega,by rw[j5,j5];omega,zf,by rw[j5,j5,j5];omega,k⟩⟩
theorem au(T:Txt K mg w.params)(d:Df K mg "hall_answer" G7 ["hall","question","values"])(HM:Fn P w K mg base "hall_text" 6 ["hall"] xn):FnX P w K mg base "hall_answer" 7 ["hall","question","values"] sy:=by
 have sc:=bR
 refine S5 d sc (by walk_at "len") (fun f cdv A outer s H E ds M R Y hr h=>?_)
 have hu:=hr.units
 obtain⟨near,bs,far,w,vs,rfl,ok,rfl,k1,k2⟩:=h
 refine⟨_,(j0 (G4 (jtm iH (f8 y8 rfl T.b_len p0 (a7 (jx (a8 0) d3) a9)) (z5 rfl T.c_MOST_BETWEEN)) (q9 (v8 T.x_TooMany rfl rfl e6)) A6) (j0 (p8 (g5 (jtm v7 (a8 1) e6) (d5 (d6 (jc HM hr (a7 (a8 0) a9)))) f7)) (j0 (p8 p4) (q9 (p8 p4))))),?_⟩
 walk_at "sim"
 rw[IW]
 exact⟨fun h1=>k1 (by omega),fun h1=>⟨⟨ok.n,ok.f,ok.l,ok.p⟩,k2 (by omega)⟩⟩
theorem R8(T:Txt K mg w.params)(d:DfM K mg "Desk" "take_back" "Desk.take_back" C5 ["self"]):gn P w K mg base "Desk" "take_back" 1 ["self"] sF:=by
 have sc:=T8
 refine nI d sc (by walk_at "len") (fun f cdv A outer s H E ds M R Y hr h=>?_)
 have hu:=hr.units
 obtain⟨d,rfl,h,ps,l,dk,k1,k2⟩:=h
 refine⟨_,(j0 (G4 (jtm A0 (f8 y8 rfl T.b_len p0 (a7 (S3 T.o_Desk T.n_Desk__past (a8 0)) a9)) d3) (q9 (v8 T.x_NoPast rfl rfl e6)) A6) (j0 (p8 (aS T.o_Desk T.n_Desk__hall (a8 0) (ue PySem.F.slot_list_pop PySem.F.type_list_pop uG (S3 T.o_Desk T.n_Desk__past (a8 0))))) (q9 (p8 (d6 e6))))),?_⟩
 walk_at "sim"
 refine T3 dk.ob (cE _ _) ?_
 refine⟨_,_,rfl,by simp only[iN,dk.pa];rfl,?_⟩
 walk_at "sim"
 rw[IW]
 refine⟨fun z=>k1 (Le.mp (by omega)),fun z=>T3 dk.ob (cE _ _) ?_⟩
 obtain⟨qs,g,rfl⟩:∃ qs g,ps=qs++[g]:=⟨ps.dropLast,ps.getLast (fun e=>z (by rw[e];rfl)),(JL _).symm⟩
 have pa:=dk.pa
 rw[Jt]at pa
 refine S9 pa (vD pa (gm (fs:=[(Str.ofString "hall",F7 h),(Str.ofString "past",.ref l)]) (by rw[e7 dk.ne];exact dk.ob) (by show 2<1000;decide) ?_))
 rw[ij]
 walk_at "sim"
 exact k2 qs g rfl
theorem cW(T:Txt K mg w.params)(d:Df K mg "part_with" N3 ["word","number"])(HC:Fn P w K mg base "may_have" 1 ["word","number"] mS):FnX P w K mg base "part_with" 2 ["word","number"] mR:=by
 have sc:=eN
 refine S5 d sc (by walk_at "len") (fun f cdv A outer s H E ds M R Y hr h=>?_)
 have hu:=hr.units
 obtain⟨w,q,rfl,k1,k2⟩:=h
 refine⟨_,(j0 (G4 (i6 (f9 (jc HC hr (a7 (a8 0) (a7 (a8 1) a9))))) (q9 (v8 T.x_NoNumber rfl rfl e6)) A6) (q9 (p8 (d6 (i8 (a7 (a8 0) (a7 (a8 1) a9))))))),?_⟩
 walk_at "sim"
 exact⟨k2,k1⟩
theorem ix(T:Txt K mg w.params)(d:Df K mg "part_of" X0 ["bench","k"]):FnX P w K mg base "part_of" 1 ["bench","k"] jS:=by
 have sc:=jJ
 refine S5 d sc (by walk_at "len") (fun f cdv A outer s H E ds M R Y hr h=>?_)
 have hu:=hr.units
 obtain⟨bs,k,rfl,k1,k2⟩:=h
 refine⟨_,(j0 (G4 (jtm xS (a8 1) (f8 y8 rfl T.b_len p0 (a7 (a8 0) a9))) (q9 (v8 T.x_NoPart rfl rfl e6)) A6) (q9 (p8 (d6 (jx (a8 0) (a8 1)))))),?_⟩
 walk_at "sim"
 rw[IW]
 refine⟨fun h1=>k2 (by omega),fun h1=>?_⟩
 have hk:k<bs.length:=by omega
 have hx:=Ji hk
 exact⟨_,by show atI (bs.map i5) (k:Int)=_;rw[D5 (by rw[Ju,hx];rfl)],k1 _ hx⟩
theorem xO(T:Txt K mg w.params)(d:Df K mg "put" rY ["bench","word","number"])(GX_part_with:FnX P w K mg base "part_with" 2 ["word","number"] mR):FnX P w K mg base "put" 3 ["bench","word","number"] si:=by
 have sc:=BA
 refine S5 d sc (by walk_at "len") (fun f cdv A outer s H E ds M R Y hr h=>?_)
 have hu:=hr.units
 obtain⟨bs,w,q,rfl,hl,k1,k2,k3⟩:=h
 refine⟨_,(j0 (mF (i:=3) sc.nd rfl (Or.inl rfl) (K1 GX_part_with (hr.mono (by decide)) rfl (a7 (a8 1) (a7 (a8 2) a9)))) (j0 (G4 (jtm xS (f8 y8 rfl T.b_len p0 (a7 (a8 0) a9)) (z5 rfl T.c_MOST_PARTS)) (q9 (v8 T.x_TooMany rfl rfl e6)) A6) (q9 (p8 (d6 (P6 (a8 0) (u6 (a7 (a8 3) a9)))))))),?_⟩
 walk_at "sim"
 rw[IW]
 refine⟨fun h1=>⟨fun h2=>k2 h1 (by omega),fun h2=>?_⟩,k1⟩
 rw[u9 (by omega)]
 have e:=k3 h1 (by omega)
 rw[Jt]at e
 exact e
theorem U8(T:Txt K mg w.params)(d:Df K mg "changed_bench" D9 ["bench","deed","values"])(GX_part_with:FnX P w K mg base "part_with" 2 ["word","number"] mR)(GX_part_of:FnX P w K mg base "part_of" 1 ["bench","k"] jS)(GX_put:FnX P w K mg base "put" 3 ["bench","word","number"] si):FnX P w K mg base "changed_bench" 4 ["bench","deed","values"] BJ:=by
 have sc:=W8
 refine S5 d sc (by walk_at "len") (fun f cdv A outer s H E ds M R Y hr h=>?_)
 have hu:=hr.units
 obtain⟨bs,w,vs,rfl,hl,c,rfl,rfl,hc,k1,k2⟩:=h
 refine⟨_,(j0 (G4 (jtm v7 (a8 1) e6) (q9 (mG (K1 GX_put (hr.mono (by decide)) rfl (a7 (a8 0) (a7 (jx (a8 2) d3) (a7 (jx (a8 2) d3) a9)))))) A6) (j0 (p8 (jst 3 sc.nd (jx (a8 2) d3))) (j0 (mF (i:=4) sc.nd rfl (Or.inl rfl) (K1 GX_part_of (hr.mono (by decide)) rfl (a7 (a8 0) (a7 (a8 3) a9)))) (j0 (mF (i:=5) sc.nd rfl (Or.inl rfl) (EG (jtm v7 (a8 1) e6) (jA (u6 a9)) (Bo (aB (K1 GX_part_with (hr.mono (by decide)) rfl (a7 (jx (a8 4) d3) (a7 (jx (a8 2) d3) a9))) rk)))) (q9 (p8 (d6 (P6 (P6 (J6 (a8 0) B5 (B4 (a8 3))) (a8 5)) (J6 (a8 0) (B4 (j3 Q5 (a8 3) d3)) B5))))))))),?_⟩
 walk_at "sim"
 have c1:¬ Str.ofString "set" = Str.ofString "put" := by decide +kernel
 have c2:¬ Str.ofString "cut" = Str.ofString "put" := by decide +kernel
 have c3:¬ Str.ofString "set" = Str.ofString "cut" := by decide +kernel
 have lm:(bs.map i5).length=bs.length:=IW ..
 have cut1:∀ k:Nat,DL.Z0 (bs.map i5) none (some (k:Int))=(bs.take k).map i5:=fun k=>by rw[uW,MF]
 have cut2:∀ k:Nat,DL.Z0 (bs.map i5) (some ((k:Int)+1)) none=(bs.drop (k+1)).map i5:=fun k=>by
  rw[show(k:Int)+1=((k+1:Nat):Int)by omega,cJ,MG]
 have l1:∀ k:Nat,((bs.take k).map i5).length≤12:=fun k=>by rw[IW,Jw];omega
 have l2:∀ k:Nat,((bs.drop (k+1)).map i5).length≤12:=fun k=>by rw[IW,JB];omega
 cases c with
 | put w q =>
  refine⟨fun _=>?_,fun z=>absurd rfl z⟩
  unfold Cmd.vals
  walk_at "sim"
  refine⟨hl,fun h1=>k2 _ (by rw[G2,if_pos h1]),fun h1 h2=>k2 _ (by rw[G2,if_neg (by rw[h1];decide),if_pos h2]),fun h1 h2=>k1 _ (by rw[G2,if_neg (by rw[h1];decide),if_neg (by omega)])⟩
 | set k q =>
  refine⟨fun z=>absurd z c1,fun _=>?_⟩
  unfold Cmd.vals
  walk_at "sim"
  refine⟨fun x hx=>⟨fun z=>absurd z c3,fun _=>?_⟩,fun h1=>k2 _ (V6 h1)⟩
  refine⟨fun h1=>?_,fun h1=>k2 _ (by rw[Q1 hx,if_pos h1])⟩
  have e:=k1 (bs.take k++[(x.1,q)]++bs.drop (k+1)) (by rw[Q1 hx,if_neg (by rw[h1];decide)])
  rw[cut1,cut2,u9 (by have:=l1 k;omega),u9 (by rw[Jp];have:=l1 k;have:=l2 k;show _+1+_≤_;omega)]
  rw[Jt,Jt]at e
  exact e
 | cut k =>
  refine⟨fun z=>absurd z c2,fun _=>?_⟩
  unfold Cmd.vals
  walk_at "sim"
  refine⟨fun x hx=>⟨fun _=>?_,fun z=>absurd rfl z⟩,fun h1=>k2 _ (V7 h1)⟩
  have e:=k1 (bs.take k++[]++bs.drop (k+1)) (aZ hx)
  rw[cut1,cut2,u9 (by have:=l1 k;omega),u9 (by have:=l1 k;have:=l2 k;omega)]
  rw[Jy,Jt]at e
  exact e
 | near q=>exact hc.elim
 | far q=>exact hc.elim
 | back=>exact hc.elim
 | bench=>exact hc.elim
 | hall=>exact hc.elim
theorem iy(T:Txt K mg w.params)(d:Df K mg "changed" X3 ["hall","deed","values"])(GX_changed_bench:FnX P w K mg base "changed_bench" 4 ["bench","deed","values"] BJ):FnX P w K mg base "changed" 5 ["hall","deed","values"] BI:=by
 have sc:=jM
 refine S5 d sc (by walk_at "len") (fun f cdv A outer s H E ds M R Y hr h=>?_)
 have hu:=hr.units
 obtain⟨near,bs,far,w,vs,rfl,hl,c,rfl,rfl,hc,k1,k2⟩:=h
 refine⟨_,(j0 (p8 (m5 (a8 0) (m9 (n:=3) rfl (d8 (jn 3 sc.nd) (d8 (jn 4 sc.nd) (d8 (jn 5 sc.nd) j8)))))) (j0 (p8 (g5 (jtm v7 (a8 1) e6) (d5 (d6 (i8 (a7 (jx (a8 2) d3) (a7 (a8 4) (a7 (a8 5) a9)))))) f7)) (j0 (p8 (g5 (jtm v7 (a8 1) e6) (d5 (d6 (i8 (a7 (a8 3) (a7 (a8 4) (a7 (jx (a8 2) d3) a9)))))) f7)) (q9 (mG (EF (aB (jA (a8 3)) (aB (K1 GX_changed_bench (hr.mono (by decide)) rfl (a7 (a8 4) (a7 (a8 1) (a7 (a8 2) a9)))) (aB (jA (a8 5)) rk))))))))),?_⟩
 walk_at "sim"
 have other:c.isB→¬ c.word=Str.ofString "near" ∧ ¬ c.word=Str.ofString "far" := fun hb=>by
  cases c with
  | put w q=>exact⟨by show ¬ Str.ofString "put" = _;decide +kernel,by show ¬ Str.ofString "put" = _;decide +kernel⟩
  | set k q=>exact⟨by show ¬ Str.ofString "set" = _;decide +kernel,by show ¬ Str.ofString "set" = _;decide +kernel⟩
  | cut k=>exact⟨by show ¬ Str.ofString "cut" = _;decide +kernel,by show ¬ Str.ofString "cut" = _;decide +kernel⟩
  | near q=>exact hb.elim
  | far q=>exact hb.elim
  | back=>exact hb.elim
  | bench=>exact hb.elim
  | hall=>exact hb.elim
 have fin:c.isB→chH (near,bs,far) c=(match chB bs c with|.ok cs=>.ok (near,cs,far)|.error x=>.error x)→(¬ c.word=Str.ofString "far" → bs.length≤12∧∃ c_1:Cmd,c.word=c_1.word∧c.vals=c_1.vals∧c_1.isB∧(∀(cs:List (Str × Rat)),chB bs c_1=Except.ok cs→R (D.tup [g8 near,D.vl (Kx i5 cs),g8 far]) M)∧∀(x:Str),chB bs c_1=Except.error x→Y (xN x) M):=fun hb e _ =>
  ⟨hl,c,rfl,rfl,hb,fun cs hcs=>k1 (near,cs,far) (by rw[e,hcs]),fun x hx=>k2 x (by rw[e,hx])⟩
 cases c with
 | near q =>
  refine⟨fun _=>?_,fun z=>absurd rfl z⟩
  unfold Cmd.vals
  walk_at "sim"
  exact k1 _ rfl
 | far q =>
  refine⟨fun z=>absurd z (by show ¬ Str.ofString "far" = _;decide +kernel),fun _=>⟨fun _=>?_,fun z=>absurd rfl z⟩⟩
  unfold Cmd.vals
  walk_at "sim"
  exact k1 _ rfl
 | put w q=>exact⟨fun z=>absurd z (other hc).1,fun _=>⟨fun z=>absurd z (other hc).2,fin hc rfl⟩⟩
 | set w q=>exact⟨fun z=>absurd z (other hc).1,fun _=>⟨fun z=>absurd z (other hc).2,fin hc rfl⟩⟩
 | cut w=>exact⟨fun z=>absurd z (other hc).1,fun _=>⟨fun z=>absurd z (other hc).2,fin hc rfl⟩⟩
 | back=>exact hc.elim
 | bench=>exact hc.elim
 | hall=>exact hc.elim
theorem fu(T:Txt K mg w.params)(d:DfM K mg "Desk" "say" "Desk.say" R7 ["self","row"])(HH:Fn P w K mg base "bench_answer" 6 ["bench","question","values"] sG)(HR:Fn P w K mg base "read_row" 6 ["row"] jQ)(GX_hall_answer:FnX P w K mg base "hall_answer" 7 ["hall","question","values"] sy)(GX_Desk_take_back:gn P w K mg base "Desk" "take_back" 1 ["self"] sF)(GX_changed:FnX P w K mg base "changed" 5 ["hall","deed","values"] BI):gn P w K mg base "Desk" "say" 8 ["self","row"] BF:=by
 have sc:=ib
 refine nI d sc (by walk_at "len") (fun f cdv A outer s H E ds M R Y hr h=>?_)
 have hu:=hr.units
 obtain⟨d,s,rfl,c,h,ps,l,rfl,hc,ok,hl,dk,k1,k2⟩:=h
 refine⟨_,(j0 (p8 (m5 (jc HR hr (a7 (a8 1) a9)) (m9 (n:=2) rfl (d8 (jn 2 sc.nd) (d8 (jn 3 sc.nd) j8))))) (j0 (G4 (jtm Fp (a8 2) (z5 rfl T.c_CHANGES)) (j0 (mF (i:=4) sc.nd rfl (Or.inl rfl) (K1 GX_changed (hr.mono (by decide)) rfl (a7 (S3 T.o_Desk T.n_Desk__hall (a8 0)) (a7 (a8 2) (a7 (a8 3) a9))))) (j0 (p8 (F5 (eh PySem.F.slot_list_append PySem.F.type_list_append J8 (S3 T.o_Desk T.n_Desk__past (a8 0)) (a7 (S3 T.o_Desk T.n_Desk__hall (a8 0)) a9)))) (j0 (p8 (aS T.o_Desk T.n_Desk__hall (a8 0) (a8 4))) (q9 (p8 (d6 e6)))))) A6) (j0 (G4 (jtm v7 (a8 2) e6) (q9 (mG (wX GX_Desk_take_back (hr.mono (by decide)) (a8 0)))) A6) (j0 (G4 (jtm Fp (a8 2) (z5 rfl T.c_OF_HALLS)) (q9 (mG (K1 GX_hall_answer (hr.mono (by decide)) rfl (a7 (S3 T.o_Desk T.n_Desk__hall (a8 0)) (a7 (a8 2) (a7 (a8 3) a9)))))) A6) (q9 (p8 (d6 (jc HH hr (a7 (jx (S3 T.o_Desk T.n_Desk__hall (a8 0)) d3) (a7 (a8 2) (a7 (a8 3) a9))))))))))),?_⟩
 walk_at "sim"
 refine⟨c,rfl,hc,?_⟩
 refine kH chT ?_
 rw[if_neg (by decide)]
 walk_at "sim"
 rcases c.change with⟨z,hb⟩|⟨z,hb⟩
 ·refine⟨fun _=>?_,fun z2=>absurd (z.symm.trans z2) (by decide)⟩
  refine T3 dk.ob (V3 _ _) ?_
  refine⟨h.1,h.2.1,h.2.2,c.word,c.vals,rfl,ok.l,c,rfl,rfl,hb,fun g e=>?_,fun x e=>k2 x (by rw[bU hb];show(match chH h c with|.ok g=>_|.error x=>_)=_;rw[show chH h c=_ from e])⟩
  refine T3 dk.ob (cE _ _) (S9 dk.pa (T3 dk.ob (V3 _ _) (gr dk.pa (by rw[IW];omega) (gm (fs:=[(Str.ofString "hall",F7 h),(Str.ofString "past",.ref l)]) (by rw[e7 dk.ne];exact dk.ob) (by show 2<1000;decide) ?_))))
  rw[ij]
  walk_at "sim"
  exact k1 _ g (ps++[h]) (by rw[bU hb];show(match chH h c with|.ok g=>_|.error x=>_)=_;rw[show chH h c=_ from e]) _ ⟨d9,by rw[e7 (Ne.symm dk.ne),d9,Jt];rfl⟩ (fun b hb hl=>by rw[e7 hb,e7 hl])
 ·refine⟨fun z2=>absurd (z.symm.trans z2) (by decide),fun _=>?_⟩
  have oth:Oth d l M M:=fun _ _ _=>rfl
  rcases hb with rfl|rfl|rfl
  ·refine⟨fun _=>ow dk.ob (nt _ _ (by decide +kernel) (by decide +kernel)) ⟨h,ps,l,dk,fun e=>k2 _ (by rw[e];exact eW h),fun qs g e=>?_⟩,fun z2=>absurd rfl z2⟩
   exact k1 _ g qs (by rw[e];exact P1 h g qs) _ ⟨d9,by rw[e7 (Ne.symm dk.ne),d9]⟩ (fun b hb hl=>by rw[e7 hb,e7 hl])
  ·refine⟨fun z2=>absurd z2 (by show ¬ Str.ofString "bench" = _;decide +kernel),fun _=>kH [Str.ofString "hall",Str.ofString "round",Str.ofString "ever"] ?_⟩
   have e0:([Str.ofString "hall",Str.ofString "round",Str.ofString "ever"].any fun x=>x == Cmd.word .bench)=false:=by decide +kernel
   rw[if_neg (by decide),e0]
   refine⟨_,rfl,fun z2=>JJ z2,fun _=>T3 dk.ob (V3 _ _) ⟨_,rfl,h.2.1,_,_,rfl,⟨ok.l,ok.p⟩,rfl,?_⟩⟩
   exact k1 _ h ps rfl M dk oth
  ·refine⟨fun z2=>absurd z2 (by show ¬ Str.ofString "hall" = _;decide +kernel),fun _=>kH [Str.ofString "hall",Str.ofString "round",Str.ofString "ever"] ?_⟩
   have e0:([Str.ofString "hall",Str.ofString "round",Str.ofString "ever"].any fun x=>x == Cmd.word .hall)=true:=by decide +kernel
   rw[if_neg (by decide),e0]
   refine⟨_,rfl,fun _=>T3 dk.ob (V3 _ _) ⟨h.1,h.2.1,h.2.2,_,_,rfl,⟨ok.n,ok.f,ok.l,ok.p⟩,rfl,fun h8=>k2 _ ?_,fun h8=>k1 _ h ps ?_ M dk oth⟩,fun z2=>JJ z2⟩
   ·show(if 8<h.2.1.length then _ else _)=_
    rw[if_pos h8]
   ·show(if 8<h.2.1.length then _ else _)=_
    rw[if_neg (by omega)]
theorem fG(T:Txt K mg w.params)(d:Df K mg "_law_said" N8 ["desk","row"])(GX_Desk_say:gn P w K mg base "Desk" "say" 8 ["self","row"] BF):Fn P w K mg base "_law_said" 9 ["desk","row"] ic:=by
 have sc:=eS
 walk_at "fn"
 obtain⟨d,s,rfl,c,h,ps,l,rfl,hc,ok,hl,dk,k1,k2⟩:=h
 refine⟨_,(d4 (jst 2 sc.nd Y2) (d4 (jst 3 sc.nd (J1 a9)) (d4 (tY (i:=4) (j:=2) ["NoPart","NoNumber","TooMany","NoPast"] rfl rfl rfl rfl (P0 T.kn_GlassError__NoPart (P0 T.kn_GlassError__NoNumber (P0 T.kn_GlassError__TooMany (P0 T.kn_GlassError__NoPast rF)))) sc.nd rfl rfl (Or.inl rfl) rfl (Or.inl rfl) GX_Desk_say (hr.mono (by decide)) (a8 0) (a7 (a8 1) a9) (fun _ _=>(d4 (jst 3 sc.nd (J1 (a7 (cz [("NoPart",false),("NoNumber",false),("TooMany",false),("NoPast",false)] rfl T.b_isinstance d7 rfl T.ki_NoRow__NoPart_NoNumber_TooMany_NoPast (j7 T.ke_NoPart (j7 T.ke_NoNumber (j7 T.ke_TooMany (j7 T.ke_NoPast M8)))) (a8 4)) (a7 (cz [("NoPart",true),("NoNumber",false),("TooMany",false),("NoPast",false)] rfl T.b_isinstance d7 rfl T.ki_NoPart__NoPart_NoNumber_TooMany_NoPast (j7 T.ke_NoPart (j7 T.ke_NoNumber (j7 T.ke_TooMany (j7 T.ke_NoPast M8)))) (a8 4)) a9)))) (d4 (F5 (eh PySem.F.slot_list_extend PySem.F.type_list_extend pH (a8 3) (a7 (J1 (a7 (cz [("NoPart",false),("NoNumber",true),("TooMany",false),("NoPast",false)] rfl T.b_isinstance d7 rfl T.ki_NoNumber__NoPart_NoNumber_TooMany_NoPast (j7 T.ke_NoPart (j7 T.ke_NoNumber (j7 T.ke_TooMany (j7 T.ke_NoPast M8)))) (a8 4)) (a7 (cz [("NoPart",false),("NoNumber",false),("TooMany",true),("NoPast",false)] rfl T.b_isinstance d7 rfl T.ki_TooMany__NoPart_NoNumber_TooMany_NoPast (j7 T.ke_NoPart (j7 T.ke_NoNumber (j7 T.ke_TooMany (j7 T.ke_NoPast M8)))) (a8 4)) a9))) a9))) (d4 (F5 (eh PySem.F.slot_list_append PySem.F.type_list_append J8 (a8 3) (a7 (cz [("NoPart",false),("NoNumber",false),("TooMany",false),("NoPast",true)] rfl T.b_isinstance d7 rfl T.ki_NoPast__NoPart_NoNumber_TooMany_NoPast (j7 T.ke_NoPart (j7 T.ke_NoNumber (j7 T.ke_TooMany (j7 T.ke_NoPast M8)))) (a8 4)) a9))) (d5 (g5 (t4 (o6 (i6 (f9 (CU [("NoPart",true),("NoNumber",true),("TooMany",true),("NoPast",true)] rfl T.b_isinstance d7 rfl T.b_ValueError dh T.kb_ValueError__NoPart_NoNumber_TooMany_NoPast (j7 T.ke_NoPart (j7 T.ke_NoNumber (j7 T.ke_TooMany (j7 T.ke_NoPast M8)))) (a8 4)))) (m8 (f9 (CT [("NoPart",false),("NoNumber",false),("TooMany",false),("NoPast",false)] rfl T.b_isinstance d7 T.ki_NoText_NoRatio_NoWhole__NoPart_NoNumber_TooMany_NoPast (j7 T.ke_NoPart (j7 T.ke_NoNumber (j7 T.ke_TooMany (j7 T.ke_NoPast M8)))) (by decide) (a8 4) (cA rfl (cA rfl (cA rfl yf)))))))) (d5 (jst 3 sc.nd (j3 Fo (J1 (a7 w6 a9)) d3))) f7))))))) (d5 (d6 (E2 (i8 (a7 (a8 2) (a7 (O5 [3] ["k"] ["flags"] rfl (by decide +kernel) rfl (by decide +kernel) (by decide +kernel) rfl (Gd ⟨rfl,rfl⟩) (Gd (Or.inl rfl)) (fN rfl T.b_range (a7 (f8 y8 rfl T.b_len p0 (a7 (a8 3) a9)) a9)) (fun _ _ _ _ _ _=>(jn 0 (show(["k","flags"]:List Str).Nodup by decide +kernel))) (fun _ _ _ _ _ _=>(pv (f9 (jx (a8 1) (a8 0))))) (fun _ _ _ _ _ _=>(a8 0))) a9))))))))),?_⟩
 walk_at "sim"
 refine fun p hp=>?_
 have nd:d≠p:=fun e=>by rw[← e,dk.ob]at hp;cases hp
 have nl:l≠p:=fun e=>by rw[← e,dk.pa]at hp;cases hp
 refine⟨fun c0 M'=>∃ x,c0=xN x∧bV h ps c = .error x∧M'=j9 M p (.lst []),?_,?_⟩
 ·walk_at "sim"
  refine ow (fs:=[(Str.ofString "hall",F7 h),(Str.ofString "past",.ref l)]) (by rw[e7 nd];exact dk.ob) (nt _ _ (by decide +kernel) (by decide +kernel)) ⟨c,h,ps,l,rfl,hc,ok,hl,dk.oth (e7 nd) (e7 nl),fun a h' ps' e M' dk' ot=>?_,fun x e=>⟨x,rfl,e⟩⟩
  walk_at "sim"
  have mp:M' p=some (.lst []):=by rw[ot p (Ne.symm nd) (Ne.symm nl),d9]
  refine⟨_,_,rfl,by simp only[iN,mp];rfl,?_⟩
  walk_at "sim"
  refine⟨by decide,?_⟩
  rw[show F2 0 (LS ((0:Nat):Int))=([]:List Nat).map (fun i:Nat=>D.int (i:Int))from rfl]
  refine V5 (fun _=>false) (fun i:Nat=>D.int (i:Int)) (Jx _) trivial (fun i hi=>nomatch hi) ?_
  refine⟨Y9 M' p,fun b o hb=>?_,k1 a h' ps' e _ (dk'.oth (A9 nd) (A9 nl)) fun b b1 b2=>?_⟩
  ·by_cases e1:b=p
   ·rw[e1,Y8]at hb;cases hb
   ·rw[A9 e1]at hb;exact hb
  ·by_cases e1:b=p
   ·rw[e1,Y8];exact hp.symm
   ·rw[A9 e1,ot b b1 b2,e7 e1]
 ·rintro x M' ⟨y,ey,er,rfl⟩
  obtain rfl:x=y:=by unfold xN at ey;injection ey
  have hx:=rX er
  refine⟨hx,?_⟩
  walk_at "sim"
  refine⟨x,false,rfl,jE hx,x,_,rfl,eF (n:=Str.ofString "NoPart") hx (by decide +kernel) (by decide +kernel) (by decide +kernel) (by decide +kernel),fun p1 hp1=>S9 d9 ⟨x,_,rfl,eF (n:=Str.ofString "NoNumber") hx (by decide +kernel) (by decide +kernel) (by decide +kernel) (by decide +kernel),x,_,rfl,eF (n:=Str.ofString "TooMany") hx (by decide +kernel) (by decide +kernel) (by decide +kernel) (by decide +kernel),fun p2 hp2=>?_⟩⟩
  have n12:p1≠p2:=fun e=>by rw[e,d9]at hp2;cases hp2
  refine DV (ds:=[D.bl false,D.bl (decide (x=Str.ofString "NoPart"))]) (by rw[e7 n12,d9]) d9 (by show 2+2≤1000;decide) ?_
  refine S9 d9 ⟨x,_,rfl,eF (n:=Str.ofString "NoPast") hx (by decide +kernel) (by decide +kernel) (by decide +kernel) (by decide +kernel),gr d9 (by show 4<100000;decide) ?_⟩
  refine⟨x,true,rfl,jE hx,fun z=>JJ z,fun _=>⟨x,false,rfl,jE hx,fun z=>JJ z,fun _=>?_⟩⟩
  walk_at "sim"
  generalize hM4:j9 (j9 _ p1 _) p1 _=M4
  have mp1:M4 p1=some (.lst ((flX x).map D.bl)):=by rw[← hM4,d9];rfl
  have sub:∀ b o,M b=some o→M4 b=some o:=fun b o hb=>by
   have e0:b≠p:=fun e=>by rw[e,hp]at hb;cases hb
   have e1:b≠p1:=fun e=>by rw[← e,e7 e0,hb]at hp1;cases hp1
   have e2:b≠p2:=fun e=>by rw[← e,e7 e1,e7 e0,hb]at hp2;cases hp2
   rw[← hM4,e7 e1,e7 e1,e7 e2,e7 e1,e7 e0];exact hb
  clear hM4
  refine⟨_,_,rfl,by simp only[iN,mp1];rfl,?_⟩
  walk_at "sim"
  refine⟨by show -(2 ^ 62)≤((5:Nat):Int)∧((5:Nat):Int)<2 ^ 62;decide,?_⟩
  rw[show F2 0 (LS (((flX x).map D.bl).length:Int))=(JZ 5).map (fun i:Nat=>D.int (i:Int))by show(JZ 5).map (fun i:Nat=>D.int (0+(i:Int)))=_;simp]
  refine V5 (fun k:Nat=>(flX x)[k]?.getD false) (fun i:Nat=>D.int (i:Int)) (by decide) trivial (fun i hi Q N hQ hN=>?_) ?_
  ·walk_at "sim"
   have h5:i<(flX x).length:=Mw.mp hi
   have hg:=Ji h5
   rw[hg]at hQ hN
   refine⟨_,C1 mp1 (D5 (by rw[Ju,hg];rfl)),?_⟩
   walk_at "sim"
   exact⟨hQ,hN⟩
  ·rw[He hx]
   exact⟨M,sub,k2 x er⟩
theorem fF(T:Txt K mg w.params)(d:Df K mg "_law_text" N7 ["one"]):Fn P w K mg base "_law_text" 1 ["one"] ie:=by
 have sc:=eR
 walk_at "fn"
 obtain⟨q,rfl,hq,k⟩:=h
 refine⟨_,(d4 (g5 (jtm A0 (jx (a8 0) d3) d3) (d5 (d6 (B9 O7 rfl T.b_str B2 (a7 (jx (a8 0) d3) a9)))) f7) (d5 (d6 (j3 u7 (j3 u7 (B9 O7 rfl T.b_str B2 (a7 (jx (a8 0) d3) a9)) e6) (B9 O7 rfl T.b_str B2 (a7 (jx (a8 0) d3) a9)))))),?_⟩
 walk_at "sim"
 have g:=Ar (q:=q) (by omega)
 have sl:=A2
 have h1:=Dc g
 have n1:=uq g.1
 have n2:=uq g.2
 refine⟨fun e=>⟨n1,?_⟩,fun e=>⟨n1,?_⟩⟩
 ·have:rtx q=tx q.num:=if_pos (by omega)
  rw[this]at k;exact k
 ·have e2:rtx q=tx q.num++Str.ofString "/" ++ tx (q.den:Int):=if_neg (by omega)
  rw[e2]at k h1
  rw[j5]at h1
  have h2:=h1
  rw[j5]at h2
  exact⟨Jk (show(tx q.num).length+(Str.ofString "/").length≤1000000 by omega) sl,by rw[Jl];exact n2,Jk (show(tx q.num++Str.ofString "/").length+(tx (q.den:Int)).length≤1000000 by omega) sl,k⟩
theorem R9(T:Txt K mg w.params)(d:Df K mg "_law_bench_text" B7 ["bench"])(Ht:Fn P w K mg base "_law_text" 1 ["one"] ie):Fn P w K mg base "_law_bench_text" 2 ["bench"] sj:=by
 have sc:=Q8
 walk_at "fn"
 obtain⟨bs,rfl,⟨hl,hp⟩,k⟩:=h
 refine⟨_,(d4 (g5 (jtm A0 (f8 y8 rfl T.b_len p0 (a7 (a8 0) a9)) d3) (d5 (d6 e6)) f7) (d5 (d6 (fO e6 (a7 (O5 [] ["part"] [] rfl (by decide +kernel) rfl (by decide +kernel) (by decide +kernel) rfl jo jo (fM (a8 0)) (fun _ _ _ _ _ _=>(jn 0 (show(["part"]:List Str).Nodup by decide +kernel))) (fun _ _ _ _ _ _=>P5) (fun _ _ _ _ _ _=>(j3 u7 (j3 u7 (jx (a8 0) d3) e6) (jc Ht hr (a7 (jx (a8 0) d3) a9))))) a9))))),?_⟩
 walk_at "sim"
 rw[IW]
 have sl:=A2
 have q1:(Str.ofString " ").length=1:=by decide +kernel
 refine⟨fun z=>?_,fun z=>?_⟩
 ·obtain rfl:bs=[]:=Le.mp (by omega)
  rw[ba]at k;exact k
 ·refine P9 (fun x=>.str (ptx x)) (by omega) (by simp only[D3]) (fun x hx Q hQ=>?_) ?_
  ·have ok:=hp x hx
   have wl:=bG ok
   have rl:=z9 ok.sz
   have px:i5 x=D.tup [D.str x.1,g8 x.2]:=rfl
   rw[px]
   walk_at "sim"
   exact⟨by omega,ok.sz,by rw[j5];omega,hQ⟩
  ·have e:btx bs=Txt.join (Str.ofString "; ") (bs.map ptx):=if_neg (fun e=>z (by rw[e];rfl))
   rw[e]at k
   have su:=mX hp
   exact⟨_,_,bs.map ptx,rfl,rfl,by rw[Kl];rfl,⟨by rw[IW];omega,by decide +kernel⟩,k⟩
theorem de(T:Txt K mg w.params)(d:Df K mg "_law_shows" K7 ["desk","state"])(Hv:Fn P w K mg base "_law_said" 9 ["desk","row"] ic)(Ht:Fn P w K mg base "_law_text" 1 ["one"] ie)(Hy:Fn P w K mg base "_law_bench_text" 2 ["bench"] sj):Fn P w K mg base "_law_shows" 10 ["desk","state"] jN:=by
 have sc:=cU
 walk_at "fn"
 obtain⟨d,bs,near,far,rfl,ps,l,dk,ok,hl,k⟩:=h
 refine⟨_,(d4 (m5 (a8 1) (m9 (n:=3) rfl (d8 (jn 2 sc.nd) (d8 (jn 3 sc.nd) (d8 (jn 4 sc.nd) j8))))) (d4 (g5 (jtm (tK hu) (jc Hv hr (a7 (a8 0) (a7 e6 a9))) (i8 (a7 (jc Hy hr (a7 (a8 2) a9)) (a7 (u6 a9) a9)))) (d5 (d6 w6)) f7) (d4 (jst 5 sc.nd (i8 (a7 (fO e6 (a7 (u6 (a7 (jc Ht hr (a7 (a8 3) a9)) (a7 (jc Hy hr (a7 (a8 2) a9)) (a7 (jc Ht hr (a7 (a8 4) a9)) a9)))) a9)) (a7 (u6 a9) a9)))) (d4 (g5 (jtm iH (f8 y8 rfl T.b_len p0 (a7 (a8 2) a9)) d3) (d5 (jst 5 sc.nd (i8 (a7 Y2 (a7 (u6 (a7 d3 a9)) a9))))) f7) (d5 (d6 (jm (tM hu) (jc Hv hr (a7 (a8 0) (a7 e6 a9))) (a8 5)))))))),?_⟩
 walk_at "sim"
 have sl:=A2
 refine⟨.bench,(near,bs,far),ps,l,rfl,trivial,ok,hl,dk,fun a h' ps' e M' dk' ot=>?_,fun x e=>by cases e⟩
 cases e
 obtain rfl:=dk.same dk' ot
 have cb:=DE ok.p ok.l
 have e8:((bs.map i5).length:Int)=(bs.length:Int):=by rw[IW]
 refine⟨⟨ok.l,ok.p⟩,cb,cb,fun z=>absurd rfl z,fun _=>⟨ok.n,⟨ok.l,ok.p⟩,ok.f,_,_,[rtx near,btx bs,rtx far],rfl,rfl,rfl,?_,?_⟩⟩
 ·have r1:=z9 (q:=near) ok.n
  have r2:=z9 (q:=far) ok.f
  have r3:=nZ ok.p ok.l
  have r4:(btx bs).length≤500:=r3
  exact⟨by show(rtx near).length+((btx bs).length+((rtx far).length+0))+3≤1048576;omega,by decide +kernel⟩
 have ej:Txt.join (Str.ofString " | ") [rtx near,btx bs,rtx far]=htx near bs far:=rfl
 rw[ej,e8]
 have ch:=vy (yj (near:=near) (far:=far) ok.p ok.l)
 refine⟨fun h8=>?_,fun h8=>?_⟩
 ·refine⟨.hall,(near,bs,far),ps,l,rfl,trivial,ok,hl,dk,fun a h' ps' e M' dk' ot=>?_,fun x e=>?_⟩
  ·have e:(if 8<bs.length then _ else _)=_:=e
   rw[if_pos (by omega)]at e;cases e
  ·have e:(if 8<bs.length then _ else _)=_:=e
   rw[if_pos (by omega)]at e;cases e
   rw[AV,V4 rfl]
   exact k
 ·refine⟨.hall,(near,bs,far),ps,l,rfl,trivial,ok,hl,dk,fun a h' ps' e M' dk' ot=>?_,fun x e=>?_⟩
  ·have e:(if 8<bs.length then _ else _)=_:=e
   rw[if_neg (by omega)]at e;cases e
   obtain rfl:=dk.same dk' ot
   refine⟨ch,ch,?_⟩
   rw[V4 rfl]
   exact k
  ·have e:(if 8<bs.length then _ else _)=_:=e
   rw[if_neg (by omega)]at e;cases e
theorem iG(T:Txt K mg w.params)(d:Df K mg "_law_may" R6 ["word","number"]):Fn P w K mg base "_law_may" 1 ["word","number"] mT:=by
 have sc:=ia
 walk_at "fn"
 obtain⟨w,q,rfl,hw,k⟩:=h
 refine⟨_,(d5 (d6 (ki (jm v7 (a8 0) e6) (ki (jm iH (jx (a8 1) d3) d3) (B8 (E6 (jm v7 (a8 0) e6) (B8 (jm A0 (jx (a8 1) d3) d3)))))))),?_⟩
 walk_at "sim"
 have mb:F4 w q=if w=Str.ofString "gap" then decide (0≤q.num)else if w=Str.ofString "stop" then decide (0<q.num)else decide (w=Str.ofString "glass"):=rfl
 have g1:¬ Str.ofString "glass" = Str.ofString "gap" := by decide +kernel
 have g2:¬ Str.ofString "glass" = Str.ofString "stop" := by decide +kernel
 have g3:¬ Str.ofString "stop" = Str.ofString "gap" := by decide +kernel
 unfold E9 at hw
 rw[Jz,Jz,decide_eq_true_eq,decide_eq_true_eq,decide_eq_true_eq]at hw
 refine⟨fun e=>?_,fun e=>⟨fun h1=>?_,fun h1=>⟨fun h2=>?_,fun h2=>?_⟩⟩⟩
 ·rw[mb,e,if_neg g1,if_neg g2,decide_eq_true rfl]at k;exact k
 ·by_cases e2:w=Str.ofString "gap"
  ·rw[mb,if_pos e2,decide_eq_true (by omega)]at k;exact k
  ·by_cases e3:w=Str.ofString "stop"
   ·rw[mb,if_neg e2,if_pos e3,decide_eq_true h1]at k;exact k
   ·rcases hw with(h|h)|h
    ·exact absurd h e2
    ·exact absurd h e
    ·exact absurd h e3
 ·rw[mb,if_pos h2]at k
  rw[show decide (q.num=0)=decide (0≤q.num)from decide_eq_decide.mpr (by omega)]
  exact k
 ·have e3:w=Str.ofString "stop" := by
   rcases hw with(h|h)|h
   ·exact absurd h h2
   ·exact absurd h e
   ·exact h
  rw[mb,if_neg h2,if_pos e3,decide_eq_false h1]at k;exact k
theorem iF(T:Txt K mg w.params)(d:Df K mg "_law_put" R5 ["state","word","number"])(HD:Fn P w K mg base "_law_may" 1 ["word","number"] mT):Fn P w K mg base "_law_put" 2 ["state","word","number"] so:=by
 have sc:=hZ
 walk_at "fn"
 obtain⟨bs,near,far,w,q,rfl,hw,hl,k1,k2,k3⟩:=h
 refine⟨_,(d4 (g5 (i6 (f9 (jc HD hr (a7 (a8 1) (a7 (a8 2) a9))))) (d5 (d6 d3)) f7) (d4 (g5 (jtm A0 (f8 y8 rfl T.b_len p0 (a7 (jx (a8 0) d3) a9)) d3) (d5 (d6 d3)) f7) (d5 (d6 (i8 (a7 (P6 (jx (a8 0) d3) (u6 (a7 (i8 (a7 (a8 1) (a7 (a8 2) a9))) a9))) (a7 (jx (a8 0) d3) (a7 (jx (a8 0) d3) a9)))))))),?_⟩
 walk_at "sim"
 rw[IW]
 refine⟨hw,k1,fun h1=>⟨fun h2=>k2 h1 (by omega),fun h2=>?_⟩⟩
 rw[u9 (by omega)]
 have e:=k3 h1 (by omega)
 unfold stD at e
 rw[Jt]at e
 exact e
theorem fJ(T:Txt K mg w.params)(d:Df K mg "_law_next" O0 ["pool","base"]):Fn P w K mg base "_law_next" 1 ["pool","base"] bO:=by
 have sc:=eU
 refine y2 d sc (fun ds M R Y h=>?_) (fun f cdv A outer s H E ds M R Y hr h=>?_)
 ·obtain⟨p,b,rfl,_⟩:=h;rfl
 ·obtain⟨p,b,rfl,⟨x,y,z,hM⟩,hb,hl,k⟩:=h
  refine⟨_,(d4 (g5 (jtm iH (jx (a8 0) d3) d3) (d4 (jst 2 sc.nd (j3 ah (jx (a8 0) d3) (a8 1))) (d4 (m5 (j3 cq (jx (a8 0) d3) (a8 1)) (aT (a8 0) d3)) (d5 (d6 (a8 2))))) f7) (d4 (m5 (j3 Q5 (jx (a8 0) d3) d3) (aT (a8 0) d3)) (d4 (jst 3 sc.nd (j3 ah (j3 Q5 (jx (a8 0) d3) (j3 tL d3 (jx (a8 0) d3))) d3)) (d4 (jst 4 sc.nd (j3 ah (j3 tL (j3 Q5 (a8 3) d3) (j3 Q5 (a8 3) d3)) d3)) (d5 (d6 (j3 ah (j3 cq (j3 ah (j3 tL (a8 4) (a8 4)) d3) d3) (a8 1)))))))),?_⟩
  refine⟨_,rfl,_,C1 hM rfl,_,rfl,_,rfl,?_⟩
  refine GU (fun h0=>?_) (fun h0=>?_)
  ·refine⟨_,rfl,_,C1 hM rfl,_,rfl,_,_,rfl,rfl,hb,?_⟩
   refine⟨_,rfl,_,C1 hM rfl,_,rfl,_,_,rfl,rfl,⟨by omega,hl⟩,_,rfl,_,_,_,_,rfl,rfl,hM,rfl,?_⟩
   exact⟨_,rfl,k _ _ (KI _ (by omega)) (Kt _ hb) (z6.upd _ _ _)⟩
  ·refine⟨_,rfl,_,C1 hM rfl,_,rfl,_,rfl,_,_,_,_,rfl,rfl,hM,rfl,?_⟩
   refine⟨_,rfl,_,C1 d9 rfl,_,rfl,_,C1 d9 rfl,_,_,rfl,rfl,CK (by decide) (by decide),_,rfl,_,_,rfl,rfl,(by show(0:Int)<1000000007;decide),?_⟩
   refine⟨_,rfl,_,rfl,_,rfl,_,rfl,_,_,rfl,rfl,GQ (by decide) (by decide) (by decide) (by decide),_,_,rfl,rfl,(by show(0:Int)<998244353;decide),?_⟩
   refine⟨_,rfl,_,rfl,_,_,rfl,rfl,Ft (by decide) (by decide),_,_,rfl,rfl,(by show(0:Int)<2147483647;decide),_,_,rfl,rfl,Hf,_,rfl,_,_,rfl,rfl,hb,?_⟩
   exact k _ _ (KI _ (by omega)) (Kt _ hb) (z6.upd _ _ _)
theorem df(T:Txt K mg w.params)(d:Df K mg "_law_ratio" K8 ["top","bottom"]):Fn P w K mg base "_law_ratio" 1 ["top","bottom"] rS:=by
 have sc:=cV
 walk_at "fn"
 obtain⟨a,b,rfl,hb,hl,k⟩:=h
 refine⟨_,(eg (g5 (jtm Q3 (a8 1) d3) (d5 (aR (i:=0) (j:=1) rfl sc.nd rfl rfl (by decide) rfl rfl (a7 (j3 dZ d3 (a8 0)) (a7 (j3 dZ d3 (a8 1)) a9)))) f7) (d4 (aR (i:=2) (j:=3) rfl sc.nd rfl rfl (by decide) rfl rfl (a7 (f8 J9 rfl T.b_abs D2 (a7 (a8 0) a9)) (a7 (a8 1) a9))) (d4 (Y1 PassesOwn.never (jtm iH (a8 2) d3) (d5 (aR (i:=2) (j:=3) rfl sc.nd rfl rfl (by decide) rfl rfl (a7 (j3 ah (a8 3) (a8 2)) (a7 (a8 2) a9))))) (d5 (d6 (i8 (a7 (j3 cq (a8 0) (a8 3)) (a7 (j3 cq (a8 1) (a8 3)) a9)))))))),?_⟩
 walk_at "sim"
 refine vF (fun e' M'=>M'=M∧∃(t u:Int) (x1 x2:Option D),e'=[some (.int t),some (.int u),x1,x2]∧0<u∧u.natAbs.log2<9000∧Lc t u=Lc a b) ?_ ?_
 ·walk_at "sim"
  refine⟨fun h1=>⟨_,_,_,_,rfl,by omega,by rw[Mb,KY];exact hl,by rw[Mb,Mb,Rat.neg_divInt_neg]⟩,fun h1=>⟨_,_,_,_,rfl,by omega,hl,rfl⟩⟩
 ·rintro e' M' ⟨rfl,t,u,x1,x2,rfl,hu0,hul,hq⟩
  walk_at "sim"
  refine oo (fun m e M2=>M2=M'∧∃ v:Nat,e=[some (.int t),some (.int u),some (.int (m:Int)),some (.int (v:Int))]∧JK m v=JK t.natAbs u.natAbs) t.natAbs ⟨rfl,u.natAbs,by rw[show((u.natAbs:Nat):Int)=u by omega],rfl⟩ ?_
  rintro m e M2 ⟨rfl,v,rfl,hg⟩
  walk_at "sim"
  refine⟨fun h0=>⟨by omega,v % m,Nat.mod_lt _ (by omega),m,by rw[Int.natCast_emod],by rw[← hg,KR m v,RM.iW v m (by omega),KR]⟩,fun h0=>?_⟩
  have hm:m=0:=by omega
  subst hm
  rw[Nat.gcd_zero_left]at hg
  subst hg
  have hn:=Dd (a:=t) (b:=u) (by omega)
  have hlg:=yp (a:=t) (b:=u) (by omega) hul
  rw[← hq]at k
  exact⟨⟨hn,hlg⟩,⟨hn,hlg⟩,xY (by omega) (by rw[if_neg (by omega)]) k⟩
theorem cp(T:Txt K mg w.params)(d:Df K mg "_law_number" G9 ["pool"])(HF:Fn P w K mg base "_law_ratio" 1 ["top","bottom"] rS)(Hr:Fn P w K mg base "_law_next" 1 ["pool","base"] bO):Fn P w K mg base "_law_number" 2 ["pool"] bN:=by
 have sc:=bT
 walk_at "fn"
 obtain⟨p,rfl,hp,k⟩:=h
 refine⟨_,(d4 (jst 1 sc.nd (jc Hr hr (a7 (a8 0) (a7 d3 a9)))) (d4 (g5 (jtm Q3 (a8 1) d3) (d5 (d6 (i8 (a7 (j3 dZ (jc Hr hr (a7 (a8 0) (a7 d3 a9))) d3) (a7 d3 a9))))) f7) (d4 (g5 (jtm Q3 (a8 1) d3) (d5 (d6 (jc HF hr (a7 (j3 dZ (jc Hr hr (a7 (a8 0) (a7 d3 a9))) d3) (a7 (j3 Q5 d3 (jc Hr hr (a7 (a8 0) (a7 d3 a9)))) a9))))) f7) (d4 (jst 2 sc.nd (j3 dZ (jc Hr hr (a7 (a8 0) (a7 (j3 ed d3 d3) a9))) (jc Hr hr (a7 (a8 0) (a7 (j3 ed d3 d3) a9))))) (d5 (d6 (jc HF hr (a7 (a8 2) (a7 (j3 Q5 d3 (jc Hr hr (a7 (a8 0) (a7 (j3 ed d3 d3) a9)))) a9))))))))),?_⟩
 walk_at "sim"
 have e12:(10:Int) ^ LS 12=1000000000000:=by decide
 have e9:(10:Int) ^ LS 9=1000000000:=by decide
 have c9:vK 10 9:=⟨by decide,by decide,by decide⟩
 rw[e12,e9]
 refine⟨hp,by decide,fun r M1 r0 r9 s1=>⟨fun _=>⟨s1.pool,by decide,fun t M2 t0 t7 s2=>?_⟩,fun _=>⟨fun _=>⟨s1.pool,by decide,fun t M2 t0 t1 s2=>⟨s2.pool,by decide,fun u M3 u0 u1 s3=>⟨by omega,?_,?_⟩⟩⟩,fun _=>⟨FZ,s1.pool,by decide,by decide,fun t M2 t0 t1 s2=>⟨FZ,s2.pool,by decide,by decide,fun u M3 u0 u1 s3=>⟨c9,s3.pool,by decide,by decide,fun v M4 v0 v1 s4=>⟨by omega,?_,?_⟩⟩⟩⟩⟩⟩⟩
 ·have e:=k ((t - 3:Int):Rat) M2 (Bx (by decide) (by omega)) (s1.trans s2)
  rw[sU]at e
  exact e
 ·exact S1 (k:=9000) (IX (show(1+u).natAbs<2 ^ 5 by omega) (JD (by decide) (by decide))) (by decide)
 ·exact k _ _ (kg (by decide) (by omega) (by omega) (by omega)) (s1.trans (s2.trans s3))
 ·exact S1 (k:=9000) (IX (show(1+v).natAbs<2 ^ 40 by omega) (JD (by decide) (by decide))) (by decide)
 ·exact k _ _ (kg (by decide) (by omega) (by omega) (by omega)) (s1.trans (s2.trans (s3.trans s4)))
theorem fK(T:Txt K mg w.params)(d:Df K mg "_law_deed" O1 ["pool","state","past"])(Ht:Fn P w K mg base "_law_text" 1 ["one"] ie)(HD:Fn P w K mg base "_law_may" 1 ["word","number"] mT)(HS:Fn P w K mg base "_law_put" 2 ["state","word","number"] so)(Hr:Fn P w K mg base "_law_next" 1 ["pool","base"] bO)(HJ:Fn P w K mg base "_law_number" 2 ["pool"] bN):Fn P w K mg base "_law_deed" 3 ["pool","state","past"] sC:=by
 have sc:=eV
 walk_at "fn"
 obtain⟨p,bs,near,far,l,rfl,hp,ok,ps,⟨hl,hg⟩,k⟩:=h
 refine⟨_,(d4 (jst 3 sc.nd (jc Hr hr (a7 (a8 0) (a7 d3 a9)))) (d4 (jst 4 sc.nd (jc HJ hr (a7 (a8 0) a9))) (d4 (jst 5 sc.nd (jc Hr hr (a7 (a8 0) (a7 (j3 Q5 (f8 y8 rfl T.b_len p0 (a7 (jx (a8 1) d3) a9)) d3) a9)))) (d4 (jst 6 sc.nd (B9 vh rfl T.b_list oh (a7 (jx (a8 1) d3) a9))) (d4 (g5 (jtm Q3 (a8 3) d3) (d4 (jst 7 sc.nd (jx (u6 (a7 e6 (a7 e6 (a7 e6 a9)))) (jc Hr hr (a7 (a8 0) (a7 d3 a9))))) (eg (g5 (jtm iH (jc Hr hr (a7 (a8 0) (a7 d3 a9))) d3) (d5 (jst 4 sc.nd (i8 (a7 (f8 (AZ rfl) rfl T.b_max vq (a7 d3 (a7 (f8 J9 rfl T.b_abs D2 (a7 (jx (a8 4) d3) a9)) a9))) (a7 (jx (a8 4) d3) a9))))) f7) (d5 (d6 (E2 (i8 (a7 (j3 u7 (j3 u7 (j3 u7 e6 (a8 7)) e6) (jc Ht hr (a7 (a8 4) a9))) (a7 (jc HS hr (a7 (a8 1) (a7 (a8 7) (a7 (a8 4) a9)))) a9)))))))) f7) (d4 (g5 (jtm A0 (a8 3) d3) (d4 (jst 8 sc.nd (j3 u7 (j3 u7 (j3 u7 e6 (B9 O7 rfl T.b_str B2 (a7 (a8 5) a9))) e6) (jc Ht hr (a7 (a8 4) a9)))) (d4 (g5 (jtm A0 (a8 5) (f8 y8 rfl T.b_len p0 (a7 (a8 6) a9))) (d5 (d6 (E2 (i8 (a7 (a8 8) (a7 d3 a9)))))) f7) (d4 (g5 (i6 (f9 (jc HD hr (a7 (jx (jx (a8 6) (a8 5)) d3) (a7 (a8 4) a9))))) (d5 (d6 (E2 (i8 (a7 (a8 8) (a7 d3 a9)))))) f7) (d4 (m5 (i8 (a7 (jx (jx (a8 6) (a8 5)) d3) (a7 (a8 4) a9))) (aT (a8 6) (a8 5))) (d5 (d6 (E2 (i8 (a7 (a8 8) (a7 (i8 (a7 (fP (a8 6)) (a7 (jx (a8 1) d3) (a7 (jx (a8 1) d3) a9)))) a9)))))))))) f7) (d4 (g5 (jtm A0 (a8 3) d3) (d4 (g5 (jtm A0 (a8 5) (f8 y8 rfl T.b_len p0 (a7 (a8 6) a9))) (d5 (d6 (E2 (i8 (a7 (j3 u7 e6 (B9 O7 rfl T.b_str B2 (a7 (a8 5) a9))) (a7 d3 a9)))))) f7) (d5 (d6 (E2 (i8 (a7 (j3 u7 e6 (B9 O7 rfl T.b_str B2 (a7 (a8 5) a9))) (a7 (i8 (a7 (P6 (J6 (a8 6) B5 (B4 (a8 5))) (J6 (a8 6) (B4 (j3 Q5 (a8 5) d3)) B5)) (a7 (jx (a8 1) d3) (a7 (jx (a8 1) d3) a9)))) a9))))))) f7) (d4 (g5 (jtm A0 (a8 3) d3) (d5 (d6 (E2 (i8 (a7 (j3 u7 e6 (jc Ht hr (a7 (a8 4) a9))) (a7 (i8 (a7 (fP (a8 6)) (a7 (a8 4) (a7 (jx (a8 1) d3) a9)))) a9)))))) f7) (d4 (g5 (jtm A0 (a8 3) d3) (d5 (d6 (E2 (i8 (a7 (j3 u7 e6 (jc Ht hr (a7 (a8 4) a9))) (a7 (i8 (a7 (fP (a8 6)) (a7 (jx (a8 1) d3) (a7 (a8 4) a9)))) a9)))))) f7) (d4 (g5 (jtm (Fq hu) (a8 2) (u6 a9)) (d5 (d6 (E2 (i8 (a7 e6 (a7 d3 a9)))))) f7) (d5 (d6 (E2 (i8 (a7 e6 (a7 (jx (a8 2) (ud d3)) a9)))))))))))))))),?_⟩
 walk_at "sim"
 have lm:(bs.map i5).length=bs.length:=IW ..
 have ol:bs.length≤12:=ok.l
 refine⟨hp,by decide,fun r M1 r0 r9 s1=>⟨s1.pool,fun q M2 hq s2=>⟨s2.pool,by omega,?_,fun r1 M3 r10 r11 s3=>?_⟩⟩⟩
 ·rw[lm]
  exact S1 (k:=9000) (IX (show((bs.length:Int)+1).natAbs<2 ^ 5 by omega) (JD (by decide) (by decide))) (by decide)
 rw[lm]at r11
 obtain⟨n,rfl⟩:=Ku r10
 have hn:n≤bs.length:=by omega
 have st:=s1.trans (s2.trans s3)
 refine⟨_,bs.map i5,rfl,by simp only[D3],fun b hb=>?_⟩
 have nbp:b≠p:=st.pool.ne hb
 have pb:z6 p M (j9 M3 b (.lst (bs.map i5))):=st.put (by
  cases e:M b with
  | none=>rfl
  | some o=>have:=st.keep b o nbp e;rw[hb]at this;cases this) nbp
 have sl:=A2
 have tn:(tx (n:Int)).length≤3:=G5 (n:=(n:Int)) (k:=2) (by decide) (by rw[Jl];omega)
 have rl:=z9 hq
 have lg:((n:Int)).natAbs.log2<1920:=by
  rw[Jl]
  exact IX (S1 (k:=10) (show n<2 ^ 10 by omega) (by decide)) (by decide)
 have q4:(Str.ofString "put ").length=4:=by decide +kernel
 have q5:(Str.ofString "set ").length=4:=by decide +kernel
 have q6:(Str.ofString "cut ").length=4:=by decide +kernel
 have q7:(Str.ofString "near ").length=5:=by decide +kernel
 have q8:(Str.ofString "far ").length=4:=by decide +kernel
 have q1:(Str.ofString " ").length=1:=by decide +kernel
 have fgt:∀(x:D) (M4:Mem),(∀ M',z6 p M M'→R x M')→z6 p M M4→DU x M4 R:=fun x M4 h1 h2=>⟨M4,fun _ _ h=>h,h1 M4 h2⟩
 have nlb:l≠b:=fun e=>by
  have nlp:l≠p:=fun e2=>by
   obtain⟨x,y,z,e3⟩:=hp.ex
   rw[← e2,hl]at e3
   cases ps with
   | nil=>cases e3
   | cons a r=>cases e3
  have:=st.keep l _ nlp hl
  rw[e,hb]at this;cases this
 have hl3:M3 l=some (.lst (ps.map stD)):=st.keep l _ (fun e2=>by
   obtain⟨x,y,z,e3⟩:=hp.ex
   rw[← e2,hl]at e3
   cases ps with
   | nil=>cases e3
   | cons a r=>cases e3) hl
 refine⟨fun h4=>?_,fun h4=>⟨fun h5=>?_,fun h5=>⟨fun h6=>?_,fun h6=>⟨fun h7=>?_,fun h7=>⟨fun h8=>?_,fun h8=>?_⟩⟩⟩⟩⟩
 ·refine⟨pb.pool,by decide,fun r2 M4 r20 r23 s4=>?_⟩
  have s5:=pb.trans s4
  obtain⟨w,hw,hwb⟩:∃ w:Str,atI [D.str (Str.ofString "gap"),D.str (Str.ofString "glass"),D.str (Str.ofString "stop")] r2=some (.str w)∧E9 w=true:=by
   rcases(show r2=0∨r2=1∨r2=2 by omega)with rfl|rfl|rfl
   ·exact⟨Str.ofString "gap",D5 (j:=0) rfl,by decide +kernel⟩
   ·exact⟨Str.ofString "glass",D5 (j:=1) rfl,by decide +kernel⟩
   ·exact⟨Str.ofString "stop",D5 (j:=2) rfl,by decide +kernel⟩
  refine⟨_,hw,?_⟩
  refine vF (fun e M'=>∃ q2:Rat,sz q2≤41∧z6 p M M'∧e=[some (D.ref p),some (D.tup [D.vl (bs.map i5),g8 near,g8 far]),some (D.ref l),some (D.int r),some (g8 q2),some (D.int (n:Int)),some (D.ref b),some (D.str w),none]) ?_ ?_
  ·walk_at "sim"
   refine⟨s5.pool,by decide,fun r3 M5 r30 r34 s6=>⟨fun _=>?_,fun _=>⟨q,hq,s5.trans s6,rfl⟩⟩⟩
   obtain⟨q2,z1,z2⟩:=CG hq
   rw[z2]
   exact⟨q2,z1,s5.trans s6,rfl⟩
  ·rintro e M5 ⟨q2,hq2,s6,rfl⟩
   have rl2:=z9 hq2
   have wl:=W1 hwb
   walk_at "sim"
   refine⟨by omega,by rw[j5];omega,hq2,by rw[j5,j5];omega,hwb,ol,fun h1=>fgt _ _ (fun M' s'=>?_) s6,fun h1 h2=>fgt _ _ (fun M' s'=>?_) s6,fun h1 h2=>fgt _ _ (fun M' s'=>?_) s6⟩
   ·have e:=k (.put w q2) M' ⟨hwb,hq2⟩ (.inl trivial) s'
    rw[iJ (h:=(near,bs,far)) (c:=.put w q2) trivial trivial (show chB bs (.put w q2) = .error (Str.ofString "NoNumber")by rw[G2,if_pos h1]),AW]at e
    exact e
   ·have e:=k (.put w q2) M' ⟨hwb,hq2⟩ (.inl trivial) s'
    rw[iJ (h:=(near,bs,far)) (c:=.put w q2) trivial trivial (show chB bs (.put w q2) = .error (Str.ofString "TooMany")by rw[G2,if_neg (by rw[h1];decide),if_pos (by omega)]),AV]at e
    exact e
   ·have e:=k (.put w q2) M' ⟨hwb,hq2⟩ (.inl trivial) s'
    rw[tN (h:=(near,bs,far)) (c:=.put w q2) trivial trivial (show chB bs (.put w q2) = .ok (bs++[(w,q2)])by rw[G2,if_neg (by rw[h1];decide),if_neg (by omega)])]at e
    exact e
 ·refine⟨lg,by show(Str.ofString "set ").length+(tx (n:Int)).length≤_;omega,by show(Str.ofString "set " ++ tx (n:Int)).length+_≤_;rw[j5];omega,hq,by show(Str.ofString "set " ++ tx (n:Int)++_).length+_≤_;rw[j5,j5];omega,?_⟩
  refine⟨_,_,rfl,by simp only[iN,d9];rfl,?_⟩
  walk_at "sim"
  rw[lm]
  refine⟨fun h6=>fgt _ _ (fun M' s'=>?_) pb,fun h6=>?_⟩
  ·have e:=k (.set n q) M' ⟨by omega,hq⟩ (.inl trivial) s'
   rw[iJ (h:=(near,bs,far)) (c:=.set n q) trivial trivial (V6 (show bs.length≤n by omega)),AX]at e
   exact e
  ·have hnl:n<bs.length:=by omega
   have hx:=Ji hnl
   generalize bs[n]=x at hx
   have px:i5 x=D.tup [D.str x.1,g8 x.2]:=rfl
   have ix0:ixD (j9 M3 b (MO.lst (Kx i5 bs))) (.ref b) (.int (n:Int))=some (i5 x):=C1 d9 (D5 (by rw[Ju,hx];rfl))
   refine⟨_,ix0,?_⟩
   walk_at "sim"
   refine⟨dX (ok.p x (JC hx)),fun h1=>fgt _ _ (fun M' s'=>?_) pb,fun h1=>⟨_,ix0,?_⟩⟩
   ·have e:=k (.set n q) M' ⟨by omega,hq⟩ (.inl trivial) s'
    rw[iJ (h:=(near,bs,far)) (c:=.set n q) trivial trivial (show chB bs (.set n q) = .error (Str.ofString "NoNumber")by rw[Q1 hx,if_pos h1]),AW]at e
    exact e
   ·walk_at "sim"
    have pq:D.tup [D.str x.1,g8 q]=i5 (x.1,q):=rfl
    refine oq d9 (by rw[lm];exact hnl) ?_
    rw[rB]
    refine⟨b,_,rfl,d9,?_⟩
    rw[cI hb]
    refine fgt _ _ (fun M' s'=>?_) st
    have e:=k (.set n q) M' ⟨by omega,hq⟩ (.inl trivial) s'
    rw[tN (h:=(near,bs,far)) (c:=.set n q) trivial trivial (show chB bs (.set n q) = .ok (bs.take n++[(x.1,q)]++bs.drop (n+1))by rw[Q1 hx,if_neg (by rw[h1];decide)])]at e
    unfold stD at e
    rw[← oN hnl]at e
    exact e
 ·refine⟨_,_,rfl,by simp only[iN,d9];rfl,?_⟩
  walk_at "sim"
  rw[lm]
  refine⟨fun h7=>⟨lg,by show(Str.ofString "cut ").length+(tx (n:Int)).length≤_;omega,fgt _ _ (fun M' s'=>?_) pb⟩,fun h7=>⟨lg,by show(Str.ofString "cut ").length+(tx (n:Int)).length≤_;omega,.inl ⟨_,by simp only[C8,d9];rfl,.inl ⟨_,by simp only[C8,d9];rfl,?_⟩⟩⟩⟩
  ·have e:=k (.cut n) M' (show n≤12 by omega) (.inl trivial) s'
   rw[iJ (h:=(near,bs,far)) (c:=.cut n) trivial trivial (V7 (show bs.length≤n by omega)),AX]at e
   exact e
  ·have hx:=Ji (show n<bs.length by omega)
   rw[uW,show(n:Int)+1=((n+1:Nat):Int)by omega,cJ]
   walk_at "sim"
   rw[u9 (by rw[Jw,JB];omega)]
   refine fgt _ _ (fun M' s'=>?_) pb
   have e:=k (.cut n) M' (show n≤12 by omega) (.inl trivial) s'
   rw[tN (h:=(near,bs,far)) (c:=.cut n) trivial trivial (aZ hx),Jy]at e
   unfold stD at e
   rw[Jt,MF,MG]at e
   exact e
 ·refine⟨hq,by omega,⟨b,_,rfl,d9,?_⟩⟩
  rw[cI hb]
  exact fgt _ _ (fun M' s'=>k (.near q) M' hq (.inl trivial) s') st
 ·refine⟨hq,by omega,⟨b,_,rfl,d9,?_⟩⟩
  rw[cI hb]
  exact fgt _ _ (fun M' s'=>k (.far q) M' hq (.inl trivial) s') st
 ·have hl4:(j9 M3 b (MO.lst (Kx i5 bs))) l=some (.lst (ps.map stD)):=by rw[e7 nlb];exact hl3
  refine yu hl4 (uY 45 hg) rfl ?_
  refine⟨_,rfl,fun h9=>fgt _ _ (fun M' s'=>?_) pb,fun h9=>?_⟩
  ·have e:=k .back M' trivial (.inr rfl) s'
   have h9:ps.map stD=[]:=by simpa using h9
   rw[LK.mp h9,CD]at e
   exact e
  ·have h9:¬ ps.map stD=[]:=by simpa using h9
   obtain⟨qs,g,rfl⟩:∃ qs g,ps=qs++[g]:=⟨ps.dropLast,ps.getLast (fun e=>h9 (by rw[e];rfl)),(JL _).symm⟩
   rw[Jt]at hl4
   refine⟨stD g,C1 hl4 jl,fgt _ _ (fun M' s'=>?_) pb⟩
   have e:=k .back M' trivial (.inr rfl) s'
   rw[tO]at e
   exact e
theorem fE(T:Txt K mg w.params)(d:Df K mg "_law_told" N6 ["desk","state","past","pool"])(Hv:Fn P w K mg base "_law_said" 9 ["desk","row"] ic)(HN:Fn P w K mg base "_law_deed" 3 ["pool","state","past"] sC):Fn P w K mg base "_law_told" 10 ["desk","state","past","pool"] sh:=by
 have sc:=eQ
 walk_at "fn"
 obtain⟨d,bs,near,far,q,p,rfl,ps,l,⟨dk,ok,hl,hg,hq,hp,nq,np⟩,k⟩:=h
 refine⟨_,(d4 (m5 (jc HN hr (a7 (a8 3) (a7 (a8 1) (a7 (a8 2) a9)))) (m9 (n:=2) rfl (d8 (jn 4 sc.nd) (d8 (jn 5 sc.nd) j8)))) (d4 (jst 6 sc.nd (jc Hv hr (a7 (a8 0) (a7 (a8 4) a9)))) (d4 (g5 (f9 (f8 (t8 T.sub) rfl T.b_isinstance d7 (a7 (a8 5) (a7 (p9 rfl T.b_int J3) a9)))) (d5 (d6 (i8 (a7 (jm (tM hu) (a8 6) (i8 (a7 Y2 (a7 (u6 (a7 (a8 5) a9)) a9)))) (a7 (a8 1) a9))))) f7) (d4 (g5 (jtm v7 (a8 4) e6) (d5 (F5 (ue PySem.F.slot_list_pop PySem.F.type_list_pop uG (a8 2)))) (d5 (F5 (eh PySem.F.slot_list_append PySem.F.type_list_append J8 (a8 2) (a7 (a8 1) a9))))) (d5 (d6 (i8 (a7 (jm (tM hu) (a8 6) (i8 (a7 e6 (a7 (u6 a9) a9)))) (a7 (a8 5) a9))))))))),?_⟩
 walk_at "sim"
 have npq:=nh hp hq
 have ndp:d≠p:=by obtain⟨x,y,z,e⟩:=hp.ex;exact C3 dk.ob e
 have ndq:=C3 dk.ob hq
 have sD:D.tup [D.vl (bs.map i5),g8 near,g8 far]=stD (near,bs,far):=rfl
 refine⟨hp,ok,ps,⟨hq,hg⟩,fun c M1 hc hb s1=>⟨c,(near,bs,far),ps,l,rfl,hc,ok,by omega,dk.oth ((s1.keep d _ ndp dk.ob).trans dk.ob.symm) ((s1.keep l _ np dk.pa).trans dk.pa.symm),fun a h' ps' e M2 dk2 ot=>?_,fun x e=>?_⟩⟩
 ·obtain⟨rfl,e2,e3⟩:=BC hb e
  have hq1:=s1.keep q _ npq hq
  have hq2:M2 q=some (.lst (ps.map stD)):=by rw[ot q (Ne.symm ndq) (Ne.symm nq)];exact hq1
  have hp2:y0 M2 p:=by
   obtain⟨x,y,z,e⟩:=s1.pool.ex
   exact⟨x,y,z,by rw[ot p (Ne.symm ndp) (Ne.symm np)];exact e⟩
  rw[e2,o9 (show tyD M2 (iX (.ok h'))=some "tuple" from rfl) (show eJ "tuple" "int" = some false from rfl)]
  have ck:cl 59 (D.str (Str.ofString "ok"))=true:=by decide +kernel
  have fin:∀ M3:Mem,E3 h'→(∀ g∈ps',E3 g)→ps'.length≤ps.length+1→M3=j9 M2 q (.lst (ps'.map stD))→R (D.tup [D.bl (@decide (D.tup [D.str (Str.ofString "ok"),D.vl []]=D.tup [D.str (Str.ofString "ok"),D.vl []]) (Ke _)),iX (.ok h')]) M3:=fun M3 o1 o2 o3 e4=>by
   subst e4
   rw[V4 rfl]
   refine k h' ps' _ o1 o2 o3 (dk2.oth (e7 ndq) (e7 nq)) d9 ?_ fun b o b1 b2 b3 b4 hb2=>?_
   ·obtain⟨x,y,z,e⟩:=hp2.ex
    exact⟨x,y,z,by rw[e7 (Ne.symm npq)];exact e⟩
   ·rw[e7 b3,ot b b1 b2];exact s1.keep b o b4 hb2
  refine⟨_,rfl,fun z=>JJ z,fun _=>?_⟩
  rcases e3 with⟨hb1,rfl⟩|⟨rfl,e3⟩
  ·refine⟨fun z=>absurd z (sO hc hb1),fun _=>S9 hq2 (gr hq2 (by rw[IW];omega) ⟨ck,ck,?_⟩)⟩
   rw[iK hb1]at e2
   refine fin _ (DA ok hc e2) (fun g hm=>?_) (by rw[Jp];exact Ja _) (by rw[Jt];rfl)
   rcases JF.mp hm with hm|hm
   ·exact hg g hm
   ·rw[JY.mp hm];exact ok
  ·refine⟨fun _=>?_,fun z=>absurd rfl z⟩
   rw[e3,Jt]at hq2
   refine S9 hq2 (vD hq2 ⟨ck,ck,fin _ (hg h' (by rw[e3];simp)) (fun g hm=>hg g (by rw[e3];exact Ko _ hm)) (by rw[e3,Jp];omega) rfl⟩)
 ·have e2:=BD hb e
  rw[e2,o9 (show tyD M1 (iX (.error x))=some "int" from rfl) (show eJ "int" "int" = some true from rfl)]
  refine⟨_,rfl,fun _=>⟨rfl,?_⟩,fun z=>JJ z⟩
  rw[V4 (show D.tup [D.non,D.vl [D.int (F8 x)]]=D.tup [D.non,D.vl [iX (Except.error x)]]from rfl),sD]
  exact k (near,bs,far) ps M1 ok hg (by omega) (dk.oth ((s1.keep d _ ndp dk.ob).trans dk.ob.symm) ((s1.keep l _ np dk.pa).trans dk.pa.symm)) (s1.keep q _ npq hq) s1.pool fun b o b1 b2 b3 b4 hb2=>s1.keep b o b4 hb2
theorem fH(T:Txt K mg w.params)(d:Df K mg "_law_pool" N9 ["cell"]):Fn P w K mg base "_law_pool" 1 ["cell"] jG:=by
 have sc:=eT
 refine y2 d sc (fun ds M R Y h=>?_) (fun f cdv A outer s H E ds M R Y hr h=>?_)
 ·obtain⟨c,rfl,_⟩:=h;rfl
 ·obtain⟨c,rfl,k⟩:=h
  refine⟨_,(d5 (d6 (J1 (a7 (f8 (AZ rfl) rfl T.b_max vq (a7 d3 (a7 (j3 dZ (a8 0) (j3 ed d3 d3)) a9))) (a7 (j3 ah (a8 0) (j3 ed d3 d3)) (a7 d3 a9)))))),?_⟩
  refine⟨_,rfl,_,_,rfl,rfl,FY,_,rfl,_,_,rfl,_,rfl,_,_,rfl,rfl,FY,_,_,rfl,rfl,(by show(0:Int)<10 ^ 18;decide),sl 3,fun p hp=>?_⟩
  exact k p _ hp (MK.new hp) ⟨_,_,_,d9⟩
theorem X6(T:Txt K mg w.params)(d:DfM K mg "Desk" "__init__" "Desk.__init__" E1 ["self"]):FnM P w K mg base "Desk" "__init__" 1 ["self"] sx:=by
 have sc:=W9
 refine Dk d sc (by walk_at "len") (fun f cdv A outer s H E ds M R Y hr h=>?_)
 have hu:=hr.units
 obtain⟨d,rfl,hd,k⟩:=h
 refine⟨_,(d4 (aS T.o_Desk T.n_Desk__hall (a8 0) (i8 (a7 (z5 rfl T.c_NOUGHT) (a7 (u6 a9) (a7 (z5 rfl T.c_NOUGHT) a9))))) (d5 (aS T.o_Desk T.n_Desk__past (a8 0) (J1 a9)))),?_⟩
 walk_at "sim"
 have r0:D.tup [g8 0,D.vl [],g8 0]=F7 hl0:=rfl
 refine gm hd (by decide) ?_
 rw[r0]
 walk_at "sim"
 refine fun l hl=>gm (fs:=[(Str.ofString "hall",F7 hl0)]) ?_ (by decide) ?_
 ·have ne:d≠l:=fun e=>by rw[← e,d9]at hl;cases hl
  rw[e7 ne,d9];rfl
 have ne:l≠d:=fun e=>by rw[e,d9]at hl;cases hl
 rw[sW,xc ne]
 exact k l (by rw[e7 ne]at hl;exact hl)
theorem CA{f:Addr}{fd:FuncData}(T:Txt K mg w.params)(d:yQ K "law" rZ f fd)(Hv:Fn P w K mg base "_law_said" 9 ["desk","row"] ic)(HG:Fn P w K mg base "_law_shows" 10 ["desk","state"] jN)(HP:Fn P w K mg base "_law_told" 10 ["desk","state","past","pool"] sh)(Hr:Fn P w K mg base "_law_next" 1 ["pool","base"] bO)(HQ:Fn P w K mg base "_law_pool" 1 ["cell"] jG)(HA:FnM P w K mg base "Desk" "__init__" 1 ["self"] sx):E8 P w K mg base CX0 11 f fd ["script"] (eA K mQ):=by
 have sc:=BB
 refine AB d sc (fun ds M R Y h=>by obtain⟨n,rfl,_⟩:=h;rfl) (fun cdv A outer s H E ds M R Y hr h=>?_)
 obtain⟨ns,rfl,hlen,k⟩:=h
 have hu:=hr.units
 refine⟨_,(d4 (jst 1 sc.nd (u6 (a7 (iQ HA T.m_Desk (hr.mono (by decide)) rfl) (a7 (iQ HA T.m_Desk (hr.mono (by decide)) rfl) a9)))) (d4 (jst 2 sc.nd (J1 (a7 (i8 (a7 (u6 a9) (a7 (i8 (a7 d3 (a7 d3 a9))) (a7 (i8 (a7 d3 (a7 d3 a9))) a9)))) (a7 (i8 (a7 (u6 a9) (a7 (i8 (a7 d3 (a7 d3 a9))) (a7 (i8 (a7 d3 (a7 d3 a9))) a9)))) a9)))) (d4 (jst 3 sc.nd (u6 (a7 (J1 a9) (a7 (J1 a9) a9)))) (d4 (U9 PassesOwn.never rfl (fM (P6 (u6 (a7 d3 a9)) (a8 0))) (jn 4 sc.nd) (d4 (jst 5 sc.nd (jc HQ hr (a7 (a8 4) a9))) (d4 (jst 6 sc.nd (j3 cq (jc Hr hr (a7 (a8 5) (a7 d3 a9))) d3)) (d4 (m5 (jc HP hr (a7 (jx (a8 1) (a8 6)) (a7 (jx (a8 2) (a8 6)) (a7 (jx (a8 3) (a8 6)) (a7 (a8 5) a9))))) (m9 (n:=2) rfl (d8 (jn 7 sc.nd) (d8 (jn 8 sc.nd) j8)))) (d4 (g5 (i6 (f9 (a8 7))) (d5 (d6 w6)) f7) (d4 (m5 (a8 8) (aT (a8 2) (a8 6))) (d5 (U9 PassesOwn.never rfl (fN rfl T.b_range (a7 d3 a9)) (jn 9 sc.nd) (d5 (g5 (i6 (f9 (jc HG hr (a7 (jx (a8 1) (a8 9)) (a7 (jx (a8 2) (a8 9)) a9))))) (d5 (d6 w6)) f7)))))))))) (d4 (U9 PassesOwn.never rfl (fN rfl T.b_range (a7 d3 a9)) (jn 6 sc.nd) (d4 (U9 PassesOwn.never rfl (tX rfl T.b_reversed ao (a7 (fP (jx (a8 3) (a8 6))) a9)) (jn 8 sc.nd) (d5 (g5 (t4 (o6 (jtm (tK hu) (jc Hv hr (a7 (jx (a8 1) (a8 6)) (a7 e6 a9))) (i8 (a7 e6 (a7 (u6 a9) a9)))) (m8 (i6 (f9 (jc HG hr (a7 (jx (a8 1) (a8 6)) (a7 (a8 8) a9)))))))) (d5 (d6 w6)) f7))) (d5 (g5 (jtm (tK hu) (jc Hv hr (a7 (jx (a8 1) (a8 6)) (a7 e6 a9))) (i8 (a7 Y2 (a7 (u6 (a7 d3 a9)) a9)))) (d5 (d6 w6)) f7)))) (d5 (d6 w6))))))),?_⟩
 walk_at "sim"
 refine fun d0 f0=>⟨d9,fun l0 f1 d1 f2=>⟨d9,fun l1 f3 st f4 q0 f5 q1 f6=>?_⟩⟩
 have n1:l0≠d0:=fun e=>by rw[e,d9]at f1;cases f1
 obtain⟨la,ap⟩:=ph (M1:=j9 (j9 (j9 M d0 (.ins (Str.ofString "Desk") [])) l0 (.lst [])) d0 (.ins (Str.ofString "Desk") [(Str.ofString "hall",F7 hl0),(Str.ofString "past",.ref l0)])) d9 (by rw[e7 n1,d9]) f2 f3 rfl f4 rfl f5 rfl f6
 have s0:D.tup [D.vl [],g8 0,g8 0]=stD hl0:=rfl
 rw[s0]
 generalize j9 _ q1 (MO.lst [])=M0 at la ⊢
 clear f0 f1 f2 f3 f4 f5 f6 n1
 rw[u9 (by rw[IW];omega)]
 generalize hdD:two d0 d1=DD at la ap
 generalize hlL:two l0 l1=LL at la ap
 generalize hqQ:two q0 q1=QQ at la ap
 have gd:∀ k:Nat,k<2→atI [D.ref d0,D.ref d1] (k:Int)=some (.ref (DD k)):=fun k hk=>by rw[oj hk,hdD]
 have gq:∀ k:Nat,k<2→atI [D.ref q0,D.ref q1] (k:Int)=some (.ref (QQ k)):=fun k hk=>by rw[oj hk,hqQ]
 refine kI.by (fun i e M=>∃(H:Nat→Hl) (P:Nat→List Hl) (x4 x5 x6 x7 x8 x9:Option D),aq M DD LL QQ st H P i∧e=[some (D.vl (Kx D.int ns)),some (D.vl [D.ref d0,D.ref d1]),some (D.ref st),some (D.vl [D.ref q0,D.ref q1]),x4,x5,x6,x7,x8,x9]) ⟨_,_,_,_,_,_,_,_,la,rfl⟩ (fun i e M' _ _=>by simp only[D3]) ?_ ?_
 ·rintro i dd e M1 hd ⟨H,P,x4,x5,x6,x7,x8,x9,la,rfl⟩
  have hi:i<64:=by
   have:=(Jm.mp hd).1
   rw[Jv,IW]at this;omega
  obtain⟨n,rfl⟩:∃ n:Int,dd = .int n:=by
   have hm:=JC hd
   rcases Jj.mp hm with rfl|hm
   ·exact⟨0,rfl⟩
   ·obtain⟨n,_,rfl⟩:=Ma.mp hm
    exact⟨n,rfl⟩
  walk_at "sim"
  refine fun p M2 hp mk hP=>⟨hP,by decide,fun r M3 r0 r3 s3=>?_⟩
  have nst:∀{b o},M1 b=some o→b≠p:=fun{b o} e z=>by rw[z,hp]at e;cases e
  have la3:=la.keep (fun b o e=>s3.keep b o (nst e) (mk b o e))
  obtain⟨k2,hk2,ek⟩:∃ k:Nat,k<2∧r.fdiv 2=(k:Int):=by
   rcases(show r=0∨r=1∨r=2 by omega)with rfl|rfl|rfl
   ·exact⟨0,by decide,by decide⟩
   ·exact⟨0,by decide,by decide⟩
   ·exact⟨1,by decide,by decide⟩
  rw[ek]
  refine⟨⟨by decide,by decide⟩,_,gd k2 hk2,_,C1 la3.ss (vw hk2),_,gq k2 hk2,?_⟩
  have lo:=la3.ok k2 hk2
  refine⟨DD k2,(H k2).2.1,(H k2).1,(H k2).2.2,QQ k2,p,rfl,P k2,LL k2,⟨la3.dk k2 hk2,lo.1,by omega,lo.2.2,la3.qs k2 hk2,s3.pool,ap.lq k2 k2 hk2 hk2,nst (la.dk k2 hk2).pa⟩,fun h' ps' M4 ok' og hl' dk' hq' hp' kp=>?_⟩
  obtain⟨ss4,la4⟩:=la3.step ap hk2 s3.pool ok' og hl' dk' hq' kp (fun j hj=>nst (la.dk j hj).pa) (nst la.ss)
  walk_at "sim"
  refine oq ss4 (by show k2<2;exact hk2) ⟨by decide,?_⟩
  generalize j9 M4 st _=M5 at la4 ⊢
  generalize (fun j=>if j=k2 then h' else H j)=H' at la4
  generalize (fun j=>if j=k2 then ps' else P j)=P' at la4
  refine kI.by (fun j e M=>M=M5∧∃ x9:Option D,e=[some (D.vl (Kx D.int ns)),some (D.vl [D.ref d0,D.ref d1]),some (D.ref st),some (D.vl [D.ref q0,D.ref q1]),some (D.int n),some (D.ref p),some (D.int (k2:Int)),some (D.bl true),some (stD h'),x9]) ⟨rfl,_,rfl⟩ (fun _ _ _ _ _=>trivial) ?_ ?_
  ·rintro j dj e M6 hj ⟨rfl,x9,rfl⟩
   obtain⟨hj2,rfl⟩:=dU hj
   have hj2:j<2:=hj2
   rw[Int.zero_add]
   walk_at "sim"
   have lo4:=la4.ok j hj2
   exact⟨_,gd j hj2,_,C1 la4.ss (vw hj2),DD j,(H' j).2.1,(H' j).1,(H' j).2.2,rfl,P' j,LL j,la4.dk j hj2,lo4.1,by omega,_,rfl,fun z=>JJ z,fun _=>⟨rfl,_,rfl⟩⟩
  ·rintro e M6 ⟨rfl,x9,rfl⟩
   exact⟨H',P',_,_,_,_,_,_,la4,rfl⟩
 ·rintro e M1 ⟨H,P,x4,x5,x6,x7,x8,x9,la,rfl⟩
  walk_at "sim"
  refine⟨by decide,?_⟩
  have lok:∀ j,j<2→E3 (H j)∧(P j).length≤64∧∀ g∈P j,E3 g:=fun j hj=>by
   have:=la.ok j hj
   rw[Jv,IW]at this
   exact⟨this.1,by omega,this.2.2⟩
  refine kI.by (fun j e M=>pT M DD LL QQ H P j∧∃ x6 x8:Option D,e=[some (D.vl (Kx D.int ns)),some (D.vl [D.ref d0,D.ref d1]),some (D.ref st),some (D.vl [D.ref q0,D.ref q1]),x4,x5,x6,x7,x8,x9]) ⟨fun j _ hj=>⟨la.dk j hj,la.qs j hj⟩,_,_,rfl⟩ (fun _ _ _ _ _=>trivial) ?_ ?_
  ·rintro j dj e M2 hj ⟨rs,x6,x8,rfl⟩
   obtain⟨hj2,rfl⟩:=dU hj
   have hj2:j<2:=hj2
   rw[Int.zero_add]
   obtain⟨dk,dq⟩:=rs j (Ja _) hj2
   have ok:=lok j hj2
   walk_at "sim"
   refine⟨_,gq j hj2,⟨QQ j,_,rfl,dq,?_⟩⟩
   walk_at "sim"
   have nqd:=(C3 dk.ob dq)
   have nql:=ap.lq j j hj2 hj2
   have rs1:pT (Y9 M2 (QQ j)) DD LL QQ H P (j+1):=fun i h1 h2=>by
    obtain⟨a,b⟩:=rs i (by omega) h2
    exact⟨a.oth (A9 (C3 a.ob dq)) (A9 (ap.lq i j h2 hj2)),by rw[A9 (W3 ap.qq h2 hj2 (by omega))];exact b⟩
   refine kI.by (fun i e M=>∃(h:Hl) (x8:Option D),y1 M (DD j) (LL j) h ((P j).take ((P j).length - i))∧E3 h∧pT M DD LL QQ H P (j+1)∧e=[some (D.vl (Kx D.int ns)),some (D.vl [D.ref d0,D.ref d1]),some (D.ref st),some (D.vl [D.ref q0,D.ref q1]),x4,x5,some (D.int (j:Int)),x7,x8,x9]) ⟨H j,_,by rw[LY,Kf];exact dk.oth (A9 nqd) (A9 nql),ok.1,rs1,rfl⟩ (fun _ _ _ _ _=>trivial) ?_ ?_
   ·rintro i di e M3 hi ⟨h,x8,dk3,okh,rs3,rfl⟩
    have hil:i<(P j).length:=by
     have:=(Jm.mp hi).1
     rw[JU,IW]at this;exact this
    obtain⟨g,g1,g2,g3⟩:=oH (P:=P j) rfl hil
    rw[Lv (by rw[IW];exact hil),IW,Ju,g1]at hi
    obtain rfl:stD g=di:=Option.some.inj hi
    rw[g2]at dk3
    have okg:=ok.2.2 g g3
    have ln:((P j).take ((P j).length - (i+1))).length≤64:=by rw[Jw];omega
    walk_at "sim"
    refine⟨_,gd j hj2,DD j,Str.ofString "back",rfl,.back,h,_,LL j,rfl,trivial,okh,by rw[Jp];show _+1≤_;omega,dk3,fun a h' ps' e M4 dk4 ot=>?_,fun x e=>by rw[P1]at e;cases e⟩
    rw[P1]at e
    cases e
    have ck:cl 60 (D.tup [D.str (Str.ofString "ok"),D.vl []])=true:=by decide +kernel
    have ck2:cl 59 (D.str (Str.ofString "ok"))=true:=by decide +kernel
    refine⟨ck,ck2,fun z=>absurd rfl z,fun _=>⟨_,gd j hj2,DD j,g.2.1,g.1,g.2.2,rfl,_,LL j,dk4,okg,by omega,_,rfl,fun z=>JJ z,fun _=>⟨g,_,dk4,okg,rs3.oth ap hj2 dk3 ot,rfl⟩⟩⟩
   ·rintro e M3 ⟨h,x8,dk3,okh,rs3,rfl⟩
    rw[JU,IW,Nat.sub_self,KZ]at dk3
    walk_at "sim"
    refine⟨_,gd j hj2,DD j,Str.ofString "back",rfl,.back,h,[],LL j,rfl,trivial,okh,Jx _,dk3,(fun a h' ps' e=>by rw[eW]at e;cases e),fun x e=>?_⟩
    rw[eW]at e
    cases e
    rw[AU]
    exact⟨rfl,fun z=>absurd rfl z,fun _=>⟨rs3,_,_,rfl⟩⟩
  ·rintro e M2 ⟨rs,x6,x8,rfl⟩
   walk_at "sim"
   exact k _
end
end K59
namespace K59
open PySem PySem.Spec L2 DL GM
theorem DI{P:Program}{w:World}{K:IT}{mg:Str→Option Value}{fa:Addr}(T:Txt K mg w.params)(hfa:mg "law" = some (.ref fa))(Ih:Df K mg "whole_text" K2 ["number"])(IK:Df K mg "divisor" X2 ["one","other"])(ID:Df K mg "is_whole" R3 ["thing"])(IE:Df K mg "is_ratio" R4 ["thing"])(Ii:Df K mg "ratio_text" K5 ["one"])(IF:Df K mg "may_have" R0 ["word","number"])(IL:Df K mg "is_part" X1 ["thing"])(Iq:Df K mg "part_text" N4 ["part"])(Ij:Df K mg "bench_text" K6 ["bench"])(HZ:Df K mg "bench_answer" F1 ["bench","question","values"])(Ia:Df K mg "are_figures" G8 ["text"])(Ik:Df K mg "read_whole" K3 ["text"])(Il:Df K mg "read_ratio" K4 ["text"])(Ib:Df K mg "read_number" G6 ["text"])(Ir:Df K mg "read_word" N2 ["form","text"])(IG:Df K mg "read_row" Q9 ["row"])(Iu:Df K mg "hall_text" N5 ["hall"])(Ie:Df K mg "hall_answer" G7 ["hall","question","values"])(HW:DfM K mg "Desk" "take_back" "Desk.take_back" C5 ["self"])(Iv:Df K mg "part_with" N3 ["word","number"])(IM:Df K mg "part_of" X0 ["bench","k"])(IQ:Df K mg "put" rY ["bench","word","number"])(HX:Df K mg "changed_bench" D9 ["bench","deed","values"])(IP:Df K mg "changed" X3 ["hall","deed","values"])(IH:DfM K mg "Desk" "say" "Desk.say" R7 ["self","row"])(Iw:Df K mg "_law_said" N8 ["desk","row"])(Iy:Df K mg "_law_text" N7 ["one"])(HU:Df K mg "_law_bench_text" B7 ["bench"])(Im:Df K mg "_law_shows" K7 ["desk","state"])(II:Df K mg "_law_may" R6 ["word","number"])(IJ:Df K mg "_law_put" R5 ["state","word","number"])(Iz:Df K mg "_law_next" O0 ["pool","base"])(Io:Df K mg "_law_ratio" K8 ["top","bottom"])(Ig:Df K mg "_law_number" G9 ["pool"])(IA:Df K mg "_law_deed" O1 ["pool","state","past"])(IB:Df K mg "_law_told" N6 ["desk","state","past","pool"])(IC:Df K mg "_law_pool" N9 ["cell"])(HY:DfM K mg "Desk" "__init__" "Desk.__init__" E1 ["self"])(IS:DfL K mg "law" rZ ["script"]) :
  ∃ fd:FuncData,(∀(s:Shared) (u:Value),BindsTo s fd ⟨[u],[]⟩ [("script",u)])∧∀ base:Heap,E8 P w K mg base CX0 11 fa fd ["script"] (eA K mQ):=by
 obtain⟨f,fd,F,hm,hb⟩:=IS.ex
 have e:f=fa:=by rw[hm]at hfa;injection hfa with z;injection z
 subst e
 refine⟨fd,fun s u=>.of_eq (hb [u] rfl),fun base=>?_⟩
 have HB:=cX (P:=P) (w:=w) (base:=base) T Ih
 have Hw:=ka (P:=P) (w:=w) (base:=base) T IK
 have Hq:=iD (P:=P) (w:=w) (base:=base) T ID
 have Hu:=iE (P:=P) (w:=w) (base:=base) T IE Hw Hq
 have Hx:=cZ (P:=P) (w:=w) (base:=base) T Ii HB Hu
 have HC:=iC (P:=P) (w:=w) (base:=base) T IF
 have HV:=jZ (P:=P) (w:=w) (base:=base) T IL HC Hu
 have HK:=fA (P:=P) (w:=w) (base:=base) T Iq Hx HV
 have Hz:=dc (P:=P) (w:=w) (base:=base) T Ij HK
 have HH:=av (P:=P) (w:=w) (base:=base) T HZ Hz
 have HE:=cm (P:=P) (w:=w) (base:=base) T Ia
 have Hs:=cY (P:=P) (w:=w) (base:=base) T Ik HE
 have GX_read_ratio:=cg (P:=P) (w:=w) (base:=base) T Il Hu Hs
 have HI:=cj (P:=P) (w:=w) (base:=base) T Ib GX_read_ratio
 have HL:=fw (P:=P) (w:=w) (base:=base) T Ir HI
 have HR:=iB (P:=P) (w:=w) (base:=base) T IG HL
 have HM:=fD (P:=P) (w:=w) (base:=base) T Iu Hx Hz
 have GX_hall_answer:=au (P:=P) (w:=w) (base:=base) T Ie HM
 have GX_Desk_take_back:=R8 (P:=P) (w:=w) (base:=base) T HW
 have GX_part_with:=cW (P:=P) (w:=w) (base:=base) T Iv HC
 have GX_part_of:=ix (P:=P) (w:=w) (base:=base) T IM
 have GX_put:=xO (P:=P) (w:=w) (base:=base) T IQ GX_part_with
 have GX_changed_bench:=U8 (P:=P) (w:=w) (base:=base) T HX GX_part_with GX_part_of GX_put
 have GX_changed:=iy (P:=P) (w:=w) (base:=base) T IP GX_changed_bench
 have GX_Desk_say:=fu (P:=P) (w:=w) (base:=base) T IH HH HR GX_hall_answer GX_Desk_take_back GX_changed
 have Hv:=fG (P:=P) (w:=w) (base:=base) T Iw GX_Desk_say
 have Ht:=fF (P:=P) (w:=w) (base:=base) T Iy
 have Hy:=R9 (P:=P) (w:=w) (base:=base) T HU Ht
 have HG:=de (P:=P) (w:=w) (base:=base) T Im Hv Ht Hy
 have HD:=iG (P:=P) (w:=w) (base:=base) T II
 have HS:=iF (P:=P) (w:=w) (base:=base) T IJ HD
 have Hr:=fJ (P:=P) (w:=w) (base:=base) T Iz
 have HF:=df (P:=P) (w:=w) (base:=base) T Io
 have HJ:=cp (P:=P) (w:=w) (base:=base) T Ig HF Hr
 have HN:=fK (P:=P) (w:=w) (base:=base) T IA Ht HD HS Hr HJ
 have HP:=fE (P:=P) (w:=w) (base:=base) T IB Hv HN
 have HQ:=fH (P:=P) (w:=w) (base:=base) T IC
 have HA:=X6 (P:=P) (w:=w) (base:=base) T HY
 exact CA T F Hv HG HP Hr HQ HA
theorem Gm{l:PySem.W.OpenLaw}{q:Program}{loose:List Str}{XP:(Str→Option Value)→Heap→Prop}{YP:World→Heap→Prop}{d:DefRec}{K:Params→IT}(hn:l.most=some 63)(hdf:d.params.defaults=[])
  (hY:∀(w:World) (h:Heap),YP w h→(K w.params).In h)
  (F:∀(w:World) (mg:Str→Option Value) (fa:Addr) (h:Heap),(K w.params).In h→h.Ns mainGlobals mg→mg d.name=some (.ref fa) →
   ∃ fd:FuncData,(∀(s:Shared) (u:Value),BindsTo s fd ⟨[u],[]⟩ [("script",u)])∧∀ base:Heap,E8 l.prog w (K w.params) mg base CX0 11 fa fd ["script"] (eA (K w.params) mQ)) :
  PySem.W.WalkO q loose XP YP l.row.toRowW d [] (fun f vs=>PySem.call f vs) :=
 L2.rz (n:=63) (k:=11) (x := "script") (CX:=CX0) (sp:=fun K=>eA K mQ) hn (by decide) hdf ⟨rfl,by decide,by decide⟩ hY (fun w mg fa h a b c=>let ⟨fd,h1,h2⟩:=F w mg fa h a b c;⟨fd,h1,fun base _ _=>h2 base⟩)
  (fun K H a ns hl hO hS=>CM hO hS ⟨ns,rfl,hl,fun _=>rfl⟩) fun _ _ _ _ z=>z
end K59
namespace PySem.W.Fast
theorem te13771221501339715053:True:=trivial
theorem tw9204265922540883096:True:=⟨⟩
theorem tw15922737300260133407:True:=⟨⟩
theorem tw663662750654895846:True:=⟨⟩
theorem tw11944671277854235803:True:=⟨⟩
theorem tw6370316536613745373:True:=⟨⟩
theorem tw8414124193287886642:True:=⟨⟩
theorem tw2774086632443415075:True:=⟨⟩
theorem tw3471497144951202861:True:=⟨⟩
theorem tw11805444145808546664:True:=⟨⟩
theorem tw1711348096008799084:True:=⟨⟩
theorem tw12522842484396530785:True:=⟨⟩
theorem tw14358430130249458672:True:=⟨⟩
theorem tw8913725716603395919:True:=⟨⟩
theorem tw9851213018462187400:True:=⟨⟩
theorem tw2822289147352775391:True:=⟨⟩
theorem tw18401074709691490548:True:=⟨⟩
theorem tw8123236868622313732:True:=⟨⟩
theorem tw2479429004098446200:True:=⟨⟩
theorem tw7186824682212392468:True:=⟨⟩
theorem tw11405814452291053651:True:=⟨⟩
theorem tw2664057912360870788:True:=⟨⟩
theorem tw3015853942376770128:True:=⟨⟩
theorem tw8746457750947714133:True:=⟨⟩
theorem tw266601244444960285:True:=⟨⟩
theorem tw16927091346491752455:True:=⟨⟩
theorem tw11719597156560435495:True:=⟨⟩
theorem tw9369755539836867248:True:=⟨⟩
theorem tw3951089667574272357:True:=⟨⟩
theorem tw395063854465375606:True:=⟨⟩
theorem tw4651370632890155458:True:=⟨⟩
theorem tw321621545636964046:True:=⟨⟩
theorem tw15627349599952433354:True:=⟨⟩
theorem tw13380183805154313623:True:=⟨⟩
theorem tw3604911499890223749:True:=⟨⟩
theorem tw11201018160330397493:True:=⟨⟩
theorem tw3361974639426094475:True:=⟨⟩
theorem tw4644271033040321900:True:=⟨⟩
theorem tw10701492012717622993:True:=⟨⟩
theorem tw1834563236471142715:True:=⟨⟩
theorem tw10400273716689128390:True:=⟨⟩
theorem tw13299238773474269783:True:=⟨⟩
theorem tw8100617820668166505:True:=⟨⟩
theorem tw14017084975738724393:True:=⟨⟩
theorem tw14089564620223412399:True:=⟨⟩
theorem tw3059904041935122765:True:=⟨⟩
theorem tw6621557607429606163:True:=⟨⟩
theorem tw1853970717886718364:True:=⟨⟩
theorem tw5976477073662368843:True:=⟨⟩
theorem tw15472844567892770140:True:=⟨⟩
theorem tw2137005540035829120:True:=⟨⟩
theorem tw6117330746166733904:True:=⟨⟩
theorem tw682133689859258661:True:=⟨⟩
theorem tw10558029423032809243:True:=⟨⟩
theorem tw8665996901637537744:True:=⟨⟩
theorem tw6332631067116883829:True:=⟨⟩
theorem tw8722917988599374642:True:=⟨⟩
theorem tw9116406838716220815:True:=⟨⟩
theorem tw295323787943970295:True:=⟨⟩
theorem tw7838479578662542727:True:=⟨⟩
theorem tw11062866515468638710:True:=⟨⟩
theorem tw10952122689438118279:True:=⟨⟩
theorem tw13037500425272803091:True:=⟨⟩
theorem tw16510062284880146822:True:=⟨⟩
theorem tw12160502546307386238:True:=⟨⟩
theorem tw3322690748408593859:True:=⟨⟩
theorem tw2007254048134581742:True:=⟨⟩
theorem tw4382766234628608726:True:=⟨⟩
theorem tw6837826255410738022:True:=⟨⟩
theorem tw8842239826592545104:True:=⟨⟩
theorem tw11562277790867710688:True:=⟨⟩
theorem tw10137388720650294776:True:=⟨⟩
theorem tw14726541395206301165:True:=⟨⟩
theorem tw9624526173286549043:True:=⟨⟩
theorem tw14415809507138120841:True:=⟨⟩
theorem tw18292667219742242058:True:=⟨⟩
theorem tw13619414786562548325:True:=⟨⟩
theorem tw2771066490711247882:True:=⟨⟩
theorem tw2286598797810519246:True:=⟨⟩
theorem tw9086299361634199005:True:=⟨⟩
theorem tw18096223418100477349:True:=⟨⟩
theorem tw15396172566394327692:True:=⟨⟩
theorem tw1085707776642843643:True:=⟨⟩
theorem tw16637230861967655945:True:=⟨⟩
theorem tw14418183427741363234:True:=⟨⟩
theorem tw12826124870112555855:True:=⟨⟩
theorem tw17292268890031918216:True:=⟨⟩
theorem tw8283181898726029660:True:=⟨⟩
theorem tw2660869045134316236:True:=⟨⟩
theorem tw17316962133115026065:True:=⟨⟩
theorem tw13846220591577008404:True:=⟨⟩
theorem tw9865608295524225455:True:=⟨⟩
theorem tw13588849650748001919:True:=⟨⟩
theorem tw4006872633661523734:True:=⟨⟩
theorem tw11031432172524519951:True:=⟨⟩
theorem tw14466483999165475981:True:=⟨⟩
theorem tw12072134410655121256:True:=⟨⟩
theorem tw13900893418636089498:True:=⟨⟩
theorem tw18191066382925337544:True:=⟨⟩
theorem tw1892162632922211621:True:=⟨⟩
theorem tw17467042342448896267:True:=⟨⟩
theorem tw3072265903858403234:True:=⟨⟩
theorem tw2823475912007995464:True:=⟨⟩
theorem tw87678510798373419:True:=⟨⟩
theorem tw15750397691162879944:True:=⟨⟩
theorem tw8361595070058248196:True:=⟨⟩
theorem tw13658916340912647549:True:=⟨⟩
theorem tw6411252521410544896:True:=⟨⟩
theorem tw10066794917563860824:True:=⟨⟩
theorem tw2715672363030695251:True:=⟨⟩
theorem tw12114741190900119935:True:=⟨⟩
theorem tw896755516138775233:True:=⟨⟩
theorem tw6442006732196864281:True:=⟨⟩
theorem tw7645910316888566636:True:=⟨⟩
theorem tw1456472553930820936:True:=⟨⟩
theorem tw11071763638337432265:True:=⟨⟩
theorem tw558444851630168335:True:=⟨⟩
theorem tw14765723549717193235:True:=⟨⟩
theorem tw3913995283492638845:True:=⟨⟩
theorem tw16883812171010295265:True:=⟨⟩
theorem tw15464711390909838650:True:=⟨⟩
theorem tw4291503770920464829:True:=⟨⟩
theorem tw11566235653586715661:True:=⟨⟩
theorem tw10655538552868855523:True:=⟨⟩
theorem tw2936216218525480002:True:=⟨⟩
theorem tw13127553640793871346:True:=⟨⟩
theorem tw7489072085057923865:True:=⟨⟩
theorem tw17930449806092990111:True:=⟨⟩
theorem tw17077433754743607055:True:=⟨⟩
theorem tw5862048970718184589:True:=⟨⟩
theorem tw13724838287593147015:True:=⟨⟩
theorem tw15835325456719571179:True:=⟨⟩
theorem tw9859513377440564734:True:=⟨⟩
theorem tw3041098214395177432:True:=⟨⟩
theorem tw15301095222310157778:True:=⟨⟩
theorem tw7159259370634212066:True:=⟨⟩
theorem tw1321979323640883068:True:=⟨⟩
theorem tw7445065052888279661:True:=⟨⟩
theorem tw10271151911890179569:True:=⟨⟩
theorem tw9959897010105745967:True:=⟨⟩
theorem tw10433723716446854552:True:=⟨⟩
theorem tw934016470231499039:True:=⟨⟩
theorem tw13588389504735090818:True:=⟨⟩
theorem tw4664503495296198422:True:=⟨⟩
theorem tw11661683283234905073:True:=⟨⟩
theorem tw8427208781209101703:True:=⟨⟩
theorem tw2798333201131292212:True:=⟨⟩
theorem tw7766827839105446854:True:=⟨⟩
theorem tw5871512108699240:True:=⟨⟩
theorem tw16883115538122128477:True:=⟨⟩
theorem tw8887416602701739151:True:=⟨⟩
theorem tw8765194894935901028:True:=⟨⟩
theorem tw8405720742659771907:True:=⟨⟩
theorem tw13459840733541094925:True:=⟨⟩
theorem tw15487086154685127987:True:=⟨⟩
theorem tw3128266061672823514:True:=⟨⟩
theorem tw11285668344670647128:True:=⟨⟩
theorem tw12262601557519221263:True:=⟨⟩
theorem tw14360698400162943828:True:=⟨⟩
theorem tw18213692418411886019:True:=⟨⟩
theorem tw2124759470637177184:True:=⟨⟩
theorem tw11211337139939910788:True:=⟨⟩
theorem tw7791700947801451561:True:=⟨⟩
theorem tw7593597596764639640:True:=⟨⟩
theorem tw10306971794111456945:True:=⟨⟩
theorem tw3231828562508941540:True:=⟨⟩
theorem tw15149678803747173848:True:=⟨⟩
theorem tw13882817939149635631:True:=⟨⟩
theorem tw6896392861405177186:True:=⟨⟩
theorem tw2277644489840041331:True:=⟨⟩
theorem tw14345095685423555574:True:=⟨⟩
theorem tw2954846728078787237:True:=⟨⟩
theorem tw9791281787342509303:True:=⟨⟩
theorem tw36367170354499963:True:=⟨⟩
theorem tw13283741175229486218:True:=⟨⟩
theorem tw7727102885823506140:True:=⟨⟩
theorem tw7725239588894014712:True:=⟨⟩
theorem tw14331141465801991061:True:=⟨⟩
theorem tw3036483931182290660:True:=⟨⟩
theorem tw5422489018311886174:True:=⟨⟩
theorem tw8335438431313755585:True:=⟨⟩
theorem tw14452777242132817460:True:=⟨⟩
theorem tw10507041512313245169:True:=⟨⟩
theorem tw17960899777598770146:True:=⟨⟩
theorem tw4975565365009554429:True:=⟨⟩
theorem tw12711505451391518161:True:=⟨⟩
theorem tw17459799732365000172:True:=⟨⟩
theorem tw12887252747364274360:True:=⟨⟩
theorem tw5023976074693226527:True:=⟨⟩
theorem tw15421929380203028442:True:=⟨⟩
theorem tw2028036506762948144:True:=⟨⟩
theorem tw17191752746046678721:True:=⟨⟩
theorem tw17796466295547047224:True:=⟨⟩
theorem tw15592438582974413466:True:=⟨⟩
theorem tw12703738125344959749:True:=⟨⟩
theorem tw6759970940901167374:True:=⟨⟩
theorem tw14078314491496092525:True:=⟨⟩
theorem tw7085656517142045922:True:=⟨⟩
theorem tw573881712403529096:True:=⟨⟩
theorem tw6695727345679919430:True:=⟨⟩
theorem tw2867413853284096776:True:=⟨⟩
theorem tw11556285817516824774:True:=⟨⟩
theorem tw5092688119741406975:True:=⟨⟩
theorem tw12731109189639066583:True:=⟨⟩
theorem tw11326731940350747327:True:=⟨⟩
theorem tw9176378843808115835:True:=⟨⟩
theorem tw14495769921722300806:True:=⟨⟩
theorem tw11375600937702768578:True:=⟨⟩
theorem tw9362813604497575931:True:=⟨⟩
theorem tw1279033476379408071:True:=⟨⟩
theorem tw13306796554599133304:True:=⟨⟩
theorem tw2751884715327563244:True:=⟨⟩
theorem tw8465156731295981341:True:=⟨⟩
theorem tw5287466587186954512:True:=⟨⟩
theorem tw17594356459002478094:True:=⟨⟩
theorem tw6682744080645970374:True:=⟨⟩
theorem tw17185233369394725604:True:=⟨⟩
theorem tw3954605151635421248:True:=⟨⟩
theorem tw7585770012401023911:True:=⟨⟩
theorem tw7551660976004201311:True:=⟨⟩
theorem tw5637176928539266624:True:=⟨⟩
theorem tw552334003130294561:True:=⟨⟩
theorem tw2508860245978188662:True:=⟨⟩
theorem tw11927587191295403175:True:=⟨⟩
theorem tw6602075491599169011:True:=⟨⟩
theorem tw9020209386137136539:True:=⟨⟩
theorem tw5427637055378509528:True:=⟨⟩
theorem tw15145487042763727281:True:=⟨⟩
theorem tw15811785758835884830:True:=⟨⟩
theorem tw4215833149465549293:True:=⟨⟩
theorem tw3505858339142261105:True:=⟨⟩
theorem tw1490322983935787718:True:=⟨⟩
theorem tw12805961873607429481:True:=⟨⟩
theorem tw12768379267659646822:True:=⟨⟩
theorem tw12106411705291491757:True:=⟨⟩
theorem tw17541111727466666542:True:=⟨⟩
theorem tw4228879358607126068:True:=⟨⟩
theorem tw16059155796793744344:True:=⟨⟩
theorem tw432165555582656716:True:=⟨⟩
theorem tw6350018441700501976:True:=⟨⟩
theorem tw16150137225503259646:True:=⟨⟩
theorem tw6032861003639054422:True:=⟨⟩
theorem tw6370517332217686260:True:=⟨⟩
theorem tw4308284865939366091:True:=⟨⟩
theorem tw14288429162038069604:True:=⟨⟩
theorem tw6577254769260531820:True:=⟨⟩
theorem tw7677290037521397556:True:=⟨⟩
theorem tw5203349812140136591:True:=⟨⟩
theorem tw13234446378838480930:True:=⟨⟩
theorem tw3578551615274092429:True:=⟨⟩
theorem tw7310352827633508626:True:=⟨⟩
theorem tw4711711942641677555:True:=⟨⟩
theorem tw12025371343788520550:True:=⟨⟩
theorem tw1420807161915205325:True:=⟨⟩
theorem tw15738951564117860167:True:=⟨⟩
theorem tw11587404972545358629:True:=⟨⟩
theorem tw14328045792162301020:True:=⟨⟩
theorem tw2436812271875443039:True:=⟨⟩
theorem tw7762801494525714270:True:=⟨⟩
theorem tw14238303582660743633:True:=⟨⟩
theorem tw10069681002279378347:True:=⟨⟩
theorem tw915004167636924193:True:=⟨⟩
theorem tw1729061412103830475:True:=⟨⟩
theorem tw5249548761682292199:True:=⟨⟩
theorem tw7965687812569824367:True:=⟨⟩
theorem tw3553301041716024081:True:=⟨⟩
theorem tw16812527650733630818:True:=⟨⟩
theorem tw10585067084273671746:True:=⟨⟩
theorem tw12968051181162927316:True:=⟨⟩
theorem tw8702285304856991991:True:=⟨⟩
theorem tw12695949430147404901:True:=⟨⟩
theorem tw2751041746332857550:True:=⟨⟩
theorem tw2351040168102401537:True:=⟨⟩
theorem tw17564542872713578370:True:=⟨⟩
theorem tw15225827489468931313:True:=⟨⟩
theorem tw15908664264538991975:True:=⟨⟩
theorem tw16530872389568391021:True:=⟨⟩
theorem tw14571363394609428369:True:=⟨⟩
theorem tw11994044865384170129:True:=⟨⟩
theorem tw15472581840037105428:True:=⟨⟩
theorem tw1858311896889721967:True:=⟨⟩
theorem tw8944408401404990922:True:=⟨⟩
theorem tw16968973379015454556:True:=⟨⟩
theorem tw5963514908436376833:True:=⟨⟩
theorem tw15852042063604753780:True:=⟨⟩
theorem tw15241484405064884396:True:=⟨⟩
theorem tw1319588699524783687:True:=⟨⟩
theorem tw1891453411723521321:True:=⟨⟩
theorem tw11910422783159725656:True:=⟨⟩
theorem tw2678138346426099782:True:=⟨⟩
theorem tw6351232799441572562:True:=⟨⟩
theorem tw5922929927865723415:True:=⟨⟩
theorem tw4513500302327301717:True:=⟨⟩
theorem tw2911091029671856937:True:=⟨⟩
theorem tw4078056134884553947:True:=⟨⟩
theorem tw8413481601456232486:True:=⟨⟩
theorem tw12258428204232378060:True:=⟨⟩
end PySem.W.Fast
open PySem PySem.W PyProof.Rows
set_option maxRecDepth 100000 in
set_option maxHeartbeats 0 in
theorem PySem.Challenge.cw_roundglass_k59_desk_keeps_holds : PySem.Challenge.rw_roundglass_k59_desk_keeps.Holds := by
 w_on;o_law;k_head;(case hw=>w_witness2)
 k_fill
 refine K59.Gm (l:=PySem.Challenge.rw_roundglass_k59_desk_keeps) rfl rfl (fun w h Y=>PySem.W.kIn_of Y) ?F
 case F =>
  intro w mg fa h KX G hmg
  refine' K59.DI ⟨PySem.W.mg_none_of KX G ?z_ValueError,PySem.W.mg_none_of KX G ?z_abs,PySem.W.mg_none_of KX G ?z_any,PySem.W.mg_none_of KX G ?z_bool,PySem.W.mg_none_of KX G ?z_divmod,PySem.W.mg_none_of KX G ?z_int,PySem.W.mg_none_of KX G ?z_isinstance,PySem.W.mg_none_of KX G ?z_len,PySem.W.mg_none_of KX G ?z_list,PySem.W.mg_none_of KX G ?z_max,PySem.W.mg_none_of KX G ?z_range,PySem.W.mg_none_of KX G ?z_reversed,PySem.W.mg_none_of KX G ?z_str,PySem.W.mg_none_of KX G ?z_tuple,PySem.W.mg_none_of KX G ?z_zip,DL.EV _,DL.yC ?o_Desk_h0 ?o_Desk_h1 ?o_Desk_h2 ?o_Desk_h3 ?o_Desk_h4,DL.tQ ?n_Desk__hall_h0 ?n_Desk__hall_h1,DL.tQ ?n_Desk__past_h0 ?n_Desk__past_h1,DL.CJ ?m_Desk_h0 ?m_Desk_h1 ?m_Desk_h2 ?m_Desk_h3 ?m_Desk_h4,DL.Dn KX G ?dc_ROWS_h0 ?dc_ROWS_h1 ?dc_ROWS_h2 ?dc_ROWS_h3 (DL.p6 (DL.z7 ?dc_ROWS_h4 rfl (DL.m6.cons DL.p5 (DL.m6.cons DL.p5 DL.m6.nil))) (DL.p6 (DL.z7 ?dc_ROWS_h5 rfl (DL.m6.cons DL.p5 (DL.m6.cons DL.p5 DL.m6.nil))) (DL.p6 (DL.z7 ?dc_ROWS_h6 rfl (DL.m6.cons DL.p5 DL.m6.nil)) (DL.p6 (DL.z7 ?dc_ROWS_h7 rfl (DL.m6.cons DL.p5 DL.m6.nil)) (DL.p6 (DL.z7 ?dc_ROWS_h8 rfl (DL.m6.cons DL.p5 DL.m6.nil)) (DL.p6 (DL.z7 ?dc_ROWS_h9 rfl DL.m6.nil) (DL.p6 (DL.z7 ?dc_ROWS_h10 rfl DL.m6.nil) (DL.p6 (DL.z7 ?dc_ROWS_h11 rfl DL.m6.nil) (DL.p6 (DL.z7 ?dc_ROWS_h12 rfl DL.m6.nil) (DL.p6 (DL.z7 ?dc_ROWS_h13 rfl (DL.m6.cons DL.p5 DL.m6.nil)) (DL.p6 (DL.z7 ?dc_ROWS_h14 rfl (DL.m6.cons DL.p5 (DL.m6.cons DL.p5 DL.m6.nil))) (DL.p6 (DL.z7 ?dc_ROWS_h15 rfl (DL.m6.cons DL.p5 DL.m6.nil)) (DL.p6 (DL.z7 ?dc_ROWS_h16 rfl DL.m6.nil) (DL.p6 (DL.z7 ?dc_ROWS_h17 rfl (DL.m6.cons DL.p5 (DL.m6.cons DL.p5 DL.m6.nil))) (DL.p6 (DL.z7 ?dc_ROWS_h18 rfl DL.m6.nil) DL.aA.nil))))))))))))))),DL.Y4 KX G ?c0_CHANGES (DL.z7 ?c1_CHANGES rfl (DL.m6.cons DL.p5 (DL.m6.cons DL.p5 (DL.m6.cons DL.p5 (DL.m6.cons DL.p5 (DL.m6.cons DL.p5 DL.m6.nil)))))),DL.Y4 KX G ?c0_FIGURES DL.p5,DL.Y4 KX G ?c0_HALL_APART DL.p5,DL.kr KX G ?c0_MOST_BETWEEN,DL.kr KX G ?c0_MOST_FIGURES,DL.kr KX G ?c0_MOST_PARTS,DL.ym KX G ?c0_NOUGHT ?c1_NOUGHT,DL.Y4 KX G ?c0_NO_PARTS DL.p5,DL.Y4 KX G ?c0_OF_HALLS (DL.z7 ?c1_OF_HALLS rfl (DL.m6.cons DL.p5 (DL.m6.cons DL.p5 (DL.m6.cons DL.p5 DL.m6.nil)))),DL.Y4 KX G ?c0_PART_WORDS (DL.z7 ?c1_PART_WORDS rfl (DL.m6.cons DL.p5 (DL.m6.cons DL.p5 (DL.m6.cons DL.p5 DL.m6.nil)))),DL.cF KX G ?n_x_NoNumber ?q_x_NoNumber,DL.cF KX G ?n_x_NoPart ?q_x_NoPart,DL.cF KX G ?n_x_NoPast ?q_x_NoPast,DL.cF KX G ?n_x_NoText ?q_x_NoText,DL.cF KX G ?n_x_TooMany ?q_x_TooMany,DL.eD KX G ?n_kn_GlassError__NoNumber ?m_kn_GlassError__NoNumber ?q_kn_GlassError__NoNumber,DL.eD KX G ?n_kn_GlassError__NoPart ?m_kn_GlassError__NoPart ?q_kn_GlassError__NoPart,DL.eD KX G ?n_kn_GlassError__NoPast ?m_kn_GlassError__NoPast ?q_kn_GlassError__NoPast,DL.eD KX G ?n_kn_GlassError__TooMany ?m_kn_GlassError__TooMany ?q_kn_GlassError__TooMany,DL.aX ?ke_NoNumber0 ?ke_NoNumber1 ?ke_NoNumber2 ?ke_NoNumber3 ?ke_NoNumber4 ?ke_NoNumber5 ?ke_NoNumber6 ?ke_NoNumber7,DL.aX ?ke_NoPart0 ?ke_NoPart1 ?ke_NoPart2 ?ke_NoPart3 ?ke_NoPart4 ?ke_NoPart5 ?ke_NoPart6 ?ke_NoPart7,DL.aX ?ke_NoPast0 ?ke_NoPast1 ?ke_NoPast2 ?ke_NoPast3 ?ke_NoPast4 ?ke_NoPast5 ?ke_NoPast6 ?ke_NoPast7,DL.aX ?ke_TooMany0 ?ke_TooMany1 ?ke_TooMany2 ?ke_TooMany3 ?ke_TooMany4 ?ke_TooMany5 ?ke_TooMany6 ?ke_TooMany7,DL.Y3 (DL.D7 KX G ?ki_NoNumber__NoPart_NoNumber_TooMany_NoPast_c0 DL.P7) (DL.j6 ?ki_NoNumber__NoPart_NoNumber_TooMany_NoPast_n0 ?ki_NoNumber__NoPart_NoNumber_TooMany_NoPast_q0 (DL.j6 ?ki_NoNumber__NoPart_NoNumber_TooMany_NoPast_n1 ?ki_NoNumber__NoPart_NoNumber_TooMany_NoPast_q1 (DL.j6 ?ki_NoNumber__NoPart_NoNumber_TooMany_NoPast_n2 ?ki_NoNumber__NoPart_NoNumber_TooMany_NoPast_q2 (DL.j6 ?ki_NoNumber__NoPart_NoNumber_TooMany_NoPast_n3 ?ki_NoNumber__NoPart_NoNumber_TooMany_NoPast_q3 DL.L7)))),DL.Y3 (DL.D7 KX G ?ki_NoPart__NoPart_NoNumber_TooMany_NoPast_c0 DL.P7) (DL.j6 ?ki_NoPart__NoPart_NoNumber_TooMany_NoPast_n0 ?ki_NoPart__NoPart_NoNumber_TooMany_NoPast_q0 (DL.j6 ?ki_NoPart__NoPart_NoNumber_TooMany_NoPast_n1 ?ki_NoPart__NoPart_NoNumber_TooMany_NoPast_q1 (DL.j6 ?ki_NoPart__NoPart_NoNumber_TooMany_NoPast_n2 ?ki_NoPart__NoPart_NoNumber_TooMany_NoPast_q2 (DL.j6 ?ki_NoPart__NoPart_NoNumber_TooMany_NoPast_n3 ?ki_NoPart__NoPart_NoNumber_TooMany_NoPast_q3 DL.L7)))),DL.Y3 (DL.D7 KX G ?ki_NoPast__NoPart_NoNumber_TooMany_NoPast_c0 DL.P7) (DL.j6 ?ki_NoPast__NoPart_NoNumber_TooMany_NoPast_n0 ?ki_NoPast__NoPart_NoNumber_TooMany_NoPast_q0 (DL.j6 ?ki_NoPast__NoPart_NoNumber_TooMany_NoPast_n1 ?ki_NoPast__NoPart_NoNumber_TooMany_NoPast_q1 (DL.j6 ?ki_NoPast__NoPart_NoNumber_TooMany_NoPast_n2 ?ki_NoPast__NoPart_NoNumber_TooMany_NoPast_q2 (DL.j6 ?ki_NoPast__NoPart_NoNumber_TooMany_NoPast_n3 ?ki_NoPast__NoPart_NoNumber_TooMany_NoPast_q3 DL.L7)))),DL.Y3 (DL.D7 KX G ?ki_NoRow__NoPart_NoNumber_TooMany_NoPast_c0 DL.P7) (DL.j6 ?ki_NoRow__NoPart_NoNumber_TooMany_NoPast_n0 ?ki_NoRow__NoPart_NoNumber_TooMany_NoPast_q0 (DL.j6 ?ki_NoRow__NoPart_NoNumber_TooMany_NoPast_n1 ?ki_NoRow__NoPart_NoNumber_TooMany_NoPast_q1 (DL.j6 ?ki_NoRow__NoPart_NoNumber_TooMany_NoPast_n2 ?ki_NoRow__NoPart_NoNumber_TooMany_NoPast_q2 (DL.j6 ?ki_NoRow__NoPart_NoNumber_TooMany_NoPast_n3 ?ki_NoRow__NoPart_NoNumber_TooMany_NoPast_q3 DL.L7)))),DL.Y3 (DL.D7 KX G ?ki_NoText_NoRatio_NoWhole__NoPart_NoNumber_TooMany_NoPast_c0 (DL.D7 KX G ?ki_NoText_NoRatio_NoWhole__NoPart_NoNumber_TooMany_NoPast_c1 (DL.D7 KX G ?ki_NoText_NoRatio_NoWhole__NoPart_NoNumber_TooMany_NoPast_c2 DL.P7))) (DL.j6 ?ki_NoText_NoRatio_NoWhole__NoPart_NoNumber_TooMany_NoPast_n0 ?ki_NoText_NoRatio_NoWhole__NoPart_NoNumber_TooMany_NoPast_q0 (DL.j6 ?ki_NoText_NoRatio_NoWhole__NoPart_NoNumber_TooMany_NoPast_n1 ?ki_NoText_NoRatio_NoWhole__NoPart_NoNumber_TooMany_NoPast_q1 (DL.j6 ?ki_NoText_NoRatio_NoWhole__NoPart_NoNumber_TooMany_NoPast_n2 ?ki_NoText_NoRatio_NoWhole__NoPart_NoNumber_TooMany_NoPast_q2 (DL.j6 ?ki_NoText_NoRatio_NoWhole__NoPart_NoNumber_TooMany_NoPast_n3 ?ki_NoText_NoRatio_NoWhole__NoPart_NoNumber_TooMany_NoPast_q3 DL.L7)))),DL.Y3 (DL.D7 KX G ?ki_TooMany__NoPart_NoNumber_TooMany_NoPast_c0 DL.P7) (DL.j6 ?ki_TooMany__NoPart_NoNumber_TooMany_NoPast_n0 ?ki_TooMany__NoPart_NoNumber_TooMany_NoPast_q0 (DL.j6 ?ki_TooMany__NoPart_NoNumber_TooMany_NoPast_n1 ?ki_TooMany__NoPart_NoNumber_TooMany_NoPast_q1 (DL.j6 ?ki_TooMany__NoPart_NoNumber_TooMany_NoPast_n2 ?ki_TooMany__NoPart_NoNumber_TooMany_NoPast_q2 (DL.j6 ?ki_TooMany__NoPart_NoNumber_TooMany_NoPast_n3 ?ki_TooMany__NoPart_NoNumber_TooMany_NoPast_q3 DL.L7)))),(DL.j6 ?kb_ValueError__NoPart_NoNumber_TooMany_NoPast_n0 ?kb_ValueError__NoPart_NoNumber_TooMany_NoPast_q0 (DL.j6 ?kb_ValueError__NoPart_NoNumber_TooMany_NoPast_n1 ?kb_ValueError__NoPart_NoNumber_TooMany_NoPast_q1 (DL.j6 ?kb_ValueError__NoPart_NoNumber_TooMany_NoPast_n2 ?kb_ValueError__NoPart_NoNumber_TooMany_NoPast_q2 (DL.j6 ?kb_ValueError__NoPart_NoNumber_TooMany_NoPast_n3 ?kb_ValueError__NoPart_NoNumber_TooMany_NoPast_q3 DL.L7))))⟩ hmg (DL.t6 KX G ?n0 ?l0 ?c0 ?k0 ?b0) (DL.t6 KX G ?n1 ?l1 ?c1 ?k1 ?b1) (DL.t6 KX G ?n2 ?l2 ?c2 ?k2 ?b2) (DL.t6 KX G ?n3 ?l3 ?c3 ?k3 ?b3) (DL.t6 KX G ?n4 ?l4 ?c4 ?k4 ?b4) (DL.t6 KX G ?n5 ?l5 ?c5 ?k5 ?b5) (DL.t6 KX G ?n6 ?l6 ?c6 ?k6 ?b6) (DL.t6 KX G ?n7 ?l7 ?c7 ?k7 ?b7) (DL.t6 KX G ?n8 ?l8 ?c8 ?k8 ?b8) (DL.t6 KX G ?n9 ?l9 ?c9 ?k9 ?b9) (DL.t6 KX G ?n10 ?l10 ?c10 ?k10 ?b10) (DL.t6 KX G ?n11 ?l11 ?c11 ?k11 ?b11) (DL.t6 KX G ?n12 ?l12 ?c12 ?k12 ?b12) (DL.t6 KX G ?n13 ?l13 ?c13 ?k13 ?b13) (DL.t6 KX G ?n14 ?l14 ?c14 ?k14 ?b14) (DL.t6 KX G ?n15 ?l15 ?c15 ?k15 ?b15) (DL.t6 KX G ?n16 ?l16 ?c16 ?k16 ?b16) (DL.t6 KX G ?n17 ?l17 ?c17 ?k17 ?b17) (DL.kz KX G ?n18 ?a18 ?i18 ?l18 ?c18 ?k18 ?pg18 ?hd18 ?po18 ?sa18 ?b18) (DL.t6 KX G ?n19 ?l19 ?c19 ?k19 ?b19) (DL.t6 KX G ?n20 ?l20 ?c20 ?k20 ?b20) (DL.t6 KX G ?n21 ?l21 ?c21 ?k21 ?b21) (DL.t6 KX G ?n22 ?l22 ?c22 ?k22 ?b22) (DL.t6 KX G ?n23 ?l23 ?c23 ?k23 ?b23) (DL.kz KX G ?n24 ?a24 ?i24 ?l24 ?c24 ?k24 ?pg24 ?hd24 ?po24 ?sa24 ?b24) (DL.t6 KX G ?n25 ?l25 ?c25 ?k25 ?b25) (DL.t6 KX G ?n26 ?l26 ?c26 ?k26 ?b26) (DL.t6 KX G ?n27 ?l27 ?c27 ?k27 ?b27) (DL.t6 KX G ?n28 ?l28 ?c28 ?k28 ?b28) (DL.t6 KX G ?n29 ?l29 ?c29 ?k29 ?b29) (DL.t6 KX G ?n30 ?l30 ?c30 ?k30 ?b30) (DL.t6 KX G ?n31 ?l31 ?c31 ?k31 ?b31) (DL.t6 KX G ?n32 ?l32 ?c32 ?k32 ?b32) (DL.t6 KX G ?n33 ?l33 ?c33 ?k33 ?b33) (DL.t6 KX G ?n34 ?l34 ?c34 ?k34 ?b34) (DL.t6 KX G ?n35 ?l35 ?c35 ?k35 ?b35) (DL.t6 KX G ?n36 ?l36 ?c36 ?k36 ?b36) (DL.kz KX G ?n37 ?a37 ?i37 ?l37 ?c37 ?k37 ?pg37 ?hd37 ?po37 ?sa37 ?b37) (DL.Dp KX G ?n38 ?l38 ?c38 ?k38 ?b38)
  (case n0=>k_is);(case l0=>k_is);(case c0=>k_is);(case k0=>k_is);(case b0=>(intro us hl;exact match us,hl with|[_],_=>rfl))
  (case n1=>k_is);(case l1=>k_is);(case c1=>k_is);(case k1=>k_is);(case b1=>(intro us hl;exact match us,hl with|[_,_],_=>rfl))
  (case n2=>k_is);(case l2=>k_is);(case c2=>k_is);(case k2=>k_is);(case b2=>(intro us hl;exact match us,hl with|[_],_=>rfl))
  (case n3=>k_is);(case l3=>k_is);(case c3=>k_is);(case k3=>k_is);(case b3=>(intro us hl;exact match us,hl with|[_],_=>rfl))
  (case n4=>k_is);(case l4=>k_is);(case c4=>k_is);(case k4=>k_is);(case b4=>(intro us hl;exact match us,hl with|[_],_=>rfl))
  (case n5=>k_is);(case l5=>k_is);(case c5=>k_is);(case k5=>k_is);(case b5=>(intro us hl;exact match us,hl with|[_,_],_=>rfl))
  (case n6=>k_is);(case l6=>k_is);(case c6=>k_is);(case k6=>k_is);(case b6=>(intro us hl;exact match us,hl with|[_],_=>rfl))
  (case n7=>k_is);(case l7=>k_is);(case c7=>k_is);(case k7=>k_is);(case b7=>(intro us hl;exact match us,hl with|[_],_=>rfl))
  (case n8=>k_is);(case l8=>k_is);(case c8=>k_is);(case k8=>k_is);(case b8=>(intro us hl;exact match us,hl with|[_],_=>rfl))
  (case n9=>k_is);(case l9=>k_is);(case c9=>k_is);(case k9=>k_is);(case b9=>(intro us hl;exact match us,hl with|[_,_,_],_=>rfl))
  (case n10=>k_is);(case l10=>k_is);(case c10=>k_is);(case k10=>k_is);(case b10=>(intro us hl;exact match us,hl with|[_],_=>rfl))
  (case n11=>k_is);(case l11=>k_is);(case c11=>k_is);(case k11=>k_is);(case b11=>(intro us hl;exact match us,hl with|[_],_=>rfl))
  (case n12=>k_is);(case l12=>k_is);(case c12=>k_is);(case k12=>k_is);(case b12=>(intro us hl;exact match us,hl with|[_],_=>rfl))
  (case n13=>k_is);(case l13=>k_is);(case c13=>k_is);(case k13=>k_is);(case b13=>(intro us hl;exact match us,hl with|[_],_=>rfl))
  (case n14=>k_is);(case l14=>k_is);(case c14=>k_is);(case k14=>k_is);(case b14=>(intro us hl;exact match us,hl with|[_,_],_=>rfl))
  (case n15=>k_is);(case l15=>k_is);(case c15=>k_is);(case k15=>k_is);(case b15=>(intro us hl;exact match us,hl with|[_],_=>rfl))
  (case n16=>k_is);(case l16=>k_is);(case c16=>k_is);(case k16=>k_is);(case b16=>(intro us hl;exact match us,hl with|[_],_=>rfl))
  (case n17=>k_is);(case l17=>k_is);(case c17=>k_is);(case k17=>k_is);(case b17=>(intro us hl;exact match us,hl with|[_,_,_],_=>rfl))
  (case n18=>k_is);(case a18=>k_is);(case i18=>k_is);(case pg18=>k_is);(case hd18=>k_is);(case po18=>k_is);(case sa18=>k_is);(case l18=>k_is);(case c18=>k_is);(case k18=>k_is);(case b18=>(intro us hl;exact match us,hl with|[_],_=>rfl))
  (case n19=>k_is);(case l19=>k_is);(case c19=>k_is);(case k19=>k_is);(case b19=>(intro us hl;exact match us,hl with|[_,_],_=>rfl))
  (case n20=>k_is);(case l20=>k_is);(case c20=>k_is);(case k20=>k_is);(case b20=>(intro us hl;exact match us,hl with|[_,_],_=>rfl))
  (case n21=>k_is);(case l21=>k_is);(case c21=>k_is);(case k21=>k_is);(case b21=>(intro us hl;exact match us,hl with|[_,_,_],_=>rfl))
  (case n22=>k_is);(case l22=>k_is);(case c22=>k_is);(case k22=>k_is);(case b22=>(intro us hl;exact match us,hl with|[_,_,_],_=>rfl))
  (case n23=>k_is);(case l23=>k_is);(case c23=>k_is);(case k23=>k_is);(case b23=>(intro us hl;exact match us,hl with|[_,_,_],_=>rfl))
  (case n24=>k_is);(case a24=>k_is);(case i24=>k_is);(case pg24=>k_is);(case hd24=>k_is);(case po24=>k_is);(case sa24=>k_is);(case l24=>k_is);(case c24=>k_is);(case k24=>k_is);(case b24=>(intro us hl;exact match us,hl with|[_,_],_=>rfl))
  (case n25=>k_is);(case l25=>k_is);(case c25=>k_is);(case k25=>k_is);(case b25=>(intro us hl;exact match us,hl with|[_,_],_=>rfl))
  (case n26=>k_is);(case l26=>k_is);(case c26=>k_is);(case k26=>k_is);(case b26=>(intro us hl;exact match us,hl with|[_],_=>rfl))
  (case n27=>k_is);(case l27=>k_is);(case c27=>k_is);(case k27=>k_is);(case b27=>(intro us hl;exact match us,hl with|[_],_=>rfl))
  (case n28=>k_is);(case l28=>k_is);(case c28=>k_is);(case k28=>k_is);(case b28=>(intro us hl;exact match us,hl with|[_,_],_=>rfl))
  (case n29=>k_is);(case l29=>k_is);(case c29=>k_is);(case k29=>k_is);(case b29=>(intro us hl;exact match us,hl with|[_,_],_=>rfl))
  (case n30=>k_is);(case l30=>k_is);(case c30=>k_is);(case k30=>k_is);(case b30=>(intro us hl;exact match us,hl with|[_,_,_],_=>rfl))
  (case n31=>k_is);(case l31=>k_is);(case c31=>k_is);(case k31=>k_is);(case b31=>(intro us hl;exact match us,hl with|[_,_],_=>rfl))
  (case n32=>k_is);(case l32=>k_is);(case c32=>k_is);(case k32=>k_is);(case b32=>(intro us hl;exact match us,hl with|[_,_],_=>rfl))
  (case n33=>k_is);(case l33=>k_is);(case c33=>k_is);(case k33=>k_is);(case b33=>(intro us hl;exact match us,hl with|[_],_=>rfl))
  (case n34=>k_is);(case l34=>k_is);(case c34=>k_is);(case k34=>k_is);(case b34=>(intro us hl;exact match us,hl with|[_,_,_],_=>rfl))
  (case n35=>k_is);(case l35=>k_is);(case c35=>k_is);(case k35=>k_is);(case b35=>(intro us hl;exact match us,hl with|[_,_,_,_],_=>rfl))
  (case n36=>k_is);(case l36=>k_is);(case c36=>k_is);(case k36=>k_is);(case b36=>(intro us hl;exact match us,hl with|[_],_=>rfl))
  (case n37=>k_is);(case a37=>k_is);(case i37=>k_is);(case pg37=>k_is);(case hd37=>k_is);(case po37=>k_is);(case sa37=>k_is);(case l37=>k_is);(case c37=>k_is);(case k37=>k_is);(case b37=>(intro us hl;exact match us,hl with|[_],_=>rfl))
  (case n38=>k_is);(case l38=>k_is);(case c38=>k_is);(case k38=>k_is);(case b38=>(intro us hl;exact match us,hl with|[_],_=>rfl))
  (case z_ValueError=>k_is);(case z_abs=>k_is);(case z_any=>k_is);(case z_bool=>k_is);(case z_divmod=>k_is);(case z_int=>k_is);(case z_isinstance=>k_is);(case z_len=>k_is);(case z_list=>k_is);(case z_max=>k_is);(case z_range=>k_is);(case z_reversed=>k_is);(case z_str=>k_is);(case z_tuple=>k_is);(case z_zip=>k_is);(case o_Desk_h0=>k_is);(case o_Desk_h1=>k_is);(case o_Desk_h2=>k_is);(case o_Desk_h3=>k_is);(case o_Desk_h4=>k_is);(case n_Desk__hall_h0=>k_is);(case n_Desk__hall_h1=>k_is);(case n_Desk__past_h0=>k_is);(case n_Desk__past_h1=>k_is);(case m_Desk_h0=>k_is);(case m_Desk_h1=>k_is);(case m_Desk_h2=>k_is);(case m_Desk_h3=>k_is);(case m_Desk_h4=>k_is);(case dc_ROWS_h0=>k_is);(case dc_ROWS_h1=>k_is);(case dc_ROWS_h2=>k_keys);(case dc_ROWS_h3=>decide);(case dc_ROWS_h4=>k_is);(case dc_ROWS_h5=>k_is);(case dc_ROWS_h6=>k_is);(case dc_ROWS_h7=>k_is);(case dc_ROWS_h8=>k_is);(case dc_ROWS_h9=>k_is);(case dc_ROWS_h10=>k_is);(case dc_ROWS_h11=>k_is);(case dc_ROWS_h12=>k_is);(case dc_ROWS_h13=>k_is);(case dc_ROWS_h14=>k_is);(case dc_ROWS_h15=>k_is);(case dc_ROWS_h16=>k_is);(case dc_ROWS_h17=>k_is);(case dc_ROWS_h18=>k_is);(case c0_CHANGES=>k_is);(case c1_CHANGES=>k_is);(case c0_FIGURES=>k_is);(case c0_HALL_APART=>k_is);(case c0_MOST_BETWEEN=>k_is);(case c0_MOST_FIGURES=>k_is);(case c0_MOST_PARTS=>k_is);(case c0_NOUGHT=>k_is);(case c1_NOUGHT=>k_is);(case c0_NO_PARTS=>k_is);(case c0_OF_HALLS=>k_is);(case c1_OF_HALLS=>k_is);(case c0_PART_WORDS=>k_is);(case c1_PART_WORDS=>k_is);(case n_x_NoNumber=>k_is);(case q_x_NoNumber=>k_exc);(case n_x_NoPart=>k_is);(case q_x_NoPart=>k_exc);(case n_x_NoPast=>k_is);(case q_x_NoPast=>k_exc);(case n_x_NoText=>k_is);(case q_x_NoText=>k_exc);(case n_x_TooMany=>k_is);(case q_x_TooMany=>k_exc);(case n_kn_GlassError__NoNumber=>k_is);(case m_kn_GlassError__NoNumber=>k_is);(case q_kn_GlassError__NoNumber=>kts_exm);(case n_kn_GlassError__NoPart=>k_is);(case m_kn_GlassError__NoPart=>k_is);(case q_kn_GlassError__NoPart=>kts_exm);(case n_kn_GlassError__NoPast=>k_is);(case m_kn_GlassError__NoPast=>k_is);(case q_kn_GlassError__NoPast=>kts_exm);(case n_kn_GlassError__TooMany=>k_is);(case m_kn_GlassError__TooMany=>k_is);(case q_kn_GlassError__TooMany=>kts_exm);(case ke_NoNumber0=>k_is);(case ke_NoNumber1=>k_is);(case ke_NoNumber2=>k_is);(case ke_NoNumber3=>k_is);(case ke_NoNumber4=>k_is);(case ke_NoNumber5=>k_is);(case ke_NoNumber6=>k_is);(case ke_NoNumber7=>k_is);(case ke_NoPart0=>k_is);(case ke_NoPart1=>k_is);(case ke_NoPart2=>k_is);(case ke_NoPart3=>k_is);(case ke_NoPart4=>k_is);(case ke_NoPart5=>k_is);(case ke_NoPart6=>k_is);(case ke_NoPart7=>k_is);(case ke_NoPast0=>k_is);(case ke_NoPast1=>k_is);(case ke_NoPast2=>k_is);(case ke_NoPast3=>k_is);(case ke_NoPast4=>k_is);(case ke_NoPast5=>k_is);(case ke_NoPast6=>k_is);(case ke_NoPast7=>k_is);(case ke_TooMany0=>k_is);(case ke_TooMany1=>k_is);(case ke_TooMany2=>k_is);(case ke_TooMany3=>k_is);(case ke_TooMany4=>k_is);(case ke_TooMany5=>k_is);(case ke_TooMany6=>k_is);(case ke_TooMany7=>k_is);(case ki_NoNumber__NoPart_NoNumber_TooMany_NoPast_c0=>k_is);(case ki_NoNumber__NoPart_NoNumber_TooMany_NoPast_n0=>k_is);(case ki_NoNumber__NoPart_NoNumber_TooMany_NoPast_q0=>(simp only[IY,Jq];kit_is));(case ki_NoNumber__NoPart_NoNumber_TooMany_NoPast_n1=>k_is);(case ki_NoNumber__NoPart_NoNumber_TooMany_NoPast_q1=>(simp only[IY,Jq];kit_is));(case ki_NoNumber__NoPart_NoNumber_TooMany_NoPast_n2=>k_is);(case ki_NoNumber__NoPart_NoNumber_TooMany_NoPast_q2=>(simp only[IY,Jq];kit_is));(case ki_NoNumber__NoPart_NoNumber_TooMany_NoPast_n3=>k_is);(case ki_NoNumber__NoPart_NoNumber_TooMany_NoPast_q3=>(simp only[IY,Jq];kit_is));(case ki_NoPart__NoPart_NoNumber_TooMany_NoPast_c0=>k_is);(case ki_NoPart__NoPart_NoNumber_TooMany_NoPast_n0=>k_is);(case ki_NoPart__NoPart_NoNumber_TooMany_NoPast_q0=>(simp only[IY,Jq];kit_is));(case ki_NoPart__NoPart_NoNumber_TooMany_NoPast_n1=>k_is);(case ki_NoPart__NoPart_NoNumber_TooMany_NoPast_q1=>(simp only[IY,Jq];kit_is));(case ki_NoPart__NoPart_NoNumber_TooMany_NoPast_n2=>k_is);(case ki_NoPart__NoPart_NoNumber_TooMany_NoPast_q2=>(simp only[IY,Jq];kit_is));(case ki_NoPart__NoPart_NoNumber_TooMany_NoPast_n3=>k_is);(case ki_NoPart__NoPart_NoNumber_TooMany_NoPast_q3=>(simp only[IY,Jq];kit_is));(case ki_NoPast__NoPart_NoNumber_TooMany_NoPast_c0=>k_is);(case ki_NoPast__NoPart_NoNumber_TooMany_NoPast_n0=>k_is);(case ki_NoPast__NoPart_NoNumber_TooMany_NoPast_q0=>(simp only[IY,Jq];kit_is));(case ki_NoPast__NoPart_NoNumber_TooMany_NoPast_n1=>k_is);(case ki_NoPast__NoPart_NoNumber_TooMany_NoPast_q1=>(simp only[IY,Jq];kit_is));(case ki_NoPast__NoPart_NoNumber_TooMany_NoPast_n2=>k_is);(case ki_NoPast__NoPart_NoNumber_TooMany_NoPast_q2=>(simp only[IY,Jq];kit_is));(case ki_NoPast__NoPart_NoNumber_TooMany_NoPast_n3=>k_is);(case ki_NoPast__NoPart_NoNumber_TooMany_NoPast_q3=>(simp only[IY,Jq];kit_is));(case ki_NoRow__NoPart_NoNumber_TooMany_NoPast_c0=>k_is);(case ki_NoRow__NoPart_NoNumber_TooMany_NoPast_n0=>k_is);(case ki_NoRow__NoPart_NoNumber_TooMany_NoPast_q0=>(simp only[IY,Jq];kit_is));(case ki_NoRow__NoPart_NoNumber_TooMany_NoPast_n1=>k_is);(case ki_NoRow__NoPart_NoNumber_TooMany_NoPast_q1=>(simp only[IY,Jq];kit_is));(case ki_NoRow__NoPart_NoNumber_TooMany_NoPast_n2=>k_is);(case ki_NoRow__NoPart_NoNumber_TooMany_NoPast_q2=>(simp only[IY,Jq];kit_is));(case ki_NoRow__NoPart_NoNumber_TooMany_NoPast_n3=>k_is);(case ki_NoRow__NoPart_NoNumber_TooMany_NoPast_q3=>(simp only[IY,Jq];kit_is));(case ki_NoText_NoRatio_NoWhole__NoPart_NoNumber_TooMany_NoPast_c0=>k_is);(case ki_NoText_NoRatio_NoWhole__NoPart_NoNumber_TooMany_NoPast_c1=>k_is);(case ki_NoText_NoRatio_NoWhole__NoPart_NoNumber_TooMany_NoPast_c2=>k_is);(case ki_NoText_NoRatio_NoWhole__NoPart_NoNumber_TooMany_NoPast_n0=>k_is);(case ki_NoText_NoRatio_NoWhole__NoPart_NoNumber_TooMany_NoPast_q0=>(simp only[IY,Jq];kit_is));(case ki_NoText_NoRatio_NoWhole__NoPart_NoNumber_TooMany_NoPast_n1=>k_is);(case ki_NoText_NoRatio_NoWhole__NoPart_NoNumber_TooMany_NoPast_q1=>(simp only[IY,Jq];kit_is));(case ki_NoText_NoRatio_NoWhole__NoPart_NoNumber_TooMany_NoPast_n2=>k_is);(case ki_NoText_NoRatio_NoWhole__NoPart_NoNumber_TooMany_NoPast_q2=>(simp only[IY,Jq];kit_is));(case ki_NoText_NoRatio_NoWhole__NoPart_NoNumber_TooMany_NoPast_n3=>k_is);(case ki_NoText_NoRatio_NoWhole__NoPart_NoNumber_TooMany_NoPast_q3=>(simp only[IY,Jq];kit_is));(case ki_TooMany__NoPart_NoNumber_TooMany_NoPast_c0=>k_is);(case ki_TooMany__NoPart_NoNumber_TooMany_NoPast_n0=>k_is);(case ki_TooMany__NoPart_NoNumber_TooMany_NoPast_q0=>(simp only[IY,Jq];kit_is));(case ki_TooMany__NoPart_NoNumber_TooMany_NoPast_n1=>k_is);(case ki_TooMany__NoPart_NoNumber_TooMany_NoPast_q1=>(simp only[IY,Jq];kit_is));(case ki_TooMany__NoPart_NoNumber_TooMany_NoPast_n2=>k_is);(case ki_TooMany__NoPart_NoNumber_TooMany_NoPast_q2=>(simp only[IY,Jq];kit_is));(case ki_TooMany__NoPart_NoNumber_TooMany_NoPast_n3=>k_is);(case ki_TooMany__NoPart_NoNumber_TooMany_NoPast_q3=>(simp only[IY,Jq];kit_is));(case kb_ValueError__NoPart_NoNumber_TooMany_NoPast_n0=>k_is);(case kb_ValueError__NoPart_NoNumber_TooMany_NoPast_q0=>kit_is);(case kb_ValueError__NoPart_NoNumber_TooMany_NoPast_n1=>k_is);(case kb_ValueError__NoPart_NoNumber_TooMany_NoPast_q1=>kit_is);(case kb_ValueError__NoPart_NoNumber_TooMany_NoPast_n2=>k_is);(case kb_ValueError__NoPart_NoNumber_TooMany_NoPast_q2=>kit_is);(case kb_ValueError__NoPart_NoNumber_TooMany_NoPast_n3=>k_is);(case kb_ValueError__NoPart_NoNumber_TooMany_NoPast_q3=>kit_is)
end
