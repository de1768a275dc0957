import PyProof.Rows.All
import Wide.All
import OpenK.AllK
import Wide.FinOn
import PyProof.EqAt
import PyProof.EqKinds
import PyProof.TupleCall
import PyProof.ZipIter
import PyProof.EnumMake
import PyProof.EnumFor
import PyProof.Rows.EnumRows
import PyProof.CompMap
import PyProof.CompUse
import KE.KRevSl
import KE.KRevIter
import PyProof.ListRange
import PyProof.AutoRange
import PyProof.FactsAll.range_2
import PyProof.MaxThree
import KE.RegKTryMore
import PyProof.Rows.SumAny
import KE.KMinBuiltin
import PyProof.Rows.CallKwBuiltin
import Lean
import PySem.Challenge.RW_roundglass_k43_whole_never_is_kept
noncomputable section
open PySem renaming wpAny_bind→c8T,wpAny_pure→c84
open PySem.W renaming Frag→c8U
open Int renaming natAbs_natCast→c8V,natCast_inj→c9i,natAbs_mul→c9q,natCast_mul→c9P,toNat_natCast→c9X,mul_ne_zero→c9Z,natAbs_neg→d0c,natCast_nonneg→d0p,mul_ediv_cancel_left→d0B,emod_lt_of_pos→d0D,sign_eq_one_of_pos→d0F,emod_nonneg→d0Y,sign_eq_neg_one_of_neg→d03,natAbs_ediv_le_natAbs→d08,natAbs_pos→d1H,one_mul→d1L,neg_ediv_of_dvd→d1O,toNat→d1Z,natAbs_add_le→d10,gcd→d11,mul_one→d2k
open List renaming getElem?_eq_some_iff→c8W,length_map→c8Y,mem_of_getElem?→c81,getElem?_map→c83,mem_singleton→c88,size_toArray→c9c,getElem?_eq_getElem→c9d,map_append→c9f,mem_append→c9g,length_append→c9h,take_length→c9k,mem_cons→c9l,mem_append_right→c9m,mem_cons_of_mem→c9r,mem_map→c9t,not_mem_nil→c9u,length_reverse→c9w,length_cons→c9B,length_zipIdx→c9C,getD_eq_getElem?_getD→c9D,map_cons→c9F,getElem?_of_mem→c9G,range→c9H,mem_cons_self→c9I,filter_append→c9J,append_nil→c9M,map_map→c9N,mem_zipIdx_iff_getElem?→c9O,mem_range→c9Q,take_add_one→c9T,length_take→c9W,reverse_cons→c9Y,take_succ_eq_append_getElem→c94,getElem?_zipWith→c95,map→c97,filter_cons→c98,mem_reverse→c99,getElem?_replicate→d0b,take_of_length_le→d0d,map_nil→d0e,find?_eq_none→d0f,mem_append_left→d0g,mem_filter→d0h,length_nil→d0i,find?_range_eq_some→d0k,length_drop→d0l,replicate→d0m,length_filter_le→d0q,any_eq_false→d0s,getElem?_append_right→d0t,getElem?_append_left→d0v,mem_or_eq_of_mem_set→d0w,lookup_cons→d0x,ext_getElem→d0z,map_reverse→d0A,map_inj_right→d0C,length_replicate→d0I,take_append_drop→d0J,find?_eq_some_iff_getElem→d0L,eq_nil_of_length_eq_zero→d0P,getElem?_append→d0Q,mem_of_mem_take→d0R,filterMap_cons→d0T,nodup_cons→d0V,of_mem_zip→d0W,zip_eq_zipWith→d01,length_zip→d02,zip_cons_cons→d04,pairwise_iff_getElem→d09,length_range→d1d,pairwise_map→d1e,filter→d1i,map_take→d1k,pairwise_lt_range'→d1l,filter_cons_of_pos→d1m,filter_cons_of_neg→d1n,map_zipWith→d1s,getElem?_set_self→d1t,drop_eq_nil_of_le→d1w,length_set→d1x,forIn_cons→d1z,getElem?_toArray→d1C,getElem?_set_ne→d1E,getElem_reverse→d1F,getElem?_zipIdx→d1G,length→d1J,filter_reverse→d1P,map_congr_left→d1Q,length_zipWith→d1R,zipIdx_map_snd→d1T,mem_filterMap→d1U,take_nil→d1X,sum_cons→d1Y,getElem?_set→d16,append_assoc→d18,sum_nil→d2e,zipIdx_cons→d2g,getElem_mem→d2h,zipWith_map→d2i,any_eq_true→d2j
open PySem.Heap renaming get?_push_of_some→c8X,get?_push_size→c86,lt_size→c89,get?_update_other→c9v,get?_update_self→c9E,size_push→c9V,get?_none_of_le→d1D,get?_push_ne→d14
open PySem.Builtin.Range renaming rangeFitsLong→c8Z
open Nat renaming lt_of_lt_of_le→c80,le_trans→c85,le_refl→c9b,lt_of_le_of_lt→c9e,pow_le_pow_right→c9j,ne_of_lt→c9y,gcd→c9z,zero_le→c9K,two_pow_pos→c90,mul_ne_zero→c91,ne_of_gt→c92,lt_or_ge→c93,lt_irrefl→d0a,gcd_pos_of_pos_right→d0j,mul_le_mul→d0n,eq_zero_or_pos→d0o,pow_lt_pow_right→d0u,le_add_right→d0y,mul_pos→d0G,le_of_lt→d0H,max_le→d0S,div_le_self→d0X,mul_le_mul_left→d0Z,le_mul_self→d00,pow_succ→d05,one_lt_two_pow→d07,lt_trichotomy→d1a,le_succ_of_le→d1b,mul_left_comm→d1c,log2_lt→d1f,pow_add→d1g,le_of_dvd→d1j,min_le_right→d1o,le_max_right→d1p,gcd_le_right→d1q,succ_le_succ→d1r,le_mul_of_pos_left→d1u,le_max_left→d1y,pos_iff_ne_zero→d1K,add_mul→d1S,mul_assoc→d1W,le_of_lt_succ→d13,dvd_add_right→d17,le_of_eq→d19,succ_pos→d2a,gcd_comm→d2b,zero_add→d2c,mul_comm→d2d
open Rat renaming intCast_mul→c82,intCast_natCast→c87,natCast_mul→c9p,mul_nonneg→c9s,divInt→c9x,mul_eq_zero→c9A,mul_pos→c9L,divInt_eq_div→c9S,intCast_add→c96,intCast_sub→d0r,num_divInt_den→d0E,mul_le_mul_of_nonneg_right→d0K,mul_le_mul_of_nonneg_left→d0N,le_total→d06,intCast_lt_intCast→d1v,intCast_neg→d1A,le_of_lt→d1B,lt_div_iff→d1I,neg_num→d1M,neg_den→d1N,sub_eq_add_neg→d1V,lt_iff→d12
open Classical renaming byContradiction→c9a,propDecidable→c9R
open Bool renaming false_ne_true→c9n,false_eq_true→c9U,and_eq_true→d0M,not_eq_true→d0O,eq_iff_iff→d0U,true_and→d1h,not_eq_true'→d15
open Option renaming map_eq_some_iff→c9o,getD_none→d2f,map_some→d2l
set_option compiler.extract_closed false
set_option Elab.async false
set_option linter.all false
set_option maxRecDepth 100000
section
namespace L2
open PySem PySem.Spec PyProof.Rows
noncomputable abbrev Key:=Sum Int Str
noncomputable def c0m:Key→Value→Bool
 | .inl k,v=>Value.isInt k v
 | .inr x,v=>Value.isStrOf x v
noncomputable def c5D(w:World):Key→Int
 | .inl k=>hashInt k
 | .inr x=>hashStr w x
theorem B5:∀{k:Key} {v:Value},c0m k v=true→(∃ i t,k=Sum.inl i∧v=Value.int i t)∨(∃ x t,k=Sum.inr x∧v=Value.str x t)
 | .inl i,v,h=>by
  obtain⟨t,e⟩:=Value.isInt_shape (k:=i) (v:=v) h
  exact .inl ⟨i,t,rfl,e⟩
 | .inr x,v,h=>by
  obtain⟨t,e⟩:=Value.isStrOf_shape (x:=x) (v:=v) h
  exact .inr ⟨x,t,rfl,e⟩
theorem c2f(a b:Int):decide ((Sum.inl a:Key)=Sum.inl b)=(a == b):=by
 by_cases e:a=b
 ·subst e;simp
 ·have h:¬ (Sum.inl a:Key)=Sum.inl b:=fun q=>e (Sum.inl.inj q)
  rw[decide_eq_false h]
  exact(beq_eq_false_iff_ne.mpr e).symm
theorem c2c(a b:Str):decide ((Sum.inr a:Key)=Sum.inr b)=decide (a=b):=by
 by_cases e:a=b
 ·subst e;simp
 ·have h:¬ (Sum.inr a:Key)=Sum.inr b:=fun q=>e (Sum.inr.inj q)
  rw[decide_eq_false h,decide_eq_false e]
theorem c2e(a:Int)(b:Str):decide ((Sum.inl a:Key)=Sum.inr b)=false:=decide_eq_false (fun q=>nomatch q)
theorem c2d(a:Str)(b:Int):decide ((Sum.inr a:Key)=Sum.inl b)=false:=decide_eq_false (fun q=>nomatch q)
noncomputable def b2b(prog:Program)(w:World):PySem.KeyKind prog w Key where
 is:=c0m
 hash:=c5D w
 inj:=fun v a b ha hb=>by
  rcases B5 ha with⟨i,t,rfl,rfl⟩|⟨x,t,rfl,rfl⟩
  ·rcases B5 hb with⟨j,u,rfl,e⟩|⟨y,u,rfl,e⟩
   ·injection e with e1 _;rw[e1]
   ·exact nomatch e
  ·rcases B5 hb with⟨j,u,rfl,e⟩|⟨y,u,rfl,e⟩
   ·exact nomatch e
   ·injection e with e1 _;rw[e1]
 byValue:=fun k v h=>by
  rcases B5 h with⟨i,t,rfl,rfl⟩|⟨x,t,rfl,rfl⟩<;>rfl
 pyHash:=fun hv h=>by
  rcases B5 hv with⟨i,t,rfl,rfl⟩|⟨x,t,rfl,rfl⟩
  ·exact wpAny_pyHash_int h
  ·exact wpAny_pyHash_str h
 eqBool:=fun hu hv h=>by
  rcases B5 hu with⟨i,t,rfl,rfl⟩|⟨x,t,rfl,rfl⟩
  ·rcases B5 hv with⟨j,u,rfl,rfl⟩|⟨y,u,rfl,rfl⟩
   ·rw[c2f]at h;exact wpAny_eqBool_int h
   ·rw[c2e]at h;exact SeqAt.EqAt.int_str i t y u _ _ _ _ h
  ·rcases B5 hv with⟨j,u,rfl,rfl⟩|⟨y,u,rfl,rfl⟩
   ·rw[c2d]at h;exact SeqAt.EqAt.str_int x t j u _ _ _ _ h
   ·rw[c2c]at h;exact wpAny_eqBool_str h
 «strs»:=fun k x t v h=>by
  rcases B5 h with⟨i,u,rfl,e⟩|⟨y,u,rfl,e⟩
  ·exact nomatch e
  ·injection e with e1 _
   subst e1
   cases v<;>rfl
end L2
namespace L2
open PySem PySem.Spec PyProof.Rows
inductive V where
 | non|bl (b:Bool)|int (i:Int)|str (x:Str)|byt (b:Array UInt8)|flt (b:UInt64)|ref (a:Addr)|ty (n:String)
 deriving DecidableEq
noncomputable def u6:V→Value→Prop
 | .non,u=>u=Value.none
 | .bl b,u=>u=Value.bool b
 | .int i,u=>∃ t,u=Value.int i t
 | .str x,u=>∃ t,u=Value.str x t
 | .byt b,u=>∃ t,u=Value.bytes b t
 | .flt b,u=>∃ t,u=Value.float b t
 | .ref a,u=>u=Value.ref a
 | .ty n,u=>u=Value.type n
noncomputable abbrev q9:List V→List Value→Prop:=Paired u6
theorem q9.length{xs:List V}{us:List Value}(r:q9 xs us):xs.length=us.length:=Paired.length r
theorem q9.get:∀{xs:List V} {us:List Value} {i:Nat} {x:V},q9 xs us→xs[i]? = some x→∃ u,us[i]? = some u∧u6 x u
 | _,_,_,_,.nil,e=>by simp at e
 | _,_,0,_,.cons r _,e=>by simp at e;subst e;exact⟨_,rfl,r⟩
 | _,_,i+1,x,.cons _ t,e=>by
  obtain⟨u,h1,h2⟩:=q9.get (i:=i) (x:=x) t (by simpa using e)
  exact⟨u,by simpa using h1,h2⟩
theorem q9.set{x:V}{u:Value}(r:u6 x u):∀{xs:List V} {us:List Value} (i:Nat),q9 xs us→q9 (xs.set i x) (us.set i u)
 | _,_,_,.nil=>.nil
 | _,_,0,.cons _ t=>.cons r t
 | _,_,i+1,.cons q t=>.cons q (q9.set r i t)
theorem q9.append:∀{xs ys:List V} {us ws:List Value},q9 xs us→q9 ys ws→q9 (xs++ys) (us++ws)
 | _,_,_,_,.nil,s=>s
 | _,_,_,_,.cons r t,s=>.cons r (q9.append t s)
theorem q9.take:∀{xs:List V} {us:List Value} (n:Nat),q9 xs us→q9 (xs.take n) (us.take n)
 | _,_,0,_=>.nil
 | _,_,_+1,.nil=>.nil
 | _,_,n+1,.cons r t=>.cons r (q9.take n t)
theorem q9.drop:∀{xs:List V} {us:List Value} (n:Nat),q9 xs us→q9 (xs.drop n) (us.drop n)
 | _,_,0,r=>r
 | _,_,_+1,.nil=>.nil
 | _,_,n+1,.cons _ t=>q9.drop n t
noncomputable def c2J:Option V→Option Value→Prop
 | some v,some u=>u6 v u
 | none,none=>True
 | _,_=>False
noncomputable def KV{κ:Type}:List (κ × V)→List (κ × Value)→Prop:=Paired fun(p:κ × V) (q:κ × Value)=>p.1=q.1∧u6 p.2 q.2
noncomputable def kV:Key→V
 | .inl i=>.int i
 | .inr x=>.str x
inductive HO where
 | lst (xs:List V)
 | tup (xs:List V)
 | dK (kvs:List (Key × V))|dT (kvs:List (List Key × V))
 | set (S:Int→Bool) (n:Nat)
 | ins (C dx:Addr) (fs:List (Str × V))
 | own (x:Addr)
 | xd (fs:List (Str × V))
 | met (f x:Addr)
 | rng (lo hi:Int)
 | frz (o:Obj) (u:HO)
 | tbl (ps:Array Value)
 | ext (φ:Heap→Prop)
noncomputable abbrev Hp:=Addr→Option HO
noncomputable def upd(H:Hp)(a:Addr)(o:HO):Hp:=fun b=>if b=a then some o else H b
theorem j6{H:Hp}{a:Addr}{o:HO}:upd H a o a=some o:=by unfold upd;rw[if_pos rfl]
theorem j8{H:Hp}{a b:Addr}{o:HO}(h:b≠a):upd H a o b=H b:=by unfold upd;rw[if_neg h]
theorem a1w{H:Hp}{a:Addr}{o u:HO}:upd (upd H a o) a u=upd H a u:=by
 funext b;unfold upd;split<;>rfl
theorem J4{H:Hp}{a b:Addr}{o:HO}(h:H a=some o)(h':H b=none):a≠b:=by
 intro e;subst e;rw[h]at h';cases h'
section
variable (P:Program) (w:World)
noncomputable def E6(H:Hp)(h:Heap)(a:Addr):HO→Prop
 | .lst xs=>xs.length≤sizeLine∧∃(its:List Value) (n:Nat),q9 xs its∧h.get? a=some { cls:=.type "list",data:=.seq its.toArray n }
 | .tup xs=>xs.length≤sizeLine∧∃ its:List Value,q9 xs its∧IsTup h a its.toArray
 | .dK kvs=>kvs.length≤sizeLine∧(a == sysModules)=false∧∃ vs,KV kvs vs∧h.DictOf (b2b P w) a vs
 | .dT kvs=>kvs.length≤sizeLine∧(a == sysModules)=false∧∃ xs:List (List Key × Addr × Value),
   Paired (fun(p:List Key × V) (q:List Key × Addr × Value)=>p.1=q.1∧H q.2.1=some (.tup (p.1.map kV))∧u6 p.2 q.2.2) kvs xs ∧
   ∃ o es ep,h.get? a=some o∧o.ExactDict∧o.data = .dict es ep∧es.toList=xs.map (entryOfKey (tupleKind (b2b P w)))∧(xs.map (·.1)).Nodup
 | .set S n=>h.SetOf (intKind P w) a S n
 | .ins C dx fs=>H dx=some (.own a)∧fs.length≤1000∧dx≠a∧h.get? a=some (PySem.W.instObj C dx) ∧
   ∃ mA,h.Ns1 dx mA∧(∀ f,c2J (fs.lookup f) (mA f))∧PySem.Within mA (fs.map (·.1))
 | .own _=>∃ o,h.get? a=some o
 | .xd fs=>∃ mA,h.Ns1 a mA∧∀ f,c2J (fs.lookup f) (mA f)
 | .rng lo hi=>∃ t u v,h.get? a=some { cls:=.type "range",data:=.fields #[.int lo t,.int hi u,.int 1 v] }
 | .frz o u=>h.get? a=some o∧E6 H h a u
 | .tbl ps=>h.get? a=some { cls:=.none,data:=.fields ps }
 | .met f x=>h.get? a=some (PySem.W.methodObj (.ref f) (.ref x))
 | .ext φ=>φ h∧(∃ o,h.get? a=some o)∧∀ h1 h2:Heap,φ h1→(∀ o,h1.get? a=some o→h2.get? a=some o)→φ h2
noncomputable def HOk(H:Hp)(h:Heap):Prop:=∀ a o,H a=some o→E6 P w H h a o
end
section
variable {P:Program} {w:World} {H H':Hp} {h h':Heap} {a:Addr} {o:HO}
theorem E6.lt(x:E6 P w H h a o):a<h.objs.size:=by
 cases o with
 | lst xs=>obtain⟨_,_,_,_,e⟩:=x;exact c89 e
 | tup xs=>obtain⟨_,_,_,p⟩:=x;exact p.lt
 | dK kvs=>obtain⟨_,_,_,_,o,_,_,e,_⟩:=x;exact c89 e
 | dT kvs=>obtain⟨_,_,_,_,o,_,_,e,_⟩:=x;exact c89 e
 | set S n=>obtain⟨o,_,_,_,e,_⟩:=x;exact c89 e
 | ins C dx fs=>obtain⟨_,_,_,e,_⟩:=x;exact c89 e
 | own y=>obtain⟨_,e⟩:=x;exact c89 e
 | xd fs=>obtain⟨_,⟨_,_,_,e,_⟩,_⟩:=x;exact c89 e
 | rng lo hi=>obtain⟨_,_,_,e⟩:=x;exact c89 e
 | frz ob u=>obtain⟨e,_⟩:=x;exact c89 e
 | tbl ps=>exact c89 (show h.get? a=some _ from x)
 | met f y=>exact c89 (show h.get? a=some _ from x)
 | ext φ=>obtain⟨_,⟨_,e⟩,_⟩:=x;exact c89 e
theorem Paired.mapP{α β:Type}{F G:α→β→Prop}:∀{l₁:List α} {l₂:List β},Paired F l₁ l₂→(∀ a b,F a b→G a b)→Paired G l₁ l₂
 | _,_,.nil,_=>.nil
 | _,_,.cons r t,f=>.cons (f _ _ r) (Paired.mapP t f)
theorem E6.stay(x:E6 P w H h a o)(k:∀ b u,(b=a∨H b=some (.own a))→h.get? b=some u→h'.get? b=some u)
  (ho:∀ b,H b=some (.own a)→H' b=some (.own a)) (ht:∀ b xs,H b=some (.tup xs)→H' b=some (.tup xs)):E6 P w H' h' a o:=by
 induction o with
 | lst xs=>obtain⟨z,its,n,r,e⟩:=x;exact⟨z,its,n,r,k _ _ (.inl rfl) e⟩
 | tup xs=>obtain⟨z,its,r,ob,e,c⟩:=x;exact⟨z,its,r,ob,k _ _ (.inl rfl) e,c⟩
 | dK kvs=>obtain⟨z,y,vs,r,ob,es,ep,e,c⟩:=x;exact⟨z,y,vs,r,ob,es,ep,k _ _ (.inl rfl) e,c⟩
 | dT kvs =>
  obtain⟨z,y,xs,r,ob,es,ep,e,c⟩:=x
  exact⟨z,y,xs,Paired.mapP r fun p q z=>⟨z.1,ht _ _ z.2.1,z.2.2⟩,ob,es,ep,k _ _ (.inl rfl) e,c⟩
 | set S n=>obtain⟨ob,es,ep,t,e,c⟩:=x;exact⟨ob,es,ep,t,k _ _ (.inl rfl) e,c⟩
 | ins C dx fs =>
  obtain⟨d,z,ne,e,mA,⟨od,es,ep,e2,c⟩,r⟩:=x
  exact⟨ho _ d,z,ne,k _ _ (.inl rfl) e,mA,⟨od,es,ep,k _ _ (.inr d) e2,c⟩,r⟩
 | own y=>obtain⟨ob,e⟩:=x;exact⟨ob,k _ _ (.inl rfl) e⟩
 | xd fs=>obtain⟨mA,⟨od,es,ep,e,c⟩,r⟩:=x;exact⟨mA,⟨od,es,ep,k _ _ (.inl rfl) e,c⟩,r⟩
 | rng lo hi=>obtain⟨t,u,v,e⟩:=x;exact⟨t,u,v,k _ _ (.inl rfl) e⟩
 | frz ob u ih=>obtain⟨e,q⟩:=x;exact⟨k _ _ (.inl rfl) e,ih q⟩
 | tbl ps =>
  have e:h.get? a=some { cls:=.none,data:=.fields ps }:=x
  show h'.get? a=some { cls:=.none,data:=.fields ps }
  exact k a _ (.inl rfl) e
 | met f y =>
  have e:h.get? a=some (PySem.W.methodObj (.ref f) (.ref y)):=x
  show h'.get? a=some (PySem.W.methodObj (.ref f) (.ref y))
  exact k a _ (.inl rfl) e
 | ext φ=>obtain⟨p,⟨o,e⟩,st⟩:=x;exact⟨st _ _ p fun o q=>k _ _ (.inl rfl) q,⟨o,k _ _ (.inl rfl) e⟩,st⟩
theorem HOk.lt(x:HOk P w H h)(e:H a=some o):a<h.objs.size:=(x a o e).lt
theorem HOk.fresh(x:HOk P w H h)(e:h.objs.size≤a):H a=none:=by
 cases q:H a with
 | none=>rfl
 | some u=>exact absurd (c80 (x.lt q) e) (d0a _)
theorem HOk.kept(x:HOk P w H h)(k:∀ b u,h.get? b=some u→h'.get? b=some u):HOk P w H h':=fun a o e =>
 (x a o e).stay (fun b u _ q=>k b u q) (fun _ q=>q) fun _ _ q=>q
theorem HOk.laid(x:HOk P w H h)(k:∀ b u,h.get? b=some u→h'.get? b=some u)(hp:h.objs.size≤a)(new:E6 P w (upd H a o) h' a o):HOk P w (upd H a o) h':=fun b u e=>by
 have hn:=x.fresh hp
 by_cases hb:b=a
 ·subst hb;rw[j6]at e;cases e;exact new
 ·rw[j8 hb]at e
  exact(x b u e).stay (fun c v _ q=>k c v q) (fun c q=>by rw[j8 (J4 q hn)];exact q) fun c xs q=>by rw[j8 (J4 q hn)];exact q
end
noncomputable def Rd(H:Hp)(a:Addr)(u:HO):Prop:=H a=some u ∨ ∃ o,H a=some (.frz o u)
theorem Rd.of{H:Hp}{a:Addr}{u:HO}(h:H a=some u):Rd H a u:=.inl h
theorem Rd.ok{P:Program}{w:World}{H:Hp}{h:Heap}{a:Addr}{u:HO}(r:Rd H a u)(x:HOk P w H h):E6 P w H h a u:=by
 rcases r with r|⟨o,r⟩
 ·exact x a u r
 ·obtain⟨_,q⟩:=x a _ r
  exact q
noncomputable def Mut:Option HO→Prop
 | some (.lst _)=>True
 | some (.dK _)=>True
 | some (.dT _)=>True
 | some (.set _ _)=>True
 | some (.ins _ _ _)=>True
 | some (.ext _)=>True
 | _=>False
section
variable {P:Program} {w:World} {H:Hp} {h h':Heap} {x e:Addr} {o':HO}
theorem HOk.write(ok:HOk P w H h)(mu:Mut (H x))(he:e=x∨H e=some (.own x))(k:∀ b u,b≠e→h.get? b=some u→h'.get? b=some u)(heo:∃ u,h'.get? e=some u)
  (new:E6 P w (upd H x o') h' x o'):HOk P w (upd H x o') h':=fun b u q=>by
 have nown:∀ c y,H c=some (.own y)→c≠x:=fun c y r z=>by subst z;rw[r]at mu;exact mu
 have ntup:∀ c xs,H c=some (.tup xs)→c≠x:=fun c xs r z=>by subst z;rw[r]at mu;exact mu
 by_cases hb:b=x
 ·subst hb;rw[j6]at q;cases q;exact new
 ·rw[j8 hb]at q
  by_cases hbe:b=e
  ·have q':H b=some (.own x):=by
    rcases he with z|z
    ·exact absurd (hbe.trans z) hb
    ·rw[hbe];exact z
   rw[q]at q';cases q'
   obtain⟨v,hv⟩:=heo
   exact⟨v,by rw[hbe];exact hv⟩
  ·refine(ok b u q).stay (fun c v hc r=>k c v ?_ r) (fun c r=>by rw[j8 (nown c b r)];exact r) fun c xs r=>by rw[j8 (ntup c xs r)];exact r
   rcases hc with rfl|hc
   ·exact hbe
   ·rintro rfl
    rcases he with z|z
    ·exact nown c b hc z
    ·rw[hc]at z;cases z;exact hb rfl
end
structure Un(fs ex:List Addr)(H H':Hp)(h h':Heap):Prop where
 keep:∀ b o,h.get? b=some o→H b=none→b∉fs→b∉ex→h'.get? b=some o
 slot:∀ b o,h.get? b=some o→H b=none→b∈fs→b∉ex→∃ sl,h'.get? b=some { o with slots:=sl }
 free:∀ b o,h.get? b=some o→H b=none→b∉ex→H' b=none
 there:∀ b o,h.get? b=some o→b∉ex→∃ o',h'.get? b=some o'
 tups:∀ b xs,H b=some (.tup xs)→H' b=some (.tup xs)
 frzs:∀ b o u,H b=some (.frz o u)→H' b=some (.frz o u)
 tbls:∀ b ps,H b=some (.tbl ps)→∃ more,H' b=some (.tbl (ps++more))
section
variable {fs fs' ex ex':List Addr} {H H1 H2:Hp} {h h1 h2 h':Heap} {a x e:Addr} {o:HO}
theorem Un.any(u:Un fs ex H H1 h h1){b:Addr}{ob:Obj}(q:h.get? b=some ob)(n:H b=none)(hx:b∉ex):∃ sl,h1.get? b=some { ob with slots:=sl }:=by
 by_cases hb:b∈fs
 ·exact u.slot b ob q n hb hx
 ·exact⟨ob.slots,u.keep b ob q n hb hx⟩
theorem Un.trans(a:Un fs ex H H1 h h1)(b:Un fs ex H1 H2 h1 h2):Un fs ex H H2 h h2 where
 keep:=fun c ob q n hc hx=>b.keep c ob (a.keep c ob q n hc hx) (a.free c ob q n hx) hc hx
 slot:=fun c ob q n hc hx=>by
  obtain⟨sl,e1⟩:=a.slot c ob q n hc hx
  obtain⟨sl',e2⟩:=b.slot c _ e1 (a.free c ob q n hx) hc hx
  exact⟨sl',e2⟩
 free:=fun c ob q n hx=>by
  obtain⟨o',e1⟩:=a.there c ob q hx
  exact b.free c o' e1 (a.free c ob q n hx) hx
 there:=fun c ob q hx=>by
  obtain⟨o',e1⟩:=a.there c ob q hx
  exact b.there c o' e1 hx
 tups:=fun c xs q=>b.tups c xs (a.tups c xs q)
 frzs:=fun c ob xs q=>b.frzs c ob xs (a.frzs c ob xs q)
 tbls:=fun c ps q=>by
  obtain⟨m1,e1⟩:=a.tbls c ps q
  obtain⟨m2,e2⟩:=b.tbls c _ e1
  exact⟨m1++m2,by rw[e2,Array.append_assoc]⟩
theorem Un.kept(k:∀ b u,h.get? b=some u→h'.get? b=some u):Un fs ex H H h h' :=
 ⟨fun b ob q _ _ _=>k b ob q,fun b ob q _ _ _=>⟨ob.slots,k b ob q⟩,fun _ _ _ n _=>n,fun b ob q _=>⟨ob,k b ob q⟩,fun _ _ q=>q,fun _ _ _ q=>q,fun _ ps q=>⟨#[],by rw[q];simp⟩⟩
theorem Un.refl:Un fs ex H H h h:=Un.kept fun _ _ q=>q
theorem Un.laid(k:∀ b u,h.get? b=some u→h'.get? b=some u)(hp:h.objs.size≤a)(hn:H a=none):Un fs ex H (upd H a o) h h' where
 keep:=fun b u q _ _ _=>k b u q
 slot:=fun b u q _ _ _=>⟨u.slots,k b u q⟩
 free:=fun b u q n _=>by rw[j8 (c9y (c80 (c89 q) hp))];exact n
 there:=fun b u q _=>⟨u,k b u q⟩
 tups:=fun b xs q=>by rw[j8 (J4 q hn)];exact q
 frzs:=fun b u xs q=>by rw[j8 (J4 q hn)];exact q
 tbls:=fun b ps q=>⟨#[],by rw[j8 (J4 q hn),q];simp⟩
theorem Un.write(mu:Mut (H x))(he:e=x∨H e=some (.own x))(k:∀ b u,b≠e→h.get? b=some u→h'.get? b=some u)(heo:∃ u,h'.get? e=some u):Un fs ex H (upd H x o) h h':=by
 have hx:∀ b,H b=none→b≠x:=fun b n z=>by subst z;rw[n]at mu;exact mu
 have hb:∀ b,H b=none→b≠e:=fun b n z=>by
  subst z
  rcases he with r|r
  ·exact hx b n r
  ·rw[n]at r;cases r
 have hm:∀ b u,H b=some u→¬ Mut (some u)→b≠x:=fun b u q nm z=>by subst z;rw[q]at mu;exact nm mu
 refine⟨fun b u q n _ _=>k b u (hb b n) q,fun b u q n _ _=>⟨u.slots,k b u (hb b n) q⟩,fun b u q n _=>by rw[j8 (hx b n)];exact n,fun b u q _=>?_,
  fun b xs q=>by rw[j8 (hm b _ q fun z=>z)];exact q,fun b u xs q=>by rw[j8 (hm b _ q fun z=>z)];exact q,fun b ps q=>⟨#[],by rw[j8 (hm b _ q fun z=>z),q];simp⟩⟩
 by_cases hbe:b=e
 ·subst hbe;exact heo
 ·exact⟨u,k b u hbe q⟩
theorem Un.mono(u:Un fs ex H H1 h h1)(hs:∀ b∈fs,b∈fs')(hx:∀ b∈ex,b∈ex'):Un fs' ex' H H1 h h1 :=
 ⟨fun b ob q n hb he=>u.keep b ob q n (fun z=>hb (hs b z)) fun z=>he (hx b z),fun _ _ q n _ he=>u.any q n fun z=>he (hx _ z),fun b ob q n he=>u.free b ob q n fun z=>he (hx b z),fun b ob q he=>u.there b ob q fun z=>he (hx b z),u.tups,u.frzs,u.tbls⟩
end
noncomputable def trk(h:Heap)(H:Hp):List Addr:=(c9H h.objs.size).filter fun a=>(H a).isSome
noncomputable def a7Q(h:Heap)(H:Hp):Heap:=PySem.W.hideAll h (trk h H)
theorem b3q(h:Heap)(H:Hp):(a7Q h H).objs.size=h.objs.size:=PySem.W.hideAll_size _ _
theorem b6l{h:Heap}{H:Hp}{b:Addr}{o:Obj}(e:h.get? b=some o)(n:H b=none):(a7Q h H).get? b=some o :=
 PySem.W.hideAll_get _ e fun hm=>by
  have q:(H b).isSome=true:=(d0h.mp hm).2
  rw[n]at q;simp at q
theorem b8Y{h:Heap}{H:Hp}{b:Addr}{o:Obj}(e:(a7Q h H).get? b=some o):h.get? b=some o∧H b=none:=by
 have e':h.get? b=some o:=PySem.W.of_hideAll (trk h H) e
 refine⟨e',?_⟩
 cases q:H b with
 | none=>rfl
 | some x =>
  have hm:b∈trk h H:=d0h.mpr ⟨c9Q.mpr (c89 e'),by simp[q]⟩
  have z:(a7Q h H).get? b=none:=PySem.W.hideAll_none (trk h H) hm
  rw[z]at e;cases e
noncomputable def b9t(g h:Heap)(L:Addr):List (Addr × Obj):=(c9H h.objs.size).filterMap fun a=>if a=L∨(g.get? a).isSome=true then none else(h.get? a).map fun o=>(a,o)
noncomputable def D4(g h:Heap)(L d:Addr):List (Addr × Obj):=(b9t g h L).filter fun p=>decide (p.1≠d)
end L2
namespace L2
open PySem PySem.Spec PyProof.Rows
structure Mod(K:c8U)(mg:Str→Option Value)(base:Heap):Prop where
 kin:K.In base
 glob:base.Ns mainGlobals mg
 blt:∃ mb,base.Ns builtinsNs mb∧∀ x:Str,x ≠ "__name__" → mb x=bootBuiltins x
 nolimit:base.NoLimit
structure Cx where
 prog:Program
 w:World
 K:c8U
 mg:Str→Option Value
 base:Heap
 A:Around
 N:List Str
 s₀:Shared
 H₀:Hp
 env:Env
 outer:List Env
 stack:List Env
 ex:List Addr
 fn:Str→Bool
 calm:Bool
 pn:List (Addr × Obj)
 xe:Value→Shared→Prop
noncomputable def frs(l:List Env):List Addr:=l.filterMap (·.frame)
noncomputable abbrev Cx.fs(X:Cx):List Addr:=frs X.outer
noncomputable def Vis(sc:Scope)(x:Str):Prop:=sc.names.lookup x=some .local∨sc.names.lookup x=some .cell∨sc.names.lookup x=some .free
noncomputable def Loc(sc:Scope)(x:Str):Prop:=sc.names.lookup x=some .local∨sc.names.lookup x=some .cell
noncomputable def c5P(env:Env)(h:Heap)(m:Str→Option Value)(x:Str)(u:Value):Prop :=
 (env.kindOf x=some .local∧m x=some u)∨((env.kindOf x=some .cell∨env.kindOf x=some .free)∧∃ c,env.cells.lookup x=some c∧h.IsCell c (some u))
structure Cx.Ok(X:Cx):Prop where
 mod:Mod X.K X.mg X.base
 kind:X.env.scope.kind = .function
 glob:X.env.globals=mainGlobals
 blt:X.env.builtins=builtinsNs
 above:X.s₀.heap.objs.size≤X.env.locals
 inj:∀ x y c,X.env.cells.lookup x=some c→X.env.cells.lookup y=some c→x=y
 has:∀ x,(X.env.kindOf x=some .cell∨X.env.kindOf x=some .free)→∃ c,X.env.cells.lookup x=some c
 cab:∀ x c,X.fn x=true→X.env.cells.lookup x=some c→X.s₀.heap.objs.size≤c
 hd:X.calm=true→X.A.handled=none
 frames:X.A.frames=some X.stack
 stk:X.stack=X.outer∨(X.stack=X.env :: X.outer∧X.env.frame=some X.env.locals)
 exf:∀ b∈X.ex,b≠X.env.locals∧∀ x c,X.env.cells.lookup x=some c→c≠b
 bs:∀ b o,X.base.get? b=some o→X.s₀.heap.get? b=some o∧X.H₀ b=none
 bsz:X.base.objs.size≤X.s₀.heap.objs.size
 noex:∀ b o,X.base.get? b=some o→b∉X.ex
 exfs:∀ b∈X.ex,b∉X.fs
 funs:X.s₀.heap.FunFrames X.base X.outer
 frf:∀ b∈X.fs,X.H₀ b=none
structure Inv(X:Cx)(pins:List (Addr × Obj))(σ:List (Option V))(H:Hp)(s:Shared):Prop where
 ok:X.Ok
 os:s.os=X.s₀.os
 bare:AllBare s.gens
 base:Un X.fs X.ex X.H₀ H X.s₀.heap s.heap
 loc:∃ m,s.heap.Ns X.env.locals m∧∀(i:Nat) (x:Str) (v:V),X.N[i]? = some x→σ[i]? = some (some v)→Vis X.env.scope x→∃ u,u6 v u∧c5P X.env s.heap m x u
 cell:∀ x c,X.env.cells.lookup x=some c→∃ v,s.heap.IsCell c v
 free:H X.env.locals=none
 freeC:∀ x c,X.env.cells.lookup x=some c→H c=none
 pin:∀ p∈X.pn++pins,s.heap.get? p.1=some p.2∧H p.1=none∧p.1≠X.env.locals∧p.1∉X.fs∧∀ v,p.2.data ≠ .cell v
 hok:HOk X.prog X.w H s.heap
 len:σ.length=X.N.length
section
variable {X:Cx} {pins:List (Addr × Obj)} {σ:List (Option V)} {H H':Hp} {s:Shared} {h':Heap}
theorem Cx.Ok.nofr(ok:X.Ok){b:Addr}{o:Obj}(e:X.base.get? b=some o):b∉X.fs:=fun hb=>by
 have:=(ok.funs.mem hb).1
 rw[e]at this;cases this
theorem Inv.bs(I:Inv X pins σ H s):∀ b o,X.base.get? b=some o→s.heap.get? b=some o∧H b=none:=fun b o e =>
 ⟨I.base.keep b o (I.ok.bs b o e).1 (I.ok.bs b o e).2 (I.ok.nofr e) (I.ok.noex b o e),I.base.free b o (I.ok.bs b o e).1 (I.ok.bs b o e).2 (I.ok.noex b o e)⟩
theorem Inv.bk(I:Inv X pins σ H s):∀ b o,X.base.get? b=some o→s.heap.get? b=some o:=fun b o e=>(I.bs b o e).1
theorem Inv.mod(I:Inv X pins σ H s):Mod X.K X.mg X.base:=I.ok.mod
theorem Inv.kIn(I:Inv X pins σ H s):X.K.In s.heap:=I.ok.mod.kin.keeps I.bk
theorem Inv.nolimit(I:Inv X pins σ H s):s.heap.NoLimit:=I.ok.mod.nolimit.keeps I.bk
theorem Inv.fr(I:Inv X pins σ H s):∃ m,Fr X.base X.env.locals s.heap m :=
 let ⟨m,hn,_⟩:=I.loc
 ⟨m,hn,I.bk,c85 I.ok.bsz I.ok.above⟩
theorem Inv.lt(I:Inv X pins σ H s):X.env.locals<s.heap.objs.size:=let ⟨_,hn,_⟩:=I.loc;hn.lt
theorem Inv.sz(I:Inv X pins σ H s):X.s₀.heap.objs.size≤s.heap.objs.size:=c85 I.ok.above (d0H I.lt)
theorem Inv.nofs(I:Inv X pins σ H s){a:Addr}(h:s.heap.objs.size≤a):a∉X.fs:=fun hb=>by
 obtain⟨_,o,ho,_⟩:=I.ok.funs.mem hb
 exact absurd (c80 (c89 ho) (c85 I.sz h)) (d0a _)
theorem Inv.cne(I:Inv X pins σ H s):∀ x c,X.env.cells.lookup x=some c→c≠X.env.locals:=fun x c e z=>by
 obtain⟨v,o,ho,hd⟩:=I.cell x c e
 obtain⟨m,⟨o',es,ep,ho',hd',_⟩,_⟩:=I.loc
 rw[z,ho']at ho;cases ho;rw[hd']at hd;cases hd
theorem Inv.funs(I:Inv X pins σ H s):s.heap.FunFrames X.base X.outer:=by
 have all:∀(l:List Env),(∀ b∈frs l,b∈X.fs)→X.s₀.heap.FunFrames X.base l→s.heap.FunFrames X.base l:=by
  intro l
  induction l with
  | nil=>intro _ _;trivial
  | cons env r ih =>
   intro hs hl
   obtain⟨hk,⟨L,o,hf,hn,ho,hd⟩,hr⟩:=hl
   have hL:L∈X.fs:=hs L (by unfold frs;rw[d0T,hf];exact c9I)
   obtain⟨sl,e⟩:=I.base.slot L o ho (I.ok.frf L hL) hL fun z=>I.ok.exfs L z hL
   exact⟨hk,⟨L,_,hf,hn,e,hd⟩,ih (fun b hb=>hs b (by unfold frs;rw[d0T,hf];exact c9r _ hb)) hr⟩
 exact all X.outer (fun _ hb=>hb) I.ok.funs
theorem Inv.stack(I:Inv X pins σ H s):s.heap.FunFrames X.base X.stack:=by
 rcases I.ok.stk with e|⟨e,hf⟩
 ·rw[e];exact I.funs
 ·rw[e]
  obtain⟨m,hn,_⟩:=I.loc
  refine .cons (by rw[I.ok.kind];decide) hf hn ?_ I.funs
  exact d1D (c85 I.ok.bsz I.ok.above)
theorem Inv.stkSub(I:Inv X pins σ H s):∀ b∈frs X.stack,b∈X.env.locals :: X.fs:=fun b hb=>by
 rcases I.ok.stk with e|⟨e,hf⟩
 ·rw[e]at hb;exact c9r _ hb
 ·rw[e]at hb
  unfold frs at hb
  rw[d0T,hf]at hb
  exact hb
theorem Inv.stkFree(I:Inv X pins σ H s):∀ b∈frs X.stack,H b=none:=fun b hb=>by
 rcases c9l.mp (I.stkSub b hb)with e|hb
 ·rw[e];exact I.free
 ·obtain⟨_,o,ho,_⟩:=I.ok.funs.mem hb
  exact I.base.free b o ho (I.ok.frf b hb) fun z=>I.ok.exfs b z hb
theorem Inv.step{g':Array GenState}{t':Nat}{d':Drawn}{ch:List Addr}(I:Inv X pins σ H s)
  (hch:∀ b∈ch,(b∈X.ex∨X.s₀.heap.objs.size≤b)∧b≠X.env.locals∧(∀ x c,X.env.cells.lookup x=some c→c≠b)∧∀ p∈X.pn++pins,p.1≠b)
  (keep:∀ b o,b≠X.env.locals→b∉X.fs→b∉ch→s.heap.get? b=some o→H b=none→h'.get? b=some o)
  (slot:∀ b o,b≠X.env.locals→b∈X.fs→b∉ch→s.heap.get? b=some o→H b=none→∃ sl,h'.get? b=some { o with slots:=sl }) (free:∀ b o,b∉ch→s.heap.get? b=some o→H b=none→H' b=none)
  (there:∀ b o,b∉ch→s.heap.get? b=some o→∃ o',h'.get? b=some o')
  (tups:∀ b xs,H b=some (.tup xs)→H' b=some (.tup xs)) (frzs:∀ b o u,H b=some (.frz o u)→H' b=some (.frz o u)) (tbls:∀ b ps,H b=some (.tbl ps)→∃ more,H' b=some (.tbl (ps++more)))
  (ns:∀ m,s.heap.Ns X.env.locals m→h'.Ns X.env.locals m) (hok:HOk X.prog X.w H' h') (hg:AllBare g') :
  Inv X pins σ H' { s with heap:=h',gens:=g',drawn:=d',toks:=t' }:=by
 have neL:∀ b o,X.s₀.heap.get? b=some o→b≠X.env.locals:=fun b o e=>c9y (c80 (c89 e) I.ok.above)
 have neC:∀ b o,X.s₀.heap.get? b=some o→b∉X.ex→b∉ch:=fun b o e hx hb=>by
  rcases(hch b hb).1 with z|z
  ·exact hx z
  ·exact absurd (c80 (c89 e) z) (d0a _)
 have cellK:∀ x c,X.env.cells.lookup x=some c→∀ v,s.heap.IsCell c v→h'.IsCell c v:=fun x c e v zz=>by
  obtain⟨o,ho,hd⟩:=zz
  have nch:c∉ch:=fun z=>(hch c z).2.2.1 x c e rfl
  by_cases hc:c∈X.fs
  ·obtain⟨sl,q⟩:=slot c o (I.cne x c e) hc nch ho (I.freeC x c e)
   exact⟨_,q,hd⟩
  ·exact⟨o,keep c o (I.cne x c e) hc nch ho (I.freeC x c e),hd⟩
 refine⟨I.ok,I.os,hg,⟨fun b o e n hb hx=>?_,fun b o e n hb hx=>?_,fun b o e n hx=>?_,fun b o e hx=>?_,fun b xs e=>tups b xs (I.base.tups b xs e),fun b o xs e=>frzs b o xs (I.base.frzs b o xs e),fun b ps e=>?_⟩,?_,fun x c e=>?_,?_,fun x c e=>?_,fun p hp=>?_,hok,I.len⟩
 ·exact keep b o (neL b o e) hb (neC b o e hx) (I.base.keep b o e n hb hx) (I.base.free b o e n hx)
 ·obtain⟨sl,e1⟩:=I.base.slot b o e n hb hx
  obtain⟨sl',e2⟩:=slot b _ (neL b o e) hb (neC b o e hx) e1 (I.base.free b o e n hx)
  exact⟨sl',e2⟩
 ·obtain⟨o',e1⟩:=I.base.there b o e hx
  exact free b o' (neC b o e hx) e1 (I.base.free b o e n hx)
 ·obtain⟨o',e1⟩:=I.base.there b o e hx
  exact there b o' (neC b o e hx) e1
 ·obtain⟨m1,e1⟩:=I.base.tbls b ps e
  obtain⟨m2,e2⟩:=tbls b _ e1
  exact⟨m1++m2,by rw[e2,Array.append_assoc]⟩
 ·obtain⟨m,hn,hl⟩:=I.loc
  refine⟨m,ns m hn,fun i x v e1 e2 e3=>?_⟩
  obtain⟨u,r,l⟩:=hl i x v e1 e2 e3
  refine⟨u,r,?_⟩
  rcases l with l|⟨k,c,e,z⟩
  ·exact .inl l
  ·exact .inr ⟨k,c,e,cellK x c e _ z⟩
 ·obtain⟨v,z⟩:=I.cell x c e
  exact⟨v,cellK x c e v z⟩
 ·obtain⟨m,⟨o,_,_,ho,_⟩,_⟩:=I.loc
  exact free _ o (fun z=>(hch _ z).2.1 rfl) ho I.free
 ·obtain⟨v,o,ho,hd⟩:=I.cell x c e
  exact free c o (fun z=>(hch c z).2.2.1 x c e rfl) ho (I.freeC x c e)
 ·obtain⟨e,n,ne,nf,d⟩:=I.pin p hp
  have nch:p.1∉ch:=fun z=>(hch p.1 z).2.2.2 p hp rfl
  exact⟨keep p.1 p.2 ne nf nch e n,free p.1 p.2 nch e n,ne,nf,d⟩
theorem Inv.un{t':Nat}(I:Inv X pins σ H s)(u:Un X.fs [] H H' s.heap h')(hok:HOk X.prog X.w H' h'):Inv X pins σ H' { s with heap:=h',toks:=t' }:=by
 obtain⟨m,⟨o,es,ep,ho,r⟩,_⟩:=id I.loc
 obtain⟨sl,hL⟩:=u.any ho I.free (by simp)
 exact I.step (g':=s.gens) (d':=s.drawn) (ch:=[]) (fun _ z=>nomatch z) (fun b o _ hb _ e n=>u.keep b o e n hb (by simp)) (fun b o _ hb _ e n=>u.slot b o e n hb (by simp)) (fun b o _ e n=>u.free b o e n (by simp)) (fun b o _ e=>u.there b o e (by simp)) u.tups u.frzs u.tbls (fun m' hm=>by
  obtain⟨o',es',ep',ho',r'⟩:=hm
  rw[ho]at ho';cases ho'
  exact⟨_,es',ep',hL,r'⟩) hok I.bare
theorem Inv.call{g':Array GenState}{t':Nat}{d':Drawn}{ch:List Addr}(I:Inv X pins σ H s)(u:Un (frs X.stack) ch H H' s.heap h')(hok:HOk X.prog X.w H' h')(hg:AllBare g')
  (hch:∀ b∈ch,(b∈X.ex∨X.s₀.heap.objs.size≤b)∧b≠X.env.locals∧(∀ x c,X.env.cells.lookup x=some c→c≠b)∧∀ p∈X.pn++pins,p.1≠b) :
  Inv X pins σ H' { s with heap:=h',gens:=g',drawn:=d',toks:=t' }:=by
 obtain⟨m,⟨o,es,ep,ho,r⟩,_⟩:=id I.loc
 obtain⟨sl,hL⟩:=u.any ho I.free fun z=>(hch _ z).2.1 rfl
 exact I.step (ch:=ch) hch (fun b o hL hb hc e n=>u.keep b o e n (fun z=>(c9l.mp (I.stkSub b z)).elim hL hb) hc) (fun b o _ _ hc e n=>u.any e n hc) (fun b o hc e n=>u.free b o e n hc) (fun b o hc e=>u.there b o e hc) u.tups u.frzs u.tbls (fun m' hm=>by
  obtain⟨o',es',ep',ho',r'⟩:=hm
  rw[ho]at ho';cases ho'
  exact⟨_,es',ep',hL,r'⟩) hok hg
theorem Inv.turned{t':Nat}{it:Addr}(I:Inv X pins σ H s)(k:∀ b o,b≠it→s.heap.get? b=some o→h'.get? b=some o)(hn:H it=none)(hL:it≠X.env.locals)
  (h1:it∈X.ex∨X.s₀.heap.objs.size≤it) (h2:∀ x c,X.env.cells.lookup x=some c→c≠it) (h3:∀ p∈X.pn++pins,p.1≠it):Inv X pins σ H { s with heap:=h',toks:=t' }:=by
 have nit:∀ b u,H b=some u→b≠it:=fun b u e z=>by rw[z,hn]at e;cases e
 refine I.step (g':=s.gens) (d':=s.drawn) (ch:=[it]) (fun b hb=>?_) (fun b o _ _ hc e _=>k b o (fun z=>hc (by simp[z])) e) (fun b o _ _ hc e _=>⟨o.slots,k b o (fun z=>hc (by simp[z])) e⟩) (fun _ _ _ _ n=>n)
  (fun b o hc e=>⟨o,k b o (fun z=>hc (by simp[z])) e⟩) (fun _ _ e=>e) (fun _ _ _ e=>e) (fun b ps e=>⟨#[],by rw[e];simp⟩) (fun m hm=>?_) (fun b u e=>?_) I.bare
 ·have e:b=it:=by simpa using hb
  subst e
  exact⟨h1,hL,h2,h3⟩
 ·obtain⟨o,es,ep,ho,r⟩:=hm
  exact⟨o,es,ep,k _ o (Ne.symm hL) ho,r⟩
 ·refine(I.hok b u e).stay (fun c v hc q=>k c v ?_ q) (fun _ q=>q) fun _ _ q=>q
  rcases hc with z|z
  ·rw[z];exact nit b u e
  ·exact nit c _ z
theorem Inv.tok(I:Inv X pins σ H s)(t:Nat):Inv X pins σ H { s with toks:=t }:=I.un (h':=s.heap) (t':=t) Un.refl I.hok
theorem Inv.kept{t':Nat}(I:Inv X pins σ H s)(k:∀ b u,s.heap.get? b=some u→h'.get? b=some u):Inv X pins σ H { s with heap:=h',toks:=t' }:=I.un (Un.kept k) (I.hok.kept k)
theorem Inv.laid{a:Addr}{o:HO}{t':Nat}(I:Inv X pins σ H s)(k:∀ b u,s.heap.get? b=some u→h'.get? b=some u)(hp:s.heap.objs.size≤a)(new:E6 X.prog X.w (upd H a o) h' a o) :
  Inv X pins σ (upd H a o) { s with heap:=h',toks:=t' }:=I.un (Un.laid k hp (I.hok.fresh hp)) (I.hok.laid k hp new)
theorem Inv.write{x e:Addr}{o:HO}{t':Nat}(I:Inv X pins σ H s)(mu:Mut (H x))(he:e=x∨H e=some (.own x))(k:∀ b u,b≠e→s.heap.get? b=some u→h'.get? b=some u)(heo:∃ u,h'.get? e=some u)
  (new:E6 X.prog X.w (upd H x o) h' x o):Inv X pins σ (upd H x o) { s with heap:=h',toks:=t' }:=I.un (Un.write mu he k heo) (I.hok.write mu he k heo new)
theorem Inv.pins_of{pins':List (Addr × Obj)}(I:Inv X pins σ H s)(h:∀ p∈pins',s.heap.get? p.1=some p.2∧H p.1=none∧p.1≠X.env.locals∧p.1∉X.fs∧∀ v,p.2.data ≠ .cell v):Inv X pins' σ H s :=
 ⟨I.ok,I.os,I.bare,I.base,I.loc,I.cell,I.free,I.freeC,fun p hp=>(c9g.mp hp).elim (fun z=>I.pin p (d0g _ z)) (h p),I.hok,I.len⟩
theorem a9n{N:List Str}(hN:N.Nodup){i j:Nat}{x:Str}(a:N[i]? = some x)(b:N[j]? = some x):i=j:=by
 obtain⟨h1,e1⟩:=c8W.mp a
 obtain⟨h2,e2⟩:=c8W.mp b
 exact(List.getElem_inj hN).mp (e1.trans e2.symm)
theorem a6k{M:Model}{A:Around}{E:Value→Shared→Prop}{i:Nat}{x:Str}{v:V}{u:Value}{Q:Unit→Shared→Prop}(I:Inv X pins σ H s)(hN:X.N.Nodup)(hi:X.N[i]? = some x)(hx:Loc X.env.scope x)(r:u6 v u)
  (h:∀ s',Inv X pins (σ.set i (some v)) H s'→(∃ a,Heap.SameBut a s.heap s'.heap∧(a=X.env.locals∨X.env.cells.lookup x=some a))→Q () s') (hf:X.fn x=true∨X.env.scope.names.lookup x=some .local:=by first|exact .inl rfl|exact .inr rfl|assumption):wpAny M A (storeName X.env x u) Q E s:=by
 obtain⟨m,hn,hl⟩:=id I.loc
 have hcls:(X.env.scope.kind == .class || (X.env.scope.kind == .module && X.env.locals != X.env.globals))=false:=by rw[I.ok.kind];rfl
 have hiσ:i<σ.length:=by rw[I.len];exact(c8W.mp hi).1
 have cne:=I.cne
 have tracked:∀{a:Addr} {h':Heap},(∃ o,s.heap.get? a=some o∧H a=none)→Heap.SameBut a s.heap h'→HOk X.prog X.w H h':=fun{a h'} ha hs b ob e=>by
  obtain⟨_,_,hfree⟩:=ha
  refine(I.hok b ob e).stay (fun c w' hc q=>(hs.2 c ?_).trans q) (fun _ q=>q) fun _ _ q=>q
  rintro rfl
  rcases hc with rfl|hc
  ·rw[hfree]at e;cases e
  ·rw[hfree]at hc;cases hc
 rcases hx with hk|hk
 ·refine wpAny_storeName_local hk hn (fun h' hn' hs=>?_) hcls
  obtain⟨oL,_,_,hoL,_⟩:=id hn
  refine h _ ⟨I.ok,I.os,I.bare,⟨fun b o e n hb hx=>?_,fun b o e n hb hx=>?_,I.base.free,fun b o e hx=>?_,I.base.tups,I.base.frzs,I.base.tbls⟩,⟨_,hn',fun j y v' e1 e2 e3=>?_⟩,fun y c e=>?_,I.free,I.freeC,fun p hp=>?_,tracked ⟨oL,hoL,I.free⟩ hs,by simpa using I.len⟩ ⟨_,hs,.inl rfl⟩
  ·exact(hs.2 b (c9y (c80 (c89 e) I.ok.above))).trans (I.base.keep b o e n hb hx)
  ·obtain⟨sl,e1⟩:=I.base.slot b o e n hb hx
   exact⟨sl,(hs.2 b (c9y (c80 (c89 e) I.ok.above))).trans e1⟩
  ·obtain⟨o',e1⟩:=I.base.there b o e hx
   exact⟨o',(hs.2 b (c9y (c80 (c89 e) I.ok.above))).trans e1⟩
  ·by_cases hj:j=i
   ·subst hj
    rw[hi]at e1;cases e1
    rw[d1t hiσ]at e2
    cases e2
    exact⟨u,r,.inl ⟨hk,by simp⟩⟩
   ·rw[d1E (Ne.symm hj)]at e2
    obtain⟨u',r',q⟩:=hl j y v' e1 e2 e3
    refine⟨u',r',?_⟩
    rcases q with⟨k,e⟩|⟨k,c,e,z⟩
    ·refine .inl ⟨k,?_⟩
     have:y≠x:=fun e=>hj (a9n hN e1 (e▸hi))
     simp[this,e]
    ·exact .inr ⟨k,c,e,z.sameBut hs (cne y c e)⟩
  ·obtain⟨w',z⟩:=I.cell y c e
   exact⟨w',z.sameBut hs (cne y c e)⟩
  ·obtain⟨e,n,ne,nf,d⟩:=I.pin p hp
   exact⟨(hs.2 p.1 ne).trans e,n,ne,nf,d⟩
 ·have hfn:X.fn x=true:=by
   rcases hf with z|z
   ·exact z
   ·rw[z]at hk;cases hk
  obtain⟨c,hc⟩:=I.ok.has x (.inl hk)
  obtain⟨w',z⟩:=I.cell x c hc
  refine wpAny_storeName_cell I.ok.kind hk hc z (fun h' hc' hs=>?_)
  obtain⟨oc,hoc,hocd⟩:=id z
  refine h { s with heap:=h' } ⟨I.ok,I.os,I.bare,⟨fun b o e n hb hx=>?_,fun b o e n hb hx=>?_,I.base.free,fun b o e hx=>?_,I.base.tups,I.base.frzs,I.base.tbls⟩,⟨m,hn.sameBut hs (Ne.symm (cne x c hc)),fun j y v' e1 e2 e3=>?_⟩,fun y c' e=>?_,I.free,I.freeC,fun p hp=>?_,tracked ⟨oc,hoc,I.freeC x c hc⟩ hs,by simpa using I.len⟩ ⟨c,hs,.inr hc⟩
  ·exact(hs.2 b (c9y (c80 (c89 e) (I.ok.cab x c hfn hc)))).trans (I.base.keep b o e n hb hx)
  ·obtain⟨sl,e1⟩:=I.base.slot b o e n hb hx
   exact⟨sl,(hs.2 b (c9y (c80 (c89 e) (I.ok.cab x c hfn hc)))).trans e1⟩
  ·obtain⟨o',e1⟩:=I.base.there b o e hx
   exact⟨o',(hs.2 b (c9y (c80 (c89 e) (I.ok.cab x c hfn hc)))).trans e1⟩
  ·by_cases hj:j=i
   ·subst hj
    rw[hi]at e1;cases e1
    rw[d1t hiσ]at e2
    cases e2
    exact⟨u,r,.inr ⟨.inl hk,c,hc,hc'⟩⟩
   ·rw[d1E (Ne.symm hj)]at e2
    obtain⟨u',r',q⟩:=hl j y v' e1 e2 e3
    refine⟨u',r',?_⟩
    rcases q with q|⟨k,c',e,z'⟩
    ·exact .inl q
    ·refine .inr ⟨k,c',e,z'.sameBut hs ?_⟩
     rintro rfl
     exact hj (a9n hN e1 (I.ok.inj _ _ _ e hc▸hi))
  ·by_cases hcc:c'=c
   ·subst hcc;exact⟨_,hc'⟩
   ·obtain⟨w2,z2⟩:=I.cell y c' e
    exact⟨w2,z2.sameBut hs hcc⟩
  ·obtain⟨e,n,ne,nf,d⟩:=I.pin p hp
   refine⟨(hs.2 p.1 ?_).trans e,n,ne,nf,d⟩
   intro q
   rw[q,hoc]at e
   have q':oc=p.2:=Option.some.inj e
   exact d w' (by rw[← q'];exact hocd)
theorem a1y{M:Model}{A:Around}{E:Value→Shared→Prop}{i:Nat}{x:Str}{v:V}{u:Value}{Q:Unit→Shared→Prop}(I:Inv X pins σ H s)(hN:X.N.Nodup)(hi:X.N[i]? = some x)(hx:Loc X.env.scope x)(r:u6 v u)
  (h:∀ s',Inv X pins (σ.set i (some v)) H s'→Q () s') (hf:X.fn x=true∨X.env.scope.names.lookup x=some .local:=by first|exact .inl rfl|exact .inr rfl|assumption):wpAny M A (storeName X.env x u) Q E s :=
 a6k I hN hi hx r (fun s' I' _=>h s' I') hf
theorem Inv.call'{s':Shared}{ch:List Addr}(I:Inv X pins σ H s)(ho:s'.os=s.os)(u:Un (frs X.stack) ch H H' s.heap s'.heap)(hok:HOk X.prog X.w H' s'.heap)(hg:AllBare s'.gens)
  (hch:∀ b∈ch,(b∈X.ex∨X.s₀.heap.objs.size≤b)∧b≠X.env.locals∧(∀ x c,X.env.cells.lookup x=some c→c≠b)∧∀ p∈X.pn++pins,p.1≠b):Inv X pins σ H' s':=by
 obtain⟨h',g',d',t',o'⟩:=s'
 have e:o'=s.os:=ho
 subst e
 exact I.call (g':=g') (t':=t') (d':=d') u hok hg hch
end
noncomputable abbrev XK:=Value→Option Addr→Hp→Prop
noncomputable abbrev St:=List (Option V)
noncomputable abbrev VK:=V→Hp→Prop
noncomputable abbrev TE:=St→Hp→VK→Prop
noncomputable abbrev TT:=St→Hp→(Bool→Hp→Prop)→Prop
noncomputable abbrev TA:=St→Hp→(List V→Hp→Prop)→Prop
structure a9Q where
 nx:St→Hp→Prop
 rt:VK
 bk:St→Hp→Prop:=fun _ _=>False
 ct:St→Hp→Prop:=fun _ _=>False
noncomputable abbrev TS:=a9Q→St→Hp→Prop
noncomputable def EP(X:Cx)(pins:List (Addr × Obj))(σ:St)(Q:VK)(u:Value)(s':Shared):Prop:=∃ v H',Inv X pins σ H' s'∧u6 v u∧Q v H'
noncomputable def TP(X:Cx)(pins:List (Addr × Obj))(σ:St)(Q:Bool→Hp→Prop)(b:Bool)(s':Shared):Prop:=∃ H',Inv X pins σ H' s'∧Q b H'
noncomputable def AP(X:Cx)(pins:List (Addr × Obj))(σ:St)(Q:List V→Hp→Prop)(us:List Value)(s':Shared):Prop:=∃ vs H',Inv X pins σ H' s'∧q9 vs us∧Q vs H'
noncomputable def SP(X:Cx)(pins:List (Addr × Obj))(D:a9Q)(f:Flow)(s':Shared):Prop :=
 match f with
 | .next=>∃ σ' H',Inv X pins σ' H' s'∧D.nx σ' H'
 | .brk=>∃ σ' H',Inv X pins σ' H' s'∧D.bk σ' H'
 | .cont=>∃ σ' H',Inv X pins σ' H' s'∧D.ct σ' H'
 | .ret u=>∃ v σ' H',Inv X pins σ' H' s'∧u6 v u∧D.rt v H'
noncomputable def PE(X:Cx)(e:Expr)(t:TE):Prop :=
 ∀(pins:List (Addr × Obj)) (s:Shared) (σ:St) (H:Hp) (Q:VK),Inv X pins σ H s→t σ H Q→wpAny (model X.prog X.w) X.A (eval e X.env) (EP X pins σ Q) X.xe s
noncomputable def PT(X:Cx)(e:Expr)(t:TT):Prop :=
 ∀(pins:List (Addr × Obj)) (s:Shared) (σ:St) (H:Hp) (Q:Bool→Hp→Prop),Inv X pins σ H s→t σ H Q→wpAny (model X.prog X.w) X.A (isTrue e X.env (eval e X.env)) (TP X pins σ Q) X.xe s
noncomputable def PW(X:Cx)(e:Expr)(t:TT):Prop :=
 ∀(whole:Sem Value) (pins:List (Addr × Obj)) (s:Shared) (σ:St) (H:Hp) (Q:Bool→Hp→Prop),Inv X pins σ H s→t σ H Q→wpAny (model X.prog X.w) X.A (isTrue e X.env whole) (TP X pins σ Q) X.xe s
theorem PW.pt{X:Cx}{e:Expr}{t:TT}(h:PW X e t):PT X e t:=h _
noncomputable def PA(X:Cx)(es:List Expr)(t:TA):Prop :=
 ∀(pos:Pos) (pins:List (Addr × Obj)) (s:Shared) (σ:St) (H:Hp) (Q:List V→Hp→Prop),Inv X pins σ H s→t σ H Q→wpAny (model X.prog X.w) X.A (spliced (backTo pos (starEach es X.env))) (AP X pins σ Q) X.xe s
noncomputable def PS(X:Cx)(st:Stmt)(t:TS):Prop :=
 ∀(pins:List (Addr × Obj)) (s:Shared) (σ:St) (H:Hp) (D:a9Q),Inv X pins σ H s→t D σ H→wpAny (model X.prog X.w) X.A (exec st X.env) (SP X pins D) X.xe s
noncomputable def PSs(X:Cx)(st:List Stmt)(t:TS):Prop :=
 ∀(pins:List (Addr × Obj)) (s:Shared) (σ:St) (H:Hp) (D:a9Q),Inv X pins σ H s→t D σ H→wpAny (model X.prog X.w) X.A (execs st X.env) (SP X pins D) X.xe s
theorem thn{α:Type}{t:Sem α}{Q Q':α→Shared→Prop}{M:Model}{A:Around}{E:Value→Shared→Prop}{s:Shared}(h:wpAny M A t Q E s)(hQ:∀ a s,Q a s→Q' a s):wpAny M A t Q' E s:=wpAny_mono h hQ fun _ _ x=>x
end L2
namespace L2
open PySem PySem.Spec PyProof.Rows
section
variable {X:Cx}
noncomputable def c3x(i:Nat):TE:=fun σ H Q=>∃ v,σ[i]? = some (some v)∧Q v H
noncomputable def tC(v:V):TE:=fun _ H Q=>Q v H
theorem b5B{i:Nat}{x:Str}{pos:Pos}(hN:X.N[i]? = some x)(hv:Vis X.env.scope x)(hd:(x == ("__debug__" : Str))=false:=by decide)(hcd:(x == ("__classdict__" : Str))=false:=by decide):PE X (.Name x pos) (c3x i):=by
 intro pins s σ H Q I h
 obtain⟨v,e,h⟩:=h
 obtain⟨m,hn,hl⟩:=I.loc
 obtain⟨u,r,l⟩:=hl i x v hN e hv
 have fin:EP X pins σ Q u s:=⟨v,H,I,r,h⟩
 rcases l with⟨hk,hm⟩|⟨hk,c,hc,hcell⟩
 ·exact wpAny_Name (wpAny_loadName_local I.ok.kind hk hn hm fin) hd
 ·rcases hk with hk|hk
  ·exact wpAny_Name (wpAny_loadName_cell I.ok.kind hk hc hcell fin) hd
  ·exact wpAny_Name (wpAny_loadName_free I.ok.kind hk hc hcell fin hcd) hd
theorem c1I{i j pos}:PE X (.Constant (.int i) j pos) (tC (.int i)):=fun _ _ _ H _ I h=>wpAny_Constant_int ⟨.int i,H,I.tok _,⟨_,rfl⟩,h⟩
theorem c3U{b j pos}:PE X (.Constant (.bool b) j pos) (tC (.bl b)):=fun _ _ _ H _ I h=>Constant_bool ⟨.bl b,H,I,rfl,h⟩
theorem c1H{j pos}:PE X (.Constant .none j pos) (tC .non):=fun _ _ _ H _ I h=>Constant_none ⟨.non,H,I,rfl,h⟩
theorem c1E{x j pos}:PE X (.Constant (.str x) j pos) (tC (.str x)):=fun _ _ _ H _ I h=>Calls.Constant_str ⟨.str x,H,I.tok _,⟨_,rfl⟩,h⟩
noncomputable def Gl(X:Cx)(x:Str):Prop:=X.env.kindOf x=some .globalImplicit
theorem b2d{E:Value→Shared→Prop}{pins:List (Addr × Obj)}{s:Shared}{σ:St}{H:Hp}{x:Str}{u:Value}{pos:Pos}{Q:Value→Shared→Prop}(I:Inv X pins σ H s)(hg:Gl X x)(hm:X.mg x=some u)(h:Q u s)
  (hd:(x == ("__debug__" : Str))=false:=by decide):wpAny (model X.prog X.w) X.A (eval (.Name x pos) X.env) Q E s :=
 Calls.Name_function_global I.ok.kind hg (Calls.loadGlobal_global (by rw[I.ok.glob];exact I.mod.glob.keeps I.bk) hm h) hd
theorem O1{E:Value→Shared→Prop}{pins:List (Addr × Obj)}{s:Shared}{σ:St}{H:Hp}{x:Str}{u:Value}{pos:Pos}{Q:Value→Shared→Prop}(I:Inv X pins σ H s)(hg:Gl X x)(hm:X.mg x=none)(hv:bootBuiltins x=some u)(h:Q u s)
  (hn:x ≠ "__name__" := by decide) (hd:(x == ("__debug__" : Str))=false:=by decide):wpAny (model X.prog X.w) X.A (eval (.Name x pos) X.env) Q E s:=by
 obtain⟨mb,h1,h2⟩:=I.mod.blt
 exact Calls.Name_function_global I.ok.kind hg (Calls.loadGlobal_builtin (by rw[I.ok.glob];exact I.mod.glob.keeps I.bk) hm (by rw[I.ok.blt];exact h1.keeps I.bk) ((h2 x hn).trans hv) h) hd
theorem b8G{x:Str}{v:V}{u:Value}{pos:Pos}(hg:Gl X x)(hm:X.mg x=some u)(r:u6 v u)(hd:(x == ("__debug__" : Str))=false:=by decide):PE X (.Name x pos) (tC v) :=
 fun _ _ _ H _ I h=>b2d I hg hm ⟨v,H,I,r,h⟩ hd
theorem b8K{x:Str}{v:V}{u:Value}{pos:Pos}(hg:Gl X x)(hm:X.mg x=none)(hv:bootBuiltins x=some u)(r:u6 v u)(hn:x ≠ "__name__" := by decide)(hd:(x == ("__debug__" : Str))=false:=by decide):PE X (.Name x pos) (tC v) :=
 fun _ _ _ H _ I h=>O1 I hg hm hv ⟨v,H,I,r,h⟩ hn hd
variable {a b:Expr} {ta tb:TE} {pos:Pos}
theorem u6.none_iff{x:V}{v:Value}(r:u6 x v):(v == Value.none)=decide (x = .non):=by
 cases x with
 | non=>cases r;rfl
 | bl _=>cases r;rfl
 | int _=>obtain⟨t,rfl⟩:=r;rfl
 | str _=>obtain⟨t,rfl⟩:=r;rfl
 | byt _=>obtain⟨t,rfl⟩:=r;rfl
 | flt _=>obtain⟨t,rfl⟩:=r;rfl
 | ref _=>cases r;rfl
 | ty _=>cases r;rfl
noncomputable def tB(t:TE):TT:=fun σ H Q=>t σ H fun x H1=>∃ c,x = .bl c∧Q c H1
theorem c1r{e:Expr}{t:TE}(h:PE X e t)(he:∀ whole,isTrue e X.env whole=(do let v ← whole;standAt e.pos;holding [v] (truthy v)):=by intro _;rfl):PT X e (tB t):=by
 intro pins s σ H Q I hw
 refine isTrue_plain (thn (h pins s σ H _ I hw) fun v s1 ⟨x,H1,I1,r1,q1⟩=>?_) (he _)
 obtain⟨d,rfl,q⟩:=q1
 cases r1
 exact wpAny_truthy_bool ⟨H1,I1,q⟩
variable {tA tB':TT} {D4:List Expr}
noncomputable def c5r(t u:TT):TT:=fun σ H Q=>t σ H fun c H1=>if c=true then u σ H1 Q else Q false H1
noncomputable def tOr(t u:TT):TT:=fun σ H Q=>t σ H fun c H1=>if c=true then Q true H1 else u σ H1 Q
noncomputable def c5l(t:TT):TT:=fun σ H Q=>t σ H fun c H1=>Q (!c) H1
theorem b8s(ha:PT X a tA):PW X (.BoolOp .And [a] pos) tA:=by
 intro wh pins s σ H Q I h
 refine isTrue_and (thn (ha pins s σ H Q I h) fun c s1 e=>?_)
 cases c with
 | true=>exact isTrue_and_nil e
 | false=>exact e
theorem c1o(ha:PT X a tA):PW X (.BoolOp .Or [a] pos) tA:=by
 intro wh pins s σ H Q I h
 refine isTrue_or (thn (ha pins s σ H Q I h) fun c s1 e=>?_)
 cases c with
 | false=>exact isTrue_or_nil e
 | true=>exact e
theorem c1p(ha:PT X a tA)(hb:PW X (.BoolOp .And (b :: D4) pos) tB'):PW X (.BoolOp .And (a :: b :: D4) pos) (c5r tA tB'):=by
 intro wh pins s σ H Q I h
 refine isTrue_and (thn (ha pins s σ H _ I h) fun c s1 zz=>?_)
 obtain⟨H1,I1,q1⟩:=zz
 cases c with
 | true=>exact hb wh pins s1 σ H1 Q I1 q1
 | false=>exact⟨H1,I1,q1⟩
theorem c3O(ha:PT X a tA)(hb:PW X (.BoolOp .Or (b :: D4) pos) tB'):PW X (.BoolOp .Or (a :: b :: D4) pos) (tOr tA tB'):=by
 intro wh pins s σ H Q I h
 refine isTrue_or (thn (ha pins s σ H _ I h) fun c s1 zz=>?_)
 obtain⟨H1,I1,q1⟩:=zz
 cases c with
 | true=>exact⟨H1,I1,q1⟩
 | false=>exact hb wh pins s1 σ H1 Q I1 q1
theorem c1s(ha:PT X a tA):PT X (.UnaryOp .Not a pos) (c5l tA):=by
 intro pins s σ H Q I h
 exact isTrue_not (ha pins s σ H (fun c H1=>Q (!c) H1) I h)
noncomputable def c3H(ta tb:TE):TE:=fun σ H Q=>ta σ H fun x H1=>∃ c,x = .bl c∧if c=true then tb σ H1 Q else Q (.bl false) H1
noncomputable def c5k(ta tb:TE):TE:=fun σ H Q=>ta σ H fun x H1=>∃ c,x = .bl c∧if c=true then Q (.bl true) H1 else tb σ H1 Q
noncomputable def c3A(ta:TE):TE:=fun σ H Q=>ta σ H fun x H1=>∃ c,x = .bl c∧Q (.bl (!c)) H1
theorem c1F{op}{t:TE}(h:PE X a t):PE X (.BoolOp op [a] pos) t:=fun pins s σ H Q I hw=>BoolOp_one (h pins s σ H Q I hw)
theorem c1K(ha:PE X a ta)(hb:PE X (.BoolOp .And (b :: D4) pos) tb):PE X (.BoolOp .And (a :: b :: D4) pos) (c3H ta tb):=by
 intro pins s σ H Q I h
 refine BoolOp_and (thn (ha pins s σ H _ I h) fun v s1 zz=>?_)
 obtain⟨x,H1,I1,r1,q1⟩:=zz
 obtain⟨c,rfl,q1⟩:=q1
 cases r1
 refine wpAny_truthy_bool ?_
 cases c with
 | true=>exact hb pins s1 σ H1 Q I1 q1
 | false=>exact⟨.bl false,H1,I1,rfl,q1⟩
theorem c3R(ha:PE X a ta)(hb:PE X (.BoolOp .Or (b :: D4) pos) tb):PE X (.BoolOp .Or (a :: b :: D4) pos) (c5k ta tb):=by
 intro pins s σ H Q I h
 refine BoolOp_or (thn (ha pins s σ H _ I h) fun v s1 zz=>?_)
 obtain⟨x,H1,I1,r1,q1⟩:=zz
 obtain⟨c,rfl,q1⟩:=q1
 cases r1
 refine wpAny_truthy_bool ?_
 cases c with
 | false=>exact hb pins s1 σ H1 Q I1 q1
 | true=>exact⟨.bl true,H1,I1,rfl,q1⟩
theorem c1G(ha:PE X a ta):PE X (.UnaryOp .Not a pos) (c3A ta):=by
 intro pins s σ H Q I h
 refine UnaryOp_ (thn (ha pins s σ H _ I h) fun v s1 zz=>?_)
 obtain⟨x,H1,I1,r1,q1⟩:=zz
 obtain⟨c,rfl,q1⟩:=q1
 cases r1
 exact not_of (wpAny_truthy_bool ⟨.bl (!c),H1,I1,rfl,q1⟩)
noncomputable def tIf(t:TT)(ta tb:TE):TE:=fun σ H Q=>t σ H fun c H1=>if c=true then ta σ H1 Q else tb σ H1 Q
theorem b5E{c:Expr}(hc:PT X c tA)(ha:PE X a ta)(hb:PE X b tb):PE X (.IfExp c a b pos) (tIf tA ta tb):=by
 intro pins s σ H Q I h
 refine wpAny_IfExp (thn (hc pins s σ H _ I h) fun d s1 zz=>?_)
 obtain⟨H1,I1,q1⟩:=zz
 cases d with
 | true=>exact ha pins s1 σ H1 Q I1 q1
 | false=>exact hb pins s1 σ H1 Q I1 q1
end
end L2
namespace L2
open PySem PySem.Spec PyProof.Rows
noncomputable def SqL(K:c8U)(H:Hp)(a:Addr)(xs:List V):Prop :=
 Rd H a (.lst xs) ∨
  ∃(o:Obj) (its:Array Value) (n:Nat),K.lookup a=some o∧o.cls = .type "list" ∧ o.dict=none∧o.data = .seq its n∧its.size≤sizeLine∧q9 xs its.toList
noncomputable def SqT(K:c8U)(H:Hp)(a:Addr)(xs:List V):Prop :=
 Rd H a (.tup xs) ∨
  ∃(o:Obj) (its:Array Value) (n:Nat),K.lookup a=some o∧o.cls = .type "tuple" ∧ o.data = .seq its n∧its.size≤sizeLine∧q9 xs its.toList
noncomputable def c5O:Value→Option V
 | .none=>some .non
 | .bool b=>some (.bl b)
 | .int i _=>some (.int i)
 | .str x _=>some (.str x)
 | .bytes b _=>some (.byt b)
 | .float b _=>some (.flt b)
 | .ref a=>some (.ref a)
 | .type n=>some (.ty n)
 | _=>none
theorem u6.abs{x:V}{u:Value}(r:u6 x u):c5O u=some x:=by
 cases x with
 | non=>cases r;rfl
 | bl _=>cases r;rfl
 | int _=>obtain⟨t,rfl⟩:=r;rfl
 | str _=>obtain⟨t,rfl⟩:=r;rfl
 | byt _=>obtain⟨t,rfl⟩:=r;rfl
 | flt _=>obtain⟨t,rfl⟩:=r;rfl
 | ref _=>cases r;rfl
 | ty _=>cases r;rfl
theorem u6.inj{x y:V}{u:Value}(r:u6 x u)(q:u6 y u):x=y:=Option.some.inj (r.abs.symm.trans q.abs)
theorem q9.inj:∀{xs ys:List V} {us:List Value},q9 xs us→q9 ys us→xs=ys
 | _,_,_,.nil,.nil=>rfl
 | _,_,_,.cons r t,.cons r' t'=>by rw[r.inj r',q9.inj t t']
section
variable {X:Cx} {pins:List (Addr × Obj)} {σ:St} {H:Hp} {s:Shared} {a:Addr} {xs ys:List V}
theorem SqL.of{K:c8U}(h:H a=some (.lst xs)):SqL K H a xs:=.inl (.inl h)
theorem SqT.of{K:c8U}(h:H a=some (.tup xs)):SqT K H a xs:=.inl (.inl h)
theorem Inv.list(I:Inv X pins σ H s)(h:SqL X.K H a xs):∃ its:List Value,q9 xs its∧PlainL s.heap a its.toArray∧xs.length≤sizeLine:=by
 rcases h with h|⟨o,its,n,hk,hc,hd,hs,hz,r⟩
 ·obtain⟨z,its,n,r,e⟩:=h.ok I.hok
  exact⟨its,r,⟨_,n,e,rfl,rfl,rfl⟩,z⟩
 ·refine⟨its.toList,r,⟨o,n,I.kIn a o hk,hc,hd,by simpa using hs⟩,?_⟩
  have e:=r.length
  simp only[Array.length_toList]at e
  omega
theorem Inv.tuple(I:Inv X pins σ H s)(h:SqT X.K H a xs):∃ its:List Value,q9 xs its∧IsTup s.heap a its.toArray∧xs.length≤sizeLine:=by
 rcases h with h|⟨o,its,n,hk,hc,hs,hz,r⟩
 ·obtain⟨z,its,r,p⟩:=h.ok I.hok
  exact⟨its,r,p,z⟩
 ·refine⟨its.toList,r,⟨o,I.kIn a o hk,hc,n,by simpa using hs⟩,?_⟩
  have e:=r.length
  simp only[Array.length_toList]at e
  omega
theorem Inv.list_inj(I:Inv X pins σ H s)(h:SqL X.K H a xs)(h':SqL X.K H a ys):xs=ys:=by
 obtain⟨its,r,⟨o,n,e,_,_,d⟩,_⟩:=I.list h
 obtain⟨its',r',⟨o',n',e',_,_,d'⟩,_⟩:=I.list h'
 rw[e]at e';cases e'
 rw[d]at d'
 injection d' with d1 _
 have:its=its':=by simpa using congrArg Array.toList d1
 subst this
 exact r.inj r'
theorem Inv.tuple_inj(I:Inv X pins σ H s)(h:SqT X.K H a xs)(h':SqT X.K H a ys):xs=ys:=by
 obtain⟨its,r,⟨o,e,_,n,d⟩,_⟩:=I.tuple h
 obtain⟨its',r',⟨o',e',_,n',d'⟩,_⟩:=I.tuple h'
 rw[e]at e';cases e'
 rw[d]at d'
 injection d' with d1 _
 have:its=its':=by simpa using congrArg Array.toList d1
 subst this
 exact r.inj r'
end
noncomputable abbrev Cx.wish(X:Cx)(E:Value→Shared→Prop):Cx:={ X with xe:=E }
noncomputable abbrev Cx.nox(X:Cx):Cx:=X.wish fun _ _=>False
theorem Cx.Ok.wish{X:Cx}(ok:X.Ok)(E:Value→Shared→Prop):(X.wish E).Ok :=
 ⟨ok.mod,ok.kind,ok.glob,ok.blt,ok.above,ok.inj,ok.has,ok.cab,ok.hd,ok.frames,ok.stk,ok.exf,ok.bs,ok.bsz,ok.noex,ok.exfs,ok.funs,ok.frf⟩
theorem Cx.Ok.unwish{X:Cx}{E:Value→Shared→Prop}(ok:(X.wish E).Ok):X.Ok :=
 ⟨ok.mod,ok.kind,ok.glob,ok.blt,ok.above,ok.inj,ok.has,ok.cab,ok.hd,ok.frames,ok.stk,ok.exf,ok.bs,ok.bsz,ok.noex,ok.exfs,ok.funs,ok.frf⟩
section
variable {X:Cx} {pins:List (Addr × Obj)} {σ:St} {H:Hp} {s:Shared} {E:Value→Shared→Prop}
theorem Inv.wish(I:Inv X pins σ H s)(E:Value→Shared→Prop):Inv (X.wish E) pins σ H s:=⟨I.ok.wish E,I.os,I.bare,I.base,I.loc,I.cell,I.free,I.freeC,I.pin,I.hok,I.len⟩
theorem Inv.unwish(I:Inv (X.wish E) pins σ H s):Inv X pins σ H s:=⟨I.ok.unwish,I.os,I.bare,I.base,I.loc,I.cell,I.free,I.freeC,I.pin,I.hok,I.len⟩
theorem SP.unwish{D:a9Q}{f:Flow}{s':Shared}(h:SP (X.wish E) pins D f s'):SP X pins D f s':=by
 cases f with
 | next=>obtain⟨σ',H',I,q⟩:=h;exact⟨σ',H',I.unwish,q⟩
 | brk=>obtain⟨σ',H',I,q⟩:=h;exact⟨σ',H',I.unwish,q⟩
 | cont=>obtain⟨σ',H',I,q⟩:=h;exact⟨σ',H',I.unwish,q⟩
 | ret u=>obtain⟨v,σ',H',I,r,q⟩:=h;exact⟨v,σ',H',I.unwish,r,q⟩
theorem PE.nox{e:Expr}{t:TE}(h:PE X.nox e t):PE X e t:=fun pins s σ H Q I hw =>
 wpAny_mono (h pins s σ H Q (I.wish _) hw) (fun _ _ ⟨v,H',I',r,q⟩=>⟨v,H',I'.unwish,r,q⟩) fun _ _ z=>False.elim z
theorem PT.nox{e:Expr}{t:TT}(h:PT X.nox e t):PT X e t:=fun pins s σ H Q I hw =>
 wpAny_mono (h pins s σ H Q (I.wish _) hw) (fun _ _ ⟨H',I',q⟩=>⟨H',I'.unwish,q⟩) fun _ _ z=>False.elim z
theorem PSs.nox{st:List Stmt}{t:TS}(h:PSs X.nox st t):PSs X st t:=fun pins s σ H D I hw =>
 wpAny_mono (h pins s σ H D (I.wish _) hw) (fun _ _ q=>q.unwish) fun _ _ z=>False.elim z
end
section
variable {X:Cx} {st:Stmt} {D4:List Stmt} {t u:TS} {e:Expr} {te:TE} {pos:Pos}
noncomputable def c3B:TS:=fun D σ H=>D.nx σ H
noncomputable def c5h(t u:TS):TS:=fun D σ H=>t { D with nx:=u D } σ H
theorem b8v:PSs X [] c3B:=fun _ _ σ H _ I h=>wpAny_execs_nil ⟨σ,H,I,h⟩
theorem a88(h1:PS X st t)(h2:PSs X D4 u):PSs X (st :: D4) (c5h t u):=by
 intro pins s σ H D I h
 refine wpAny_execs_cons (thn (h1 pins s σ H { D with nx:=u D } I h) fun f s1 q=>?_)
 cases f with
 | next =>
  obtain⟨σ',H',I',q⟩:=q
  exact h2 pins s1 σ' H' D I' q
 | ret v=>exact q
 | brk=>exact q
 | cont=>exact q
theorem b8u(h1:PS X st t):PSs X [st] t:=by
 intro pins s σ H D I h
 refine wpAny_execs_cons (thn (h1 pins s σ H D I h) fun f s1 q=>?_)
 cases f with
 | next=>exact wpAny_execs_nil q
 | ret v=>exact q
 | brk=>exact q
 | cont=>exact q
theorem Inv.quiet{pins:List (Addr × Obj)}{σ:St}{H:Hp}{s:Shared}(I:Inv X pins σ H s):interactive X.env=false:=by simp[interactive,I.ok.kind]
noncomputable def c3E(te:TE):TS:=fun D σ H=>te σ H fun _ H1=>D.nx σ H1
theorem b8w(he:PE X e te)(hs:swapsWith e none pos.line X.env=pure false:=by rfl):PS X (.Expr e pos) (c3E te):=by
 intro pins s σ H D I h
 exact wpAny_Expr_any (thn (he pins s σ H _ I h) fun v s1 ⟨x,H1,I1,r1,q1⟩=>⟨σ,H1,I1,q1⟩) I.quiet hs
noncomputable def c5i(te:TE):TS:=fun D σ H=>te σ H D.rt
theorem c1u(he:PE X e te):PS X (.Return (some e) pos) (c5i te):=by
 intro pins s σ H D I h
 exact wpAny_Return_some (thn (he pins s σ H _ I h) fun v s1 ⟨x,H1,I1,r1,q1⟩=>⟨x,σ,H1,I1,r1,q1⟩)
noncomputable def c5o(c:TT)(t u:TS):TS:=fun D σ H=>c σ H fun b H1=>if b=true then t D σ H1 else u D σ H1
theorem c3P{c:Expr}{a b:List Stmt}{tc:TT}(hc:PT X c tc)(ha:PSs X a t)(hb:PSs X b u):PS X (.If c a b pos) (c5o tc t u):=by
 intro pins s σ H D I h
 refine wpAny_If (thn (hc pins s σ H _ I h) fun d s1 zz=>?_)
 obtain⟨H1,I1,q1⟩:=zz
 cases d with
 | true=>exact ha pins s1 σ H1 D I1 q1
 | false=>exact hb pins s1 σ H1 D I1 q1
noncomputable def c05:TS:=fun _ _ _=>False
theorem b5v:PS X st c05:=fun _ _ _ _ _ _ h=>h.elim
end
noncomputable abbrev TG:=V→St→Hp→(St→Hp→Prop)→Prop
noncomputable abbrev TGs:=List V→St→Hp→(St→Hp→Prop)→Prop
noncomputable def PG(X:Cx)(target:Expr)(t:TG):Prop :=
 ∀(pins:List (Addr × Obj)) (s:Shared) (σ:St) (H:Hp) (v:V) (u:Value) (Q:St→Hp→Prop),Inv X pins σ H s→u6 v u→t v σ H Q →
  wpAny (model X.prog X.w) X.A (assign target X.env u) (fun _ s'=>∃ σ' H',Inv X pins σ' H' s'∧Q σ' H') X.xe s
noncomputable def PGs(X:Cx)(ts:List Expr)(t:TGs):Prop :=
 ∀(pins:List (Addr × Obj)) (s:Shared) (σ:St) (H:Hp) (vs:List V) (us:List Value) (Q:St→Hp→Prop),Inv X pins σ H s→q9 vs us→t vs σ H Q →
  wpAny (model X.prog X.w) X.A (assignInOrder ((assignEach ts X.env).map (·.2)) us) (fun _ s'=>∃ σ' H',Inv X pins σ' H' s'∧Q σ' H') X.xe s
noncomputable abbrev c2H:=V→V→V→Hp→(Hp→Prop)→Prop
noncomputable def c4X(X:Cx)(t:c2H):Prop :=
 ∀(pins:List (Addr × Obj)) (s:Shared) (σ:St) (H:Hp) (o i v:V) (ov iv u:Value) (Q:Hp→Prop),Inv X pins σ H s→u6 o ov→u6 i iv→u6 v u→t o i v H Q →
  wpAny (model X.prog X.w) X.A (setItem ov iv u) (fun _ s'=>∃ H',Inv X pins σ H' s'∧Q H') X.xe s
section
variable {X:Cx} {pos:Pos}
noncomputable def b6r(i:Nat):TG:=fun v σ H Q=>Q (σ.set i (some v)) H
theorem b8E{i:Nat}{x:Str}(hN:X.N.Nodup)(hi:X.N[i]? = some x)(hx:Loc X.env.scope x)(hf:X.fn x=true∨X.env.scope.names.lookup x=some .local:=by first|exact .inl rfl|exact .inr rfl|assumption):PG X (.Name x pos) (b6r i):=by
 intro pins s σ H v u Q I r h
 exact wpAny_assign_Name (a1y I hN hi hx r (fun s' I'=>⟨_,H,I',h⟩) hf)
noncomputable def c5K:TGs:=fun vs σ H Q=>vs=[]∧Q σ H
noncomputable def c4s(t:TG)(u:TGs):TGs:=fun vs σ H Q=>∃ v r,vs=v :: r∧t v σ H fun σ' H'=>u r σ' H' Q
theorem b8C:PGs X [] c5K:=by
 intro pins s σ H vs us Q I r h
 obtain⟨e,h⟩:=h
 subst e
 cases r
 exact assignInOrder_nil ⟨σ,H,I,h⟩
theorem b5A{e:Expr}{es:List Expr}{t:TG}{u:TGs}(h1:PG X e t)(h2:PGs X es u)
  (hs:(assignEach (e :: es) X.env).map (·.2)=assign e X.env :: (assignEach es X.env).map (·.2):=by rfl):PGs X (e :: es) (c4s t u):=by
 intro pins s σ H vs us Q I r h
 obtain⟨v,vr,e1,h⟩:=h
 subst e1
 cases r with
 | cons r rr =>
  rw[hs]
  refine assignInOrder_cons (thn (h1 pins s σ H _ _ _ I r h) fun _ s1 zz=>?_)
  obtain⟨σ1,H1,I1,q1⟩:=zz
  exact h2 pins s1 σ1 H1 _ _ Q I1 rr q1
noncomputable def c5I(K:c8U)(n:Nat)(t:TGs):TG:=fun v σ H Q=>∃ a xs,v = .ref a∧SqT K H a xs∧xs.length=n∧t xs σ H Q
theorem c1B{es:List Expr}{k:Nat}{t:TGs}{n:Nat}(hc:X.calm=true)(h:PGs X es t)
  (hn:(assignEach es X.env).length=n:=by rfl) (hst:(assignEach es X.env).findIdx? (·.1)=none:=by rfl):PG X (.Tuple es k pos) (c5I X.K n t):=by
 intro pins s σ H v u Q I r hw
 obtain⟨a,xs,e1,hq,hl,hw⟩:=hw
 subst e1
 cases r
 obtain⟨its,rv,ht,hz⟩:=I.tuple hq
 refine assign_Tuple_tuple (I.ok.hd hc) ht (by simp[hn,← hl,rv.length]) hst fun h' hx=>?_
 have I1:Inv X pins σ H { s with heap:=h' }:=I.kept (t':=s.toks) fun b o e=>hx b o (c9y (c89 e)) e
 exact h pins _ σ H xs _ Q I1 (by simpa using rv) hw
noncomputable def c5J(to ti:TE)(t:c2H):TG:=fun v σ H Q=>to σ H fun o H1=>ti σ H1 fun i H2=>t o i v H2 fun H3=>Q σ H3
theorem c1C{o i:Expr}{to ti:TE}{t:c2H}(ho:PE X o to)(hi:PE X i ti)(hs:c4X X t)
  (ha:∀ v,assign (.Subscript o i pos) X.env v=(do
   let ov ← holding [v] (eval o X.env)
   let iv ← holding [v,ov] (eval i X.env)
   standAt pos
   holding [v,ov,iv] (setItem ov iv v)
   release [v,ov,iv] []):=by intro _;rfl):PG X (.Subscript o i pos) (c5J to ti t):=by
 intro pins s σ H v u Q I r h
 rw[ha]
 refine c8T (wpAny_holding (thn (ho pins s σ H _ I h) fun ov s1 zz=>?_))
 obtain⟨x,H1,I1,r1,q1⟩:=zz
 refine c8T (wpAny_holding (thn (hi pins s1 σ H1 _ I1 q1) fun iv s2 zz=>?_))
 obtain⟨y,H2,I2,r2,q2⟩:=zz
 refine c8T (wpAny_standAt (c8T (wpAny_holding (thn (hs pins s2 σ H2 x y v ov iv u _ I2 r1 r2 r q2) fun _ s3 zz=>?_))))
 obtain⟨H3,I3,q3⟩:=zz
 exact wpAny_release ⟨σ,H3,I3,q3⟩
noncomputable def c06(te:TE)(g:TG):TS:=fun D σ H=>te σ H fun x H1=>g x σ H1 D.nx
theorem c1x{tg e:Expr}{te:TE}{g:TG}(he:PE X e te)(hg:PG X tg g)(hs:swapsWithSole [tg] e pos.line X.env=pure false:=by rfl)(hw:swappedStores [tg] e X.env=pure none:=by rfl)
  (h1:(assignEach [tg] X.env).map (·.2)=[assign tg X.env]:=by rfl):PS X (.Assign [tg] e pos) (c06 te g):=by
 intro pins s σ H D I h
 refine wpAny_Assign_stores (thn (he pins s σ H _ I h) fun v s1 ⟨x,H1,I1,r1,q1⟩=>?_) hs hw
 rw[h1]
 exact thn (hg pins s1 σ H1 x v _ I1 r1 q1) fun _ s2 q=>q
theorem c1t{i:Nat}{x:Str}{e:Expr}{te:TE}{pos':Pos}(hN:X.N.Nodup)(hi:X.N[i]? = some x)(hx:Loc X.env.scope x)(he:PE X e te)(hs:swapsWith e (some (.Name x pos')) pos.line X.env=pure false:=by rfl)(hf:X.fn x=true∨X.env.scope.names.lookup x=some .local:=by first|exact .inl rfl|exact .inr rfl|assumption) :
  PS X (.Assign [.Name x pos'] e pos) (c06 te (b6r i)):=by
 intro pins s σ H D I h
 refine wpAny_Assign_Name (thn (he pins s σ H _ I h) fun v s1 ⟨y,H1,I1,r1,q1⟩=>?_) hs
 exact a1y I1 hN hi hx r1 (fun s2 I2=>⟨_,H1,I2,q1⟩) hf
noncomputable def c5j(i j:Nat)(ta:TA):TS:=fun D σ H=>ta σ H fun vs H1=>∃ v w,vs=[v,w]∧D.nx ((σ.set i (some v)).set j (some w)) H1
theorem c1v{i j:Nat}{x y:Str}{a b:Expr}{ta:TA}{px py pt:Pos}{kt k2 pt2}(hc:X.calm=true)(hN:X.N.Nodup)(hi:X.N[i]? = some x)(hj:X.N[j]? = some y)(hij:i≠j)
  (hx:X.env.scope.names.lookup x=some .local) (hy:X.env.scope.names.lookup y=some .local) (ha:PA X [a,b] ta)
  (hw:swappedStores [.Tuple [.Name x px,.Name y py] kt pt] (.Tuple [a,b] k2 pt2) X.env=pure (some [x,y]))
  (hs:swapsWithSole [.Tuple [.Name x px,.Name y py] kt pt] (.Tuple [a,b] k2 pt2) pos.line X.env=pure false:=by rfl) :
  PS X (.Assign [.Tuple [.Name x px,.Name y py] kt pt] (.Tuple [a,b] k2 pt2) pos) (c5j i j ta):=by
 intro pins s σ H D I h
 rw[exec_Assign_arm]
 refine c8T (wpAny_standAt ?_)
 rw[hs]
 refine c8T (c84 ?_)
 rw[if_neg (by decide)]
 refine c8T (Tuple_ (thn (ha _ pins s σ H _ I h) fun us s1 zz=>?_))
 obtain⟨vs,H1,I1,r1,q1⟩:=zz
 obtain⟨v,w,e1,q1⟩:=q1
 subst e1
 obtain⟨u1,u2,rfl,rv,rw'⟩:∃ u1 u2,us=[u1,u2]∧u6 v u1∧u6 w u2:=by
  cases r1 with
  | cons p q =>
   cases q with
   | cons p' q' =>
    cases q'
    exact⟨_,_,rfl,p,p'⟩
 refine wpAny_newObj_type ?_ (by show 2≤sizeLine;decide)
 have I2:Inv X pins σ H1 { s1 with heap:=s1.heap.push { cls:=.type "tuple",data:=.seq [u1,u2].toArray } }:=I1.kept (t':=s1.toks) fun b o e=>c8X _ e
 rw[hw]
 refine c8T (c84 ?_)
 show wpAny (model X.prog X.w) X.A (do rule "assign.swapped-stores";let items ← unpackItems (.ref s1.heap.objs.size) 2 none;assignInOrder [fun v=>bindName X.env y v,fun v=>bindName X.env x v] items.reverse;pure Flow.next) _ _ _
 refine c8T (wpAny_rule (c8T (unpackItems_tuple (items:=#[u1,u2]) (I.ok.hd hc) (IsTup.new s1.heap _) fun h' hx'=>?_)))
 have I3:=I2.kept (h':=h') (t':=s1.toks) fun b o e=>hx' b o (c9y (c89 e)) e
 show wpAny _ _ (assignInOrder [fun v=>bindName X.env y v,fun v=>bindName X.env x v] [u2,u1] >>= fun _=>pure Flow.next) _ _ _
 refine c8T (assignInOrder_cons (wpAny_bindName (a1y I3 hN hj (.inl hy) rw' (fun s2 I4=>?_) (.inr hy))))
 refine assignInOrder_cons (wpAny_bindName (a1y I4 hN hi (.inl hx) rv (fun s3 I5=>assignInOrder_nil (c84 ?_)) (.inr hx)))
 rw[List.set_comm _ _ (Ne.symm hij)]at I5
 exact⟨_,H1,I5,q1⟩
end
section
variable {X:Cx} {pos:Pos}
noncomputable def c04(c:TT)(tb:TS):TS:=fun D σ H=>∃ W:Nat→St→Hp→Prop,(∃ m,W m σ H)∧∀ m σ H,W m σ H →
 c σ H fun b H1=>if b=true then ∃ N:St→Hp→Prop,(∀ σ' H',N σ' H'→∃ m',m'<m∧W m' σ' H')∧tb { D with nx:=N,ct:=N,bk:=D.nx } σ H1 else D.nx σ H1
theorem b5u{c:Expr}{body:List Stmt}{tc:TT}{tb:TS}(hp:PassesOwn (model X.prog X.w) X.A X.env X.xe)(hc:PT X c tc)(hb:PSs X body tb):PS X (.While c body [] pos) (c04 tc tb):=by
 intro pins s σ H D I h
 obtain⟨W,⟨m0,w0⟩,turn⟩:=h
 refine wpAny_While (codeAny_whileLoop (fun n s'=>∃ σ' H',Inv X pins σ' H' s'∧W n σ' H') ?_ m0 ⟨σ,H,I,w0⟩)
 rintro n s1 ⟨σ1,H1,I1,w1⟩
 refine wpAny_passesOwn hp (thn (hc pins s1 σ1 H1 _ I1 (turn n σ1 H1 w1)) fun b s2 zz=>?_)
 obtain⟨H2,I2,q2⟩:=zz
 cases b with
 | true =>
  obtain⟨N,hN,q2⟩:=q2
  rw[if_pos rfl]
  refine wpAny_passesOwn hp (thn (hb pins s2 σ1 H2 _ I2 q2) fun f s3 q3=>?_)
  cases f with
  | next =>
   obtain⟨σ3,H3,I3,n3⟩:=q3
   obtain⟨m',hm,w3⟩:=hN σ3 H3 n3
   exact⟨m',hm,σ3,H3,I3,w3⟩
  | cont =>
   obtain⟨σ3,H3,I3,n3⟩:=q3
   obtain⟨m',hm,w3⟩:=hN σ3 H3 n3
   exact⟨m',hm,σ3,H3,I3,w3⟩
  | brk=>exact q3
  | ret v=>exact q3
 | false =>
  rw[if_neg c9n]
  exact wpAny_execs_nil ⟨σ1,H2,I2,q2⟩
end
structure It where
 go:Nat→Hp→Prop
 yld:Nat→Hp→V→Hp→Prop
 stop:Nat→Hp→Prop
noncomputable def a1r(X:Cx)(pins:List (Addr × Obj))(H:Hp)(b:Addr):Prop :=
 H b=none∧b≠X.env.locals∧b∉X.fs∧(b∈X.ex∨X.s₀.heap.objs.size≤b)∧(∀ x c,X.env.cells.lookup x=some c→c≠b)∧∀ p∈X.pn++pins,p.1≠b
theorem Inv.fpOk{X:Cx}{pins:List (Addr × Obj)}{σ:St}{H H':Hp}{s:Shared}{b:Addr}(I:Inv X pins σ H s)(hb:s.heap.objs.size≤b)(hn:H' b=none):a1r X pins H' b:=by
 refine⟨hn,c92 (c80 I.lt hb),I.nofs hb,.inr (c85 I.sz hb),fun x c e z=>?_,fun p hp z=>?_⟩
 ·obtain⟨v,q⟩:=I.cell x c e
  exact absurd (c80 q.lt (by rw[z];exact hb)) (d0a _)
 ·exact absurd (c80 (c89 (I.pin p hp).1) (by rw[z];exact hb)) (d0a _)
structure a73(P:Program)(w:World)(K:c8U)(tg:Expr)(J:It)(fp:List Addr)(it:Addr)(tn:Nat→Heap→Prop):Prop where
 mem:it∈fp
 obj:∀ i h,tn i h→∀ b∈fp,∃ o,h.get? b=some o∧∀ v,o.data ≠ .cell v
 keep:∀ i h h',tn i h→(∀ b∈fp,∀ o,h.get? b=some o→h'.get? b=some o)→tn i h'
 item:∀(X:Cx),X.prog=P→X.w=w→X.K=K→X.calm=true→∀(i:Nat) (pins:List (Addr × Obj)) (s:Shared) (σ:St) (H:Hp) (E:Value→Shared→Prop),Inv X pins σ H s→(∀ b∈fp,a1r X pins H b)→tn i s.heap→J.go i H →
  wpAny (model P w) X.A (pyNext (.ref it)) (fun r s1=>∃ u,r=some u ∧
   wpAny (model P w) X.A (letOwnedTupleGo tg (.ref it) u) (fun _ s2=>∃ x H',Inv X pins σ H' s2∧u6 x u∧J.yld i H x H'∧tn (i+1) s2.heap∧∀ b∈fp,H' b=none) E s1) E s
 done:∀(X:Cx),X.prog=P→X.w=w→X.K=K→X.calm=true→∀(i:Nat) (pins:List (Addr × Obj)) (s:Shared) (σ:St) (H:Hp) (E:Value→Shared→Prop),Inv X pins σ H s→(∀ b∈fp,a1r X pins H b)→tn i s.heap→J.stop i H →
  wpAny (model P w) X.A (pyNext (.ref it)) (fun r s1=>r=none∧Inv X pins σ H s1) E s
 self:∀(A:Around) (i:Nat) (s:Shared) (Q:Value→Shared→Prop) (E:Value→Shared→Prop),tn i s.heap→Q (.ref it) s→wpAny (model P w) A (pyIter (.ref it)) Q E s
noncomputable abbrev TI:=St→Hp→(It→Hp→Prop)→Prop
noncomputable def PIE(X:Cx)(pins:List (Addr × Obj))(σ:St)(tg:Expr)(R:It→Hp→Prop)(itv:Value)(s2:Shared):Prop :=
 ∃(it:Addr) (fp:List Addr) (tn:Nat→Heap→Prop) (J:It) (H':Hp),itv = .ref it∧Inv X pins σ H' s2∧a73 X.prog X.w X.K tg J fp it tn∧tn 0 s2.heap∧(∀ b∈fp,a1r X pins H' b)∧R J H'
noncomputable def PI(X:Cx)(tg iter:Expr)(wi:TI):Prop :=
 ∀(pins:List (Addr × Obj)) (s:Shared) (σ:St) (H:Hp) (R:It→Hp→Prop),Inv X pins σ H s→wi σ H R →
  wpAny (model X.prog X.w) X.A (eval iter X.env) (fun v s1=>wpAny (model X.prog X.w) X.A (pyIter v) (PIE X pins σ tg R) X.xe s1) X.xe s
theorem a9w{M:Model}{A:Around}{E:Value→Shared→Prop}{s:Shared}{tg:Expr}{it:Addr}{u:Value}{o:Obj}{n:String}{vs:Array Value}{Q:Unit→Shared→Prop}(ho:s.heap.get? it=some o)(hc:o.cls = .type n)(hd:o.data = .fields vs)
  (hn:["enumerate","zip","dict_itemiterator","dict_reverseitemiterator","odict_iterator","itertools.zip_longest","itertools.pairwise"].contains n=false) (hQ:Q () s):wpAny M A (letOwnedTupleGo tg (.ref it) u) Q E s:=by
 unfold letOwnedTupleGo
 cases tg<;>first
  | exact c84 hQ
  | (cases u<;>first
    | exact c84 hQ
    | (refine c8T (wpAny_load ho ?_);rw[hc,hd];show wpAny M A (if (["enumerate","zip","dict_itemiterator","dict_reverseitemiterator","odict_iterator","itertools.zip_longest","itertools.pairwise"].contains n && vs[0]? == some (rawInt _))=true then _ else _) Q E s;rw[if_neg (by intro h;rw[hn,Bool.false_and]at h;cases h)];exact c84 hQ))
noncomputable def Itl(K:c8U)(a:Addr):It :=
 ⟨fun i H=>∃ xs x,SqL K H a xs∧xs[i]? = some x,fun i H x H'=>H'=H∧∀ xs,SqL K H a xs→xs[i]? = some x,fun i H=>∃ xs,SqL K H a xs∧xs.length≤i⟩
noncomputable def Itt(K:c8U)(a:Addr):It :=
 ⟨fun i H=>∃ xs x,SqT K H a xs∧xs[i]? = some x,fun i H x H'=>H'=H∧∀ xs,SqT K H a xs→xs[i]? = some x,fun i H=>∃ xs,SqT K H a xs∧xs.length≤i⟩
noncomputable def Itr(lo:Int)(n:Nat):It:=⟨fun i _=>i<n,fun i H x H'=>H'=H∧x = .int (lo+i),fun i _=>n≤i⟩
theorem b2N{P:Program}{w:World}{K:c8U}{tg:Expr}(a it:Addr):a73 P w K tg (Itl K a) [it] it (fun i h=>h.IsListIter it a i) where
 mem:=by simp
 obj:=fun i h st b hb=>by
  have e:b=it:=by simpa using hb
  subst e
  obtain⟨o,e,c,d⟩:=st
  exact⟨o,e,fun v z=>by rw[d]at z;cases z⟩
 keep:=fun i h h' st k=>st.at fun o e=>k it (by simp) o e
 item:=by
  intro X hP hw hK hc i pins s σ H E I hf st hg
  subst hP hw hK
  obtain⟨xs,x,hq,hx⟩:=hg
  obtain⟨its,rv,p,hz⟩:=I.list hq
  obtain⟨u,hu,ru⟩:=rv.get hx
  obtain⟨f0,f1,f2,f3,f4,f5⟩:=hf it (by simp)
  refine wpAny_pyNext_list_item st p.isList (x:=u) (by simpa using hu) fun h' st' sb=>?_
  have I1:Inv X pins σ H { s with heap:=h' }:=I.turned (t':=s.toks) (fun b o hb e=>(sb.2 b hb).trans e) f0 f1 f3 f4 f5
  obtain⟨o,e,c,d⟩:=id st'
  exact⟨u,rfl,a9w (s:={ s with heap:=h' }) e c d (by decide) ⟨x,H,I1,ru,⟨rfl,fun ys hy=>by rw[I.list_inj hy hq];exact hx⟩,st',fun b hb=>(hf b hb).1⟩⟩
 done:=by
  intro X hP hw hK hc i pins s σ H E I hf st hg
  subst hP hw hK
  obtain⟨xs,hq,hx⟩:=hg
  obtain⟨its,rv,p,hz⟩:=I.list hq
  obtain⟨f0,f1,f2,f3,f4,f5⟩:=hf it (by simp)
  have hl:=rv.length
  exact wpAny_pyNext_list_end (I.ok.hd hc) st p.isList (by simp;omega) fun h' eb=>⟨rfl,I.turned (t':=s.toks) (fun b o hb e=>eb b o hb e) f0 f1 f3 f4 f5⟩
 self:=fun _ _ _ _ _ st h=>wpAny_pyIter_listiter st h
theorem a9U{P:Program}{w:World}{K:c8U}{tg:Expr}(a it:Addr):a73 P w K tg (Itt K a) [it] it (fun i h=>h.IsTupleIter it a i) where
 mem:=by simp
 obj:=fun i h st b hb=>by
  have e:b=it:=by simpa using hb
  subst e
  obtain⟨o,e,c,d⟩:=st
  exact⟨o,e,fun v z=>by rw[d]at z;cases z⟩
 keep:=fun i h h' st k=>st.at fun o e=>k it (by simp) o e
 item:=by
  intro X hP hw hK hc i pins s σ H E I hf st hg
  subst hP hw hK
  obtain⟨xs,x,hq,hx⟩:=hg
  obtain⟨its,rv,p,hz⟩:=I.tuple hq
  obtain⟨u,hu,ru⟩:=rv.get hx
  obtain⟨f0,f1,f2,f3,f4,f5⟩:=hf it (by simp)
  refine wpAny_pyNext_tuple_item st (show s.heap.IsTuple a its.toArray from p) (x:=u) (by simpa using hu) fun h' st' sb=>?_
  have I1:Inv X pins σ H { s with heap:=h' }:=I.turned (t':=s.toks) (fun b o hb e=>(sb.2 b hb).trans e) f0 f1 f3 f4 f5
  obtain⟨o,e,c,d⟩:=id st'
  exact⟨u,rfl,a9w (s:={ s with heap:=h' }) e c d (by decide) ⟨x,H,I1,ru,⟨rfl,fun ys hy=>by rw[I.tuple_inj hy hq];exact hx⟩,st',fun b hb=>(hf b hb).1⟩⟩
 done:=by
  intro X hP hw hK hc i pins s σ H E I hf st hg
  subst hP hw hK
  obtain⟨xs,hq,hx⟩:=hg
  obtain⟨its,rv,p,hz⟩:=I.tuple hq
  obtain⟨f0,f1,f2,f3,f4,f5⟩:=hf it (by simp)
  have hl:=rv.length
  exact wpAny_pyNext_tuple_end (I.ok.hd hc) st (show s.heap.IsTuple a its.toArray from p) (by simp;omega) fun h' eb=>⟨rfl,I.turned (t':=s.toks) (fun b o hb e=>eb b o hb e) f0 f1 f3 f4 f5⟩
 self:=fun _ _ _ _ _ st h=>wpAny_pyIter_tupleiter st h
theorem a9V{P:Program}{w:World}{K:c8U}{tg:Expr}(it:Addr)(lo:Int)(n:Nat):a73 P w K tg (Itr lo n) [it] it (fun i h=>IsRangeIter h it (lo+(i:Nat)*1) ((n:Int) - (i:Nat)) 1) where
 mem:=by simp
 obj:=fun i h st b hb=>by
  have e:b=it:=by simpa using hb
  subst e
  exact⟨_,st,fun v z=>by
   have z':Data.fields _=Data.cell v:=z
   cases z'⟩
 keep:=fun i h h' st k=>k it (by simp) _ st
 item:=by
  intro X hP hw hK hc i pins s σ H E I hf st hg
  subst hP hw hK
  obtain⟨f0,f1,f2,f3,f4,f5⟩:=hf it (by simp)
  have W:=Walks.range (prog:=X.prog) (w:=X.w) (I.ok.hd hc) it lo 1 n
  refine W.item i s _ _ hg st fun v h' tk hv st' kk=>?_
  obtain⟨t,rfl⟩:=hv
  have I1:Inv X pins σ H { s with heap:=h',toks:=tk }:=I.turned (fun b o hb e=>kk b o (by simpa using hb) e) f0 f1 f3 f4 f5
  refine⟨_,rfl,a9w (s:={ s with heap:=h',toks:=tk }) (n := "range_iterator") st' rfl rfl (by decide) ⟨.int (lo+i),H,I1,⟨t,?_⟩,⟨rfl,rfl⟩,st',fun b hb=>(hf b hb).1⟩⟩
  rw[d2k]
 done:=by
  intro X hP hw hK hc i pins s σ H E I hf st hg
  subst hP hw hK
  obtain⟨f0,f1,f2,f3,f4,f5⟩:=hf it (by simp)
  exact wpAny_pyNext_range_end (I.ok.hd hc) st (by have:n≤i:=hg;omega) fun h' eb=>⟨rfl,I.turned (t':=s.toks) (fun b o hb e=>eb b o hb e) f0 f1 f3 f4 f5⟩
 self:=fun _ _ _ _ _ st h=>wpAny_pyIter_rangeiter st h
end L2
namespace L2
open PySem PySem.Spec PyProof.Rows
section
variable {X:Cx} {tg:Expr}
theorem b5s{pins:List (Addr × Obj)}{σ:St}{H:Hp}{s:Shared}{R:It→Hp→Prop}{E:Value→Shared→Prop}{lo hi:Int}{t u v:Tok}{tk:Nat}(I:Inv X pins σ H s)(h1:-(2 ^ 62)≤lo)(h2:lo<2 ^ 62)(h3:-(2 ^ 62)≤hi)(h4:hi<2 ^ 62)
  (q:R (Itr lo (hi - lo).toNat) H):wpAny (model X.prog X.w) X.A (pyIter (.ref s.heap.objs.size)) (PIE X pins σ tg R) E { s with heap:=s.heap.push { cls:=.type "range",data:=.fields #[.int lo t,.int hi u,.int 1 v] },toks:=tk }:=by
 refine wpAny_pyIter_range (IsRange.new ..) (small_one h1 h2 h3 h4) ?_
 have I1:Inv X pins σ H { s with heap:=s.heap.push { cls:=.type "range",data:=.fields #[.int lo t,.int hi u,.int 1 v] },toks:=tk }:=I.kept fun b o e=>c8X _ e
 refine⟨(s.heap.push { cls:=.type "range",data:=.fields #[.int lo t,.int hi u,.int 1 v] }).objs.size,[(s.heap.push { cls:=.type "range",data:=.fields #[.int lo t,.int hi u,.int 1 v] }).objs.size],_,_,H,rfl,
  I1.kept (t':=tk) fun b o e=>c8X _ e,a9V _ lo (hi - lo).toNat,?_,fun b hb=>?_,q⟩
 ·have e1:lo+((0:Nat):Int)*1=lo:=by simp
  have e2:(((hi - lo).toNat:Nat):Int) - ((0:Nat):Int)=Builtin.Range.rangeSize lo hi 1:=by rw[rangeSize_one];split<;>omega
  show IsRangeIter _ _ (lo+((0:Nat):Int)*1) ((((hi - lo).toNat:Nat):Int) - ((0:Nat):Int)) 1
  rw[e1,e2]
  exact c86 _ rfl
 ·have e:b=(s.heap.push { cls:=.type "range",data:=.fields #[.int lo t,.int hi u,.int 1 v] }).objs.size:=by simpa using hb
  subst e
  exact I1.fpOk (c9b _) (I1.hok.fresh (c9b _))
noncomputable def c4m(ta:TA):TI:=fun σ H R=>ta σ H fun vs H1=>∃ j:Int,vs=[.int j]∧-(2 ^ 62)≤j∧j<2 ^ 62∧R (Itr 0 j.toNat) H1
theorem b3c{a:Expr}{ta:TA}{p pos:Pos}(hg:Gl X "range")(hm:X.mg "range" = none)(ha:PA X [a] ta)(hs:starEach [a] X.env=[(false,eval a X.env)]:=by rfl):PI X tg (.Call (.Name "range" p) [a] [] pos) (c4m ta):=by
 intro pins s σ H R I h
 refine Call_ (O1 I hg hm boot_range (PyProof.Rows.callWith_type1 (thn (ha pos pins s σ H _ I h) fun us s1 ⟨vs,H1,I1,r1,q1⟩=>?_) hs rfl))
 obtain⟨j,e,q1,q2,q⟩:=q1
 subst e
 cases r1 with
 | cons r rr =>
  cases rr
  obtain⟨t,rfl⟩:=r
  exact call_range_1 (b5s I1 (by omega) (by omega) q1 q2 (by simpa using q))
noncomputable def c5p(wi:TI)(g:TG)(tb:TS):TS:=fun D σ H=>wi σ H fun J H1=>∃ W:Nat→Nat→St→Hp→Prop,(∃ m,W 0 m σ H1)∧∀ i m σ H,W i m σ H →
 (J.stop i H∧D.nx σ H)∨(J.go i H∧∃ N:St→Hp→Prop,(∀ σ' H',N σ' H'→∃ m',m'<m∧W (i+1) m' σ' H')∧∀ x H',J.yld i H x H'→g x σ H' fun σ2 H2=>tb { D with nx:=N,ct:=N,bk:=D.nx } σ2 H2)
noncomputable def a7t(fp:List Addr)(h:Heap):List (Addr × Obj):=fp.filterMap fun b=>(h.get? b).map fun o=>(b,o)
theorem J5{fp:List Addr}{h:Heap}{b:Addr}{o:Obj}(hb:b∈fp)(e:h.get? b=some o):(b,o)∈a7t fp h:=d1U.mpr ⟨b,hb,by rw[e];rfl⟩
theorem b3e{fp:List Addr}{h:Heap}{p:Addr × Obj}(hp:p∈a7t fp h):p.1∈fp∧h.get? p.1=some p.2:=by
 obtain⟨b,hb,e⟩:=d1U.mp hp
 cases q:h.get? b with
 | none=>rw[q]at e;cases e
 | some o =>
  rw[q]at e
  have e':(b,o)=p:=Option.some.inj e
  subst e'
  exact⟨hb,q⟩
theorem Inv.pinned{pins:List (Addr × Obj)}{σ:St}{H:Hp}{s:Shared}{fp:List Addr}(I:Inv X pins σ H s)(hf:∀ b∈fp,a1r X pins H b)(ho:∀ b∈fp,∃ o,s.heap.get? b=some o∧∀ v,o.data ≠ .cell v):Inv X (pins++a7t fp s.heap) σ H s :=
 I.pins_of fun p hp=>(c9g.mp hp).elim (fun z=>I.pin p (c9m _ z)) fun z=>by
  obtain⟨hb,e⟩:=b3e z
  obtain⟨f0,f1,f2,_⟩:=hf p.1 hb
  obtain⟨o,e',d⟩:=ho p.1 hb
  rw[e]at e';cases e'
  exact⟨e,f0,f1,f2,d⟩
theorem Inv.unpinned{pins pl:List (Addr × Obj)}{σ:St}{H:Hp}{s:Shared}(I:Inv X (pins++pl) σ H s):Inv X pins σ H s:=I.pins_of fun p hp=>I.pin p (c9m _ (d0g _ hp))
theorem c1w{iter:Expr}{body:List Stmt}{wi:TI}{g:TG}{tb:TS}{pos:Pos}(hp:PassesOwn (model X.prog X.w) X.A X.env X.xe)(hc:X.calm=true)(hi:PI X tg iter wi)(hg:PG X tg g)(hb:PSs X body tb)
  (hs:∀ x,foldedSetIterable iter X.env x=pure x:=by intro _;rfl):PS X (.For tg iter body [] pos) (c5p wi g tb):=by
 intro pins s σ H D I h
 refine wpAny_For (thn (hi pins s σ H _ I h) fun v s1 h1=>thn h1 fun itv s2 h2=>?_) hs
 obtain⟨it,fp,tn,J,H2,e,I2,T,st2,f2,W,⟨m0,w0⟩,turn⟩:=h2
 subst e
 have stat:∀{H':Hp},(∀ b∈fp,H' b=none)→∀ b∈fp,a1r X pins H' b:=fun hn b hb=>⟨hn b hb,(f2 b hb).2⟩
 refine codeAny_forLoop_any (fun n s'=>∃ i σ' H',Inv X pins σ' H' s'∧tn i s'.heap∧(∀ b∈fp,H' b=none)∧W i n σ' H') ?_ m0 ⟨0,σ,H2,I2,st2,fun b hb=>(f2 b hb).1,w0⟩
 rintro n s3 ⟨i,σ3,H3,I3,st3,fr3,w3⟩
 rcases turn i n σ3 H3 w3 with⟨stop,qn⟩|⟨go,N,hN,step⟩
 ·refine wpAny_passesOwn hp (thn (T.done X rfl rfl rfl hc i pins s3 σ3 H3 X.xe I3 (stat fr3) st3 stop) fun r s4 zz=>?_)
  obtain⟨hr,I4⟩:=zz
  subst hr
  exact wpAny_execs_nil ⟨σ3,H3,I4,qn⟩
 ·refine wpAny_passesOwn hp (thn (T.item X rfl rfl rfl hc i pins s3 σ3 H3 X.xe I3 (stat fr3) st3 go) fun r s4 zz=>?_)
  obtain⟨u,hr,h4⟩:=zz
  subst hr
  refine wpAny_passesOwn hp (thn h4 fun _ s5 zz=>?_)
  obtain⟨x,H5,I5,r5,y5,st5,fr5⟩:=zz
  have I5':=I5.pinned (stat fr5) (T.obj _ _ st5)
  refine wpAny_passesOwn hp (thn (hg _ s5 σ3 H5 x u _ I5' r5 (step x H5 y5)) fun _ s6 zz=>?_)
  obtain⟨σ6,H6,I6,q6⟩:=zz
  refine wpAny_passesOwn hp (thn (hb _ s6 σ6 H6 _ I6 q6) fun f s7 q7=>?_)
  have again:∀{σ7:St} {H7:Hp},Inv X (pins++a7t fp s5.heap) σ7 H7 s7→N σ7 H7→∃ m,m<n∧∃ i σ' H',Inv X pins σ' H' s7∧tn i s7.heap∧(∀ b∈fp,H' b=none)∧W i m σ' H':=fun{σ7 H7} I7 n7=>by
   obtain⟨m',hm,w7⟩:=hN σ7 H7 n7
   refine⟨m',hm,i+1,σ7,H7,I7.unpinned,T.keep _ _ _ st5 fun b hb o e=>(I7.pin (b,o) (c9m _ (c9m _ (J5 hb e)))).1,fun b hb=>?_,w7⟩
   obtain⟨o,e,d⟩:=T.obj _ _ st5 b hb
   exact(I7.pin (b,o) (c9m _ (c9m _ (J5 hb e)))).2.1
  cases f with
  | next=>obtain⟨σ7,H7,I7,n7⟩:=q7;exact again I7 n7
  | cont=>obtain⟨σ7,H7,I7,n7⟩:=q7;exact again I7 n7
  | brk=>obtain⟨σ7,H7,I7,q7⟩:=q7;exact⟨σ7,H7,I7.unpinned,q7⟩
  | ret v=>obtain⟨x7,σ7,H7,I7,r7,q7⟩:=q7;exact⟨x7,σ7,H7,I7.unpinned,r7,q7⟩
end
end L2
namespace L2
open PySem PySem.Spec PyProof.Rows
noncomputable abbrev R2:=V→V→Hp→VK→Prop
noncomputable def OpR(X:Cx)(f:Value→Value→Sem Value)(r:R2):Prop :=
 ∀(pins:List (Addr × Obj)) (s:Shared) (σ:St) (H:Hp) (x y:V) (v u:Value) (Q:VK),Inv X pins σ H s→u6 x v→u6 y u→r x y H Q →
  wpAny (model X.prog X.w) X.A (f v u) (EP X pins σ Q) X.xe s
noncomputable def UnR(X:Cx)(f:Value→Sem Value)(r:V→Hp→VK→Prop):Prop :=
 ∀(pins:List (Addr × Obj)) (s:Shared) (σ:St) (H:Hp) (x:V) (v:Value) (Q:VK),Inv X pins σ H s→u6 x v→r x H Q →
  wpAny (model X.prog X.w) X.A (f v) (EP X pins σ Q) X.xe s
noncomputable def D7(X:Cx)(f:Value)(r:List V→Hp→VK→Prop):Prop :=
 ∀(pins:List (Addr × Obj)) (s:Shared) (σ:St) (H:Hp) (xs:List V) (us:List Value) (Q:VK),Inv X pins σ H s→q9 xs us→r xs H Q →
  wpAny (model X.prog X.w) X.A (call f us) (EP X pins σ Q) X.xe s
noncomputable def tOp(r:R2)(ta tb:TE):TE:=fun σ H Q=>ta σ H fun x H1=>tb σ H1 fun y H2=>r x y H2 Q
noncomputable def tUn(r:V→Hp→VK→Prop)(ta:TE):TE:=fun σ H Q=>ta σ H fun x H1=>r x H1 Q
noncomputable def rI(C:Int→Int→Prop)(g:Int→Int→V):R2:=fun x y H Q=>∃ i j,x = .int i∧y = .int j∧C i j∧Q (g i j) H
noncomputable def rI0(g:Int→Int→V):R2:=fun x y H Q=>∃ i j,x = .int i∧y = .int j∧Q (g i j) H
noncomputable def rU(g:Int→V):V→Hp→VK→Prop:=fun x H Q=>∃ i,x = .int i∧Q (g i) H
section
variable {X:Cx} {a b c:Expr} {ta tb tc:TE} {pos:Pos}
theorem c2E(ha:PE X a ta)(hb:PE X b tb){pins:List (Addr × Obj)}{s:Shared}{σ:St}{H:Hp}{R:V→V→Hp→Prop}(I:Inv X pins σ H s)
  (h:ta σ H fun x H1=>tb σ H1 fun y H2=>R x y H2) {Q:Value→Shared→Prop} {f:Value→Value→Sem Value}
  (hf:∀ v u s2 x y H2,Inv X pins σ H2 s2→u6 x v→u6 y u→R x y H2→wpAny (model X.prog X.w) X.A (f v u) Q X.xe s2) :
  wpAny (model X.prog X.w) X.A (eval a X.env) (fun v s₁=>wpAny (model X.prog X.w) X.A (eval b X.env) (fun u s₂=>wpAny (model X.prog X.w) X.A (f v u) Q X.xe s₂) X.xe s₁) X.xe s:=by
 refine thn (ha pins s σ H _ I h) fun v s1 zz=>?_
 obtain⟨x,H1,I1,r1,q1⟩:=zz
 refine thn (hb pins s1 σ H1 _ I1 q1) fun u s2 zz=>?_
 obtain⟨y,H2,I2,r2,q2⟩:=zz
 exact hf v u s2 x y H2 I2 r1 r2 q2
theorem c0i{op:Operator}{r:R2}(ho:OpR X (binaryOp op) r)(ha:PE X a ta)(hb:PE X b tb):PE X (.BinOp a op b pos) (tOp r ta tb):=by
 intro pins s σ H Q I h
 exact wpAny_BinOp (c2E ha hb I h fun v u s2 x y H2 I2 rx ry q=>ho pins s2 σ H2 x y v u Q I2 rx ry q)
theorem c3Q{op:UnaryOp}{r:V→Hp→VK→Prop}(ho:UnR X (unaryOp op) r)(ha:PE X a ta):PE X (.UnaryOp op a pos) (tUn r ta):=by
 intro pins s σ H Q I h
 exact UnaryOp_ (thn (ha pins s σ H _ I h) fun v s1 ⟨x,H1,I1,r1,q1⟩=>ho pins s1 σ H1 x v Q I1 r1 q1)
theorem opI{f:Value→Value→Sem Value}{C:Int→Int→Prop}{g:Int→Int→Int}
  (rule:∀(i j:Int) (t u:Tok) (s:Shared) (Q:Value→Shared→Prop) (E:Value→Shared→Prop),C i j→Q (.int (g i j) s.toks) { s with toks:=s.toks+1 }→wpAny (model X.prog X.w) X.A (f (.int i t) (.int j u)) Q E s) :
  OpR X f (rI C fun i j=>.int (g i j)):=by
 intro pins s σ H x y v u Q I rx ry h
 obtain⟨i,j,rfl,rfl,hc,q⟩:=h
 obtain⟨t,rfl⟩:=rx
 obtain⟨t',rfl⟩:=ry
 exact rule i j t t' s _ _ hc ⟨.int (g i j),H,I.tok _,⟨_,rfl⟩,q⟩
theorem c4b{f:Value→Value→Sem Value}{g:Int→Int→Int}
  (rule:∀(i j:Int) (t u:Tok) (s:Shared) (Q:Value→Shared→Prop) (E:Value→Shared→Prop),Q (.int (g i j) s.toks) { s with toks:=s.toks+1 }→wpAny (model X.prog X.w) X.A (f (.int i t) (.int j u)) Q E s) :
  OpR X f (rI0 fun i j=>.int (g i j)):=by
 intro pins s σ H x y v u Q I rx ry h
 obtain⟨i,j,rfl,rfl,q⟩:=h
 obtain⟨t,rfl⟩:=rx
 obtain⟨t',rfl⟩:=ry
 exact rule i j t t' s _ _ ⟨.int (g i j),H,I.tok _,⟨_,rfl⟩,q⟩
theorem b8P{f:Value→Value→Sem Value}{g:Int→Int→Bool}
  (rule:∀(i j:Int) (t u:Tok) (s:Shared) (Q:Value→Shared→Prop) (E:Value→Shared→Prop),Q (.bool (g i j)) s→wpAny (model X.prog X.w) X.A (f (.int i t) (.int j u)) Q E s) :
  OpR X f (rI0 fun i j=>.bl (g i j)):=by
 intro pins s σ H x y v u Q I rx ry h
 obtain⟨i,j,rfl,rfl,q⟩:=h
 obtain⟨t,rfl⟩:=rx
 obtain⟨t',rfl⟩:=ry
 exact rule i j t t' s _ _ ⟨.bl (g i j),H,I,rfl,q⟩
noncomputable def a9R(i j:Int):Prop:=0≤j∧j≤1000000∧i.natAbs<2 ^ 64
theorem c1P:OpR X (binaryOp .Add) (rI0 fun i j=>.int (i+j)):=c4b fun _ _ _ _ _ _ _ q=>add_int q
theorem c1M:OpR X (binaryOp .Sub) (rI0 fun i j=>.int (i - j)):=c4b fun _ _ _ _ _ _ _ q=>sub_int q
theorem c1O:OpR X (binaryOp .Mod) (rI (fun _ j=>0<j) fun i j=>.int (i % j)):=opI fun i j _ _ _ _ _ hc q=>by
 have h1:(0:Int)<j:=hc
 exact mod_int' (by omega) (by rw[Int.fmod_eq_emod_of_nonneg i (by omega)];exact q)
theorem c1N:OpR X (binaryOp .Pow) (rI a9R fun i j=>.int (i ^ j.toNat)):=opI fun _ _ _ _ _ _ _ hc q=>pow_int_small hc.1 hc.2.1 hc.2.2 q
theorem unI{f:Value→Sem Value}{g:Int→Int}
  (rule:∀(i:Int) (t:Tok) (s:Shared) (Q:Value→Shared→Prop) (E:Value→Shared→Prop),Q (.int (g i) s.toks) { s with toks:=s.toks+1 }→wpAny (model X.prog X.w) X.A (f (.int i t)) Q E s) :
  UnR X f (rU fun i=>.int (g i)):=by
 intro pins s σ H x v Q I rx h
 obtain⟨i,rfl,q⟩:=h
 obtain⟨t,rfl⟩:=rx
 exact rule i t s _ _ ⟨.int (g i),H,I.tok _,⟨_,rfl⟩,q⟩
theorem c03:UnR X (unaryOp .USub) (rU fun i=>.int (-i)):=unI fun _ _ _ _ _ q=>neg_int q
end
noncomputable def c3J:V→V→Bool
 | .non,.non=>true|.non,.int _=>true|.int _,.non=>true|.non,.bl _=>true|.bl _,.non=>true|.non,.str _=>true|.str _,.non=>true
 | .int _,.int _=>true|.bl _,.bl _=>true|.str _,.str _=>true|.byt _,.byt _=>true
 | .int _,.str _=>true|.str _,.int _=>true|.bl _,.str _=>true|.str _,.bl _=>true
 | _,_=>false
noncomputable def rEq:R2:=fun x y H Q=>c3J x y=true∧Q (.bl (decide (x=y))) H
noncomputable def rNe:R2:=fun x y H Q=>c3J x y=true∧Q (.bl (!decide (x=y))) H
theorem b2w{i j:Int}:decide (V.int i=V.int j)=(i == j):=by
 rw[d0U]
 simp
theorem b6G{i j:Bool}:decide (V.bl i=V.bl j)=(i == j):=by
 rw[d0U]
 simp
theorem b2v{i j:Str}:decide (V.str i=V.str j)=(i == j):=by
 rw[d0U]
 simp
theorem b2x{i j:Array UInt8}:decide (V.byt i=V.byt j)=(i.toList == j.toList):=by
 rw[d0U]
 cases i
 cases j
 simp
section
variable {X:Cx} {a b c:Expr} {ta tb tc:TE} {pos:Pos}
theorem v8{pins:List (Addr × Obj)}{σ:St}{H:Hp}{s:Shared}{Q:VK}{k k':Bool}(I:Inv X pins σ H s)(q:Q (.bl k) H)(e:k=k'):EP X pins σ Q (.bool k') s:=by
 subst e
 exact⟨.bl k,H,I,rfl,q⟩
theorem c0k:OpR X (compareOp .Eq) rEq:=by
 intro pins s σ H x y v u Q I rx ry h
 obtain⟨hs,q⟩:=h
 cases x with
 | non =>
  cases rx
  cases y with
  | non=>cases ry;exact PySem.EqNone.eq_none_none (v8 I q (by simp))
  | bl j=>cases ry;exact PySem.EqNone.eq_none_bool (v8 I q (by simp))
  | int j=>obtain⟨t',rfl⟩:=ry;exact PySem.EqNone.eq_none_int (v8 I q (by simp))
  | str j=>obtain⟨t',rfl⟩:=ry;exact PySem.EqNone.eq_none_str (v8 I q (by simp))
  | _=>exact absurd (show false=true from hs) c9n
 | bl i =>
  cases rx
  cases y with
  | non=>cases ry;exact PySem.EqNone.eq_bool_none (v8 I q (by simp))
  | bl j=>cases ry;exact eq_bool (v8 I q b6G)
  | str j=>obtain⟨t',rfl⟩:=ry;exact PySem.EqMixed.eq_bool_str (v8 I q (by simp))
  | _=>exact absurd (show false=true from hs) c9n
 | int i =>
  obtain⟨t,rfl⟩:=rx
  cases y with
  | non=>cases ry;exact PySem.EqNone.eq_int_none (v8 I q (by simp))
  | int j=>obtain⟨t',rfl⟩:=ry;exact eq_int (v8 I q b2w)
  | str j=>obtain⟨t',rfl⟩:=ry;exact PySem.EqMixed.eq_int_str (v8 I q (by simp))
  | _=>exact absurd (show false=true from hs) c9n
 | str i =>
  obtain⟨t,rfl⟩:=rx
  cases y with
  | non=>cases ry;exact PySem.EqNone.eq_str_none (v8 I q (by simp))
  | bl j=>cases ry;exact PySem.EqMixed.eq_str_bool (v8 I q (by simp))
  | int j=>obtain⟨t',rfl⟩:=ry;exact PySem.EqMixed.eq_str_int (v8 I q (by simp))
  | str j=>obtain⟨t',rfl⟩:=ry;exact eq_str (v8 I q b2v)
  | _=>exact absurd (show false=true from hs) c9n
 | byt i =>
  obtain⟨t,rfl⟩:=rx
  cases y with
  | byt j=>obtain⟨t',rfl⟩:=ry;exact PySem.W.eq_bytes (v8 I q b2x)
  | _=>exact absurd (show false=true from hs) c9n
 | _=>cases y<;>exact absurd (show false=true from hs) c9n
theorem c0j:OpR X (compareOp .NotEq) rNe:=by
 intro pins s σ H x y v u Q I rx ry h
 obtain⟨hs,q⟩:=h
 cases x with
 | non =>
  cases rx
  cases y with
  | non=>cases ry;exact PySem.EqNone.ne_none_none (v8 I q (by simp))
  | bl j=>cases ry;exact PySem.EqNone.ne_none_bool (v8 I q (by simp))
  | int j=>obtain⟨t',rfl⟩:=ry;exact PySem.EqNone.ne_none_int (v8 I q (by simp))
  | str j=>obtain⟨t',rfl⟩:=ry;exact PySem.EqNone.ne_none_str (v8 I q (by simp))
  | _=>exact absurd (show false=true from hs) c9n
 | bl i =>
  cases rx
  cases y with
  | non=>cases ry;exact PySem.EqNone.ne_bool_none (v8 I q (by simp))
  | bl j=>cases ry;exact ne_bool (v8 I q (congrArg not b6G))
  | str j=>obtain⟨t',rfl⟩:=ry;exact PySem.EqMixed.ne_bool_str (v8 I q (by simp))
  | _=>exact absurd (show false=true from hs) c9n
 | int i =>
  obtain⟨t,rfl⟩:=rx
  cases y with
  | non=>cases ry;exact PySem.EqNone.ne_int_none (v8 I q (by simp))
  | int j=>obtain⟨t',rfl⟩:=ry;exact ne_int (v8 I q (congrArg not b2w))
  | str j=>obtain⟨t',rfl⟩:=ry;exact PySem.EqMixed.ne_int_str (v8 I q (by simp))
  | _=>exact absurd (show false=true from hs) c9n
 | str i =>
  obtain⟨t,rfl⟩:=rx
  cases y with
  | non=>cases ry;exact PySem.EqNone.ne_str_none (v8 I q (by simp))
  | bl j=>cases ry;exact PySem.EqMixed.ne_str_bool (v8 I q (by simp))
  | int j=>obtain⟨t',rfl⟩:=ry;exact PySem.EqMixed.ne_str_int (v8 I q (by simp))
  | str j=>obtain⟨t',rfl⟩:=ry;exact ne_str (v8 I q (congrArg not b2v))
  | _=>exact absurd (show false=true from hs) c9n
 | byt i =>
  obtain⟨t,rfl⟩:=rx
  cases y with
  | byt j=>obtain⟨t',rfl⟩:=ry;exact PySem.W.ne_bytes (v8 I q (congrArg not b2x))
  | _=>exact absurd (show false=true from hs) c9n
 | _=>cases y<;>exact absurd (show false=true from hs) c9n
theorem c3X:OpR X (compareOp .Lt) (rI0 fun i j=>.bl (decide (i<j))):=b8P fun _ _ _ _ _ _ _ q=>lt_int q
theorem c3Y:OpR X (compareOp .LtE) (rI0 fun i j=>.bl (decide (i≤j))):=b8P fun _ _ _ _ _ _ _ q=>le_int q
theorem c3Z:OpR X (compareOp .Gt) (rI0 fun i j=>.bl (decide (j<i))):=b8P fun _ _ _ _ _ _ _ q=>gt_int q
theorem c4a:OpR X (compareOp .GtE) (rI0 fun i j=>.bl (decide (j≤i))):=b8P fun _ _ _ _ _ _ _ q=>ge_int q
theorem OpR.or{f:Value→Value→Sem Value}{r r':R2}(h:OpR X f r)(h':OpR X f r'):OpR X f (fun x y H Q=>r x y H Q∨r' x y H Q):=by
 intro pins s σ H x y v u Q I rx ry q
 rcases q with q|q
 ·exact h pins s σ H x y v u Q I rx ry q
 ·exact h' pins s σ H x y v u Q I rx ry q
theorem b5R(b:Expr){op:CmpOp}(h:op ≠ .In:=by decide)(h2:op ≠ .NotIn:=by decide):behindInMarks op b=false:=by
 have e1:(op == CmpOp.In)=false:=by cases op<;>first|rfl|exact absurd rfl h
 have e2:(op == CmpOp.NotIn)=false:=by cases op<;>first|rfl|exact absurd rfl h2
 cases b<;>simp[behindInMarks,e1,e2]
theorem b8I{op:CmpOp}{r:R2}(ho:OpR X (compareOp op) r)(ha:PE X a ta)(hb:PE X b tb)(hm:behindInMarks op b=false):PE X (.Compare a [op] [b] pos) (tOp r ta tb):=by
 intro pins s σ H Q I h
 exact wpAny_Compare1 (c2E ha hb I h fun v u s2 x y H2 I2 rx ry q=>ho pins s2 σ H2 x y v u Q I2 rx ry q) hm
noncomputable def c3y(t:TE):TT:=fun σ H Q=>t σ H fun x H'=>∃ k,x = .bl k∧Q k H'
theorem b8t{op:CmpOp}{r:R2}(ho:OpR X (compareOp op) r)(ha:PE X a ta)(hb:PE X b tb)(hm:behindInMarks op b=false):PT X (.Compare a [op] [b] pos) (c3y (tOp r ta tb)):=by
 intro pins s σ H Q I h
 refine wpAny_isTrue_Compare1 (thn (ha pins s σ H _ I h) fun v s1 ⟨x,H1,I1,r1,q1⟩=>thn (hb pins s1 σ H1 _ I1 q1) fun u s2 ⟨y,H2,I2,r2,q2⟩ =>
  thn (ho pins s2 σ H2 x y v u _ I2 r1 r2 q2) fun c s3 ⟨z,H3,I3,r3,k,e,q3⟩=>?_) hm
 subst e
 cases r3
 exact wpAny_truthy_bool ⟨H3,I3,q3⟩
theorem a7J:(sizeLine:Nat)<2 ^ 63:=by rw[sizeLine_eq];decide
theorem a0T{x:V}{us:List Value}(r:q9 [x] us):∃ u,us=[u]∧u6 x u:=by
 cases r with
 | cons r1 r2=>cases r2;exact⟨_,rfl,r1⟩
theorem b4L{x y:V}{us:List Value}(r:q9 [x,y] us):∃ u w',us=[u,w']∧u6 x u∧u6 y w':=by
 cases r with
 | cons r1 r2 =>
  cases r2 with
  | cons r3 r4=>cases r4;exact⟨_,_,rfl,r1,r3⟩
theorem b6S:D7 X (.builtin "abs") (fun xs H Q=>∃ i,xs=[.int i]∧Q (.int (if i<0 then -i else i)) H):=by
 intro pins s σ H xs us Q I r h
 obtain⟨i,rfl,q⟩:=h
 obtain⟨u,rfl,t,rfl⟩:=a0T r
 exact call_abs_int fun u tk=>⟨.int (if i<0 then -i else i),H,I.tok _,⟨_,rfl⟩,q⟩
theorem b3B(hc:X.calm=true):D7 X (.builtin "max") (fun xs H Q=>∃ i j,xs=[.int i,.int j]∧Q (.int (if j > i then j else i)) H):=by
 intro pins s σ H xs us Q I r h
 obtain⟨i,j,rfl,q⟩:=h
 obtain⟨u,w',rfl,⟨t,rfl⟩,⟨t',rfl⟩⟩:=b4L r
 refine max_two_ints (I.ok.hd hc) fun h' tk k=>⟨_,H,I.kept k,?_,q⟩
 by_cases hj:j > i
 ·rw[if_pos hj,if_pos hj];exact⟨_,rfl⟩
 ·rw[if_neg hj,if_neg hj];exact⟨_,rfl⟩
end
end L2
namespace L2
open PySem PySem.Spec PyProof.Rows
structure c2K(h:Heap)(x dx C:Addr)(mA:Str→Option Value):Prop where
 obj:h.get? x=some (PySem.W.instObj C dx)
 ns:h.Ns1 dx mA
 ne:dx≠x
theorem b3k{h:Heap}{dx:Addr}{mA:Str→Option Value}(n:h.Ns1 dx mA):∃ od,h.get? dx=some od∧∀ name,PySem.W.lookIn name od=some (mA name):=by
 obtain⟨o,es,ep,ho,hd,hk,_,hm⟩:=n
 refine⟨o,ho,fun name=>?_⟩
 have e:=hm name
 unfold nsFind findBy at e
 rw[← Array.find?_toList]at e
 unfold PySem.W.lookIn
 rw[hd]
 dsimp only
 split
 ·rename_i y q
  rw[q]at e
  exact congrArg some e
 ·rename_i q
  rw[q]at e
  have a:es.toList.any (·.refKey)=false:=by
   rw[d0s]
   intro y hy
   obtain⟨z,t,hkey⟩:=hk y (Array.mem_toList_iff.mp hy)
   simp[DictEntry.refKey,hkey]
  have a':¬ es.toList.any (·.refKey)=true:=by rw[a];exact c9n
  rw[if_neg a']
  exact congrArg some e
theorem c2K.look{h:Heap}{x dx C:Addr}{mA:Str→Option Value}(I:c2K h x dx C mA):∃ od,PySem.W.InstAt h x (PySem.W.instObj C dx) C (some od)∧∀ name,PySem.W.lookIn name od=some (mA name) :=
 let ⟨od,ho,hl⟩:=b3k I.ns
 ⟨od,⟨I.obj,rfl,rfl,ho⟩,hl⟩
section
variable {prog:Program} {w:World} {A:Around} {E:Value→Shared→Prop} {s:Shared} {K:c8U} {x dx C f:Addr} {mA:Str→Option Value} {name:Str} {v:Value}
end
section
variable {P:Program} {w:World} {H H':Hp} {h h':Heap} {a C dx:Addr} {fs fs':List (Str × V)}
theorem b87(hok:HOk P w H h)(e:H a=some (.ins C dx fs)):∃ mA,c2K h a dx C mA∧(∀ f,c2J (fs.lookup f) (mA f))∧PySem.Within mA (fs.map (·.1))∧fs.length≤1000∧H dx=some (.own a):=by
 obtain⟨d,z,ne,ob,mA,n,r,q⟩:=(show E6 P w H h a (.ins C dx fs)from hok a _ e)
 exact⟨mA,⟨ob,n,ne⟩,r,q,z,d⟩
end
structure Cls(K:c8U)(C:Addr):Prop where
 pg:PySem.W.plainGet K C Str.empty=true
 hd:PySem.W.hasDictIn K C=true
 po:PySem.W.plainOver K C=true
 sa:PySem.W.findIn K (.ref C) "__setattr__" = some (some (.builtin "object.__setattr__"))
theorem Cls.get{K:c8U}{C:Addr}(c:Cls K C)(f:Str):PySem.W.plainGet K C f=true:=c.pg
section
variable {X:Cx} {pins:List (Addr × Obj)} {σ:St} {H:Hp} {s:Shared} {a C dx:Addr} {fs:List (Str × V)} {f:Str} {v:V} {A:Around} {E:Value→Shared→Prop}
end
section
variable {X:Cx} {o e value:Expr} {f:Str} {pos pos' tpos:Pos} {ta tv:TE}
end
section
variable {X:Cx} {pins:List (Addr × Obj)} {σ:St} {H:Hp} {s:Shared} {A:Around} {E:Value→Shared→Prop} {Q:Value→Shared→Prop} {c:Value} {b:Bool}
inductive a22 (K:c8U) (H:Hp):V→Value→Prop where
 | non:a22 K H .non (.type "NoneType")
 | bl (x:Bool):a22 K H (.bl x) (.type "bool")
 | int (i:Int):a22 K H (.int i) (.type "int")
 | str (x:Str):a22 K H (.str x) (.type "str")
 | flt (x:UInt64):a22 K H (.flt x) (.type "float")
 | lst {a:Addr} {xs:List V} (e:H a=some (.lst xs)):a22 K H (.ref a) (.type "list")
 | frz {a:Addr} {o:Obj} {xs:List V} (e:H a=some (.frz o (.lst xs))):a22 K H (.ref a) (.type "list")
 | tup {a:Addr} {xs:List V} (e:H a=some (.tup xs)):a22 K H (.ref a) (.type "tuple")
 | dK {a:Addr} {kvs:List (Key × V)} (e:H a=some (.dK kvs)):a22 K H (.ref a) (.type "dict")
 | dT {a:Addr} {kvs:List (List Key × V)} (e:H a=some (.dT kvs)):a22 K H (.ref a) (.type "dict")
 | ins {a C dx:Addr} {fs:List (Str × V)} (e:H a=some (.ins C dx fs)) (cl:Cls K C) (ha:PySem.W.findIn K (.ref C) "__class__" = some (some (.builtin "object.__class__")))
   (hn:PySem.W.specialIn K (.builtin "object.__class__") "__get__" = some (some (.builtin "getset_descriptor.__get__"))) (htk:PySem.W.takesIn K (.builtin "object.__class__")=some true)
   (hm:PySem.W.mroIn K C (.type "object")=some true):a22 K H (.ref a) (.ref C)
theorem R9{x:V}{u t:Value}(I:Inv X pins σ H s)(rx:u6 x u)(ty:a22 X.K H x t)(e:PySem.W.kitOne X.K t c=some b)(h:∀ tk,Q (.bool b) { s with toks:=tk }) :
  wpAny (model X.prog X.w) A (call (.builtin "isinstance") [u,c]) Q E s:=by
 cases ty with
 | non=>cases(show u=Value.none from rx);exact PySem.W.kia_one PySem.W.kitx_none I.kIn True.intro e (fun z=>nomatch z) h
 | bl y=>cases(show u=Value.bool y from rx);exact PySem.W.kia_one PySem.W.kitx_bool I.kIn True.intro e (fun z=>nomatch z) h
 | int i=>obtain⟨t,q⟩:=(show ∃ t,u=Value.int i t from rx);cases q;exact PySem.W.kia_one PySem.W.kitx_int I.kIn True.intro e (fun z=>nomatch z) h
 | str y=>obtain⟨t,q⟩:=(show ∃ t,u=Value.str y t from rx);cases q;exact PySem.W.kia_one PySem.W.kitx_str I.kIn True.intro e (fun z=>nomatch z) h
 | flt y=>obtain⟨t,q⟩:=(show ∃ t,u=Value.float y t from rx);cases q;exact PySem.W.kia_one PySem.W.kitx_float I.kIn True.intro e (fun z=>nomatch z) h
 | @lst a xs ea =>
  cases(show u=Value.ref a from rx)
  obtain⟨_,_,n,_,h1⟩:=(show E6 X.prog X.w H s.heap a (.lst xs)from I.hok a _ ea)
  exact PySem.W.kia_one PySem.W.kitx_list I.kIn ⟨_,h1,rfl⟩ e (fun z=>nomatch z) h
 | @frz a ob xs ea =>
  cases(show u=Value.ref a from rx)
  obtain⟨_,_,_,n,_,h1⟩:=(show E6 X.prog X.w H s.heap a (.frz ob (.lst xs))from I.hok a _ ea)
  exact PySem.W.kia_one PySem.W.kitx_list I.kIn ⟨_,h1,rfl⟩ e (fun z=>nomatch z) h
 | @tup a xs ea =>
  cases(show u=Value.ref a from rx)
  obtain⟨_,_,_,p⟩:=(show E6 X.prog X.w H s.heap a (.tup xs)from I.hok a _ ea)
  obtain⟨o,h1,h2,_⟩:=p
  exact PySem.W.kia_one PySem.W.kitx_tuple I.kIn ⟨o,h1,h2⟩ e (fun z=>nomatch z) h
 | @dK a kvs ea =>
  cases(show u=Value.ref a from rx)
  obtain⟨_,_,vs,_,p⟩:=(show E6 X.prog X.w H s.heap a (.dK kvs)from I.hok a _ ea)
  obtain⟨o,es,ep,h1,h2,_⟩:=p
  exact PySem.W.kia_one PySem.W.kitx_dict I.kIn ⟨o,h1,h2.1⟩ e (fun z=>nomatch z) h
 | @dT a kvs ea =>
  cases(show u=Value.ref a from rx)
  obtain⟨_,_,xs,_,o,es,ep,h1,h2,_⟩:=(show E6 X.prog X.w H s.heap a (.dT kvs)from I.hok a _ ea)
  exact PySem.W.kia_one PySem.W.kitx_dict I.kIn ⟨o,h1,h2.1⟩ e (fun z=>nomatch z) h
 | @ins a C dx fs ea cl ha hn htk hm =>
  cases(show u=Value.ref a from rx)
  obtain⟨mA,O,_⟩:=b87 I.hok ea
  obtain⟨od,J,_⟩:=O.look
  exact PySem.W.kia_one (PySem.W.kitx_own (cl.get _) cl.hd ha hn htk hm) I.kIn J e (fun z=>nomatch z) h
end
end L2
namespace L2
open PySem PySem.Spec PyProof.Rows
structure L6(k:Nat)(A:Around):Prop where
 hd:A.handled=none
 dp:A.depth+3*k+5<recursionLimit
 un:A.units+16*k+200<cLine
theorem L6.mono{j k:Nat}{A:Around}(r:L6 k A)(h:j≤k):L6 j A:=⟨r.hd,by have:=r.dp;omega,by have:=r.un;omega⟩
theorem L6.deeper{k:Nat}{A:Around}(r:L6 (k+1) A)(env:Env):L6 k (A.deeper env) :=
 ⟨r.hd,by have:=r.dp;show A.depth+1+3*k+5<_;omega,by have:=r.un;show A.units+3+16*k+200<_;omega⟩
theorem L6.in1{k:Nat}{A:Around}(r:L6 (k+1) A):L6 k A.in1 :=
 ⟨r.hd,by have:=r.dp;show A.depth+3*k+5<_;omega,by have:=r.un;show A.units+1+16*k+200<_;omega⟩
theorem L6.depth{k:Nat}{A:Around}(r:L6 k A):A.depth<recursionLimit:=by have:=r.dp;omega
theorem L6.units{k:Nat}{A:Around}(r:L6 k A):A.units+64<cLine:=by have:=r.un;omega
noncomputable def c5m:TA:=fun _ H Q=>Q [] H
noncomputable def c3F(ta:TE)(tr:TA):TA:=fun σ H Q=>ta σ H fun x H1=>tr σ H1 fun xs H2=>Q (x :: xs) H2
section
variable {X:Cx} {e:Expr} {es:List Expr} {te:TE} {t:TA} {pos:Pos}
theorem a7v:PA X [] c5m:=fun _ _ _ _ H Q I h=>Calls.spliced_nil ⟨[],H,I,.nil,h⟩
theorem a3n(ha:PE X e te)(hr:PA X es t)(hs:starEach (e :: es) X.env=(false,eval e X.env) :: starEach es X.env:=by rfl):PA X (e :: es) (c3F te t):=by
 intro pos pins s σ H Q I h
 rw[hs]
 show wpAny _ _ (spliced ((false,eval e X.env) :: backTo pos (starEach es X.env))) _ _ s
 refine Calls.spliced_cons (thn (ha pins s σ H _ I h) fun u s1 zz=>?_)
 obtain⟨x,H1,I1,r1,q1⟩:=zz
 exact thn (hr pos pins s1 σ H1 _ I1 q1) fun us s2 ⟨xs,H2,I2,r2,q2⟩=>⟨x :: xs,H2,I2,.cons r1 r2,q2⟩
noncomputable def c5g(t:TA):TE:=fun σ H Q=>t σ H fun xs H1=>xs.length≤sizeLine∧∀ p,H1 p=none→Q (.ref p) (upd H1 p (.tup xs))
noncomputable def c5n(t:TA):TE:=fun σ H Q=>t σ H fun xs H1=>xs.length≤sizeLine∧∀ p,H1 p=none→Q (.ref p) (upd H1 p (.lst xs))
theorem c1D{x1}(h:PA X es t):PE X (.Tuple es x1 pos) (c5g t):=by
 intro pins s σ H Q I hq
 refine wpAny_Tuple_spliced (thn (h pos pins s σ H _ I hq) fun us s1 ⟨xs,H1,I1,r,z,q⟩=>⟨by rw[← r.length];exact z,?_⟩)
 have hf:H1 s1.heap.objs.size=none:=I1.hok.fresh (c9b _)
 refine⟨.ref s1.heap.objs.size,upd H1 s1.heap.objs.size (.tup xs),I1.laid (t':=s1.toks) (fun b u e=>c8X _ e) (c9b _) ?_,rfl,q _ hf⟩
 exact⟨z,us,r,⟨_,c86 _ rfl,rfl,_,rfl⟩⟩
theorem b5D(h:PA X es t):PE X (.List es pos) (c5n t):=by
 intro pins s σ H Q I hq
 refine wpAny_List_spliced (thn (h pos pins s σ H _ I hq) fun us s1 ⟨xs,H1,I1,r,z,q⟩=>⟨by rw[← r.length];exact z,?_⟩)
 have hf:H1 s1.heap.objs.size=none:=I1.hok.fresh (c9b _)
 refine⟨.ref s1.heap.objs.size,upd H1 s1.heap.objs.size (.lst xs),I1.laid (t':=s1.toks) (fun b u e=>c8X _ e) (c9b _) ?_,rfl,q _ hf⟩
 exact⟨z,us,0,r,c86 _ rfl⟩
end
noncomputable abbrev Sp:=List V→Hp→VK→XK→Prop
noncomputable abbrev CXT:=List Env→Hp→Shared→XK→Value→Shared→Prop
structure b01(P:Program)(w:World)(K:c8U)(mg:Str→Option Value)(base:Heap)(A:Around)(outer:List Env)(s:Shared)(H:Hp):Prop where
 frames:A.frames=some outer
 mod:Mod K mg base
 bs:∀ b o,base.get? b=some o→s.heap.get? b=some o∧H b=none
 bsz:base.objs.size≤s.heap.objs.size
 funs:s.heap.FunFrames base outer
 frf:∀ b∈frs outer,H b=none
 hok:HOk P w H s.heap
 bare:AllBare s.gens
noncomputable def CE(outer:List Env)(P:Program)(w:World)(H:Hp)(s:Shared)(Q:VK)(u:Value)(s':Shared):Prop :=
 ∃ v H',s'.os=s.os∧AllBare s'.gens∧Un (frs outer) [] H H' s.heap s'.heap∧HOk P w H' s'.heap∧u6 v u∧Q v H'
noncomputable def CR(CX:CXT)(outer:List Env)(P:Program)(w:World)(H:Hp)(s:Shared)(Q:VK)(E:XK)(r:Result)(s':Shared):Prop :=
 match r with
 | .ok (.ret u)=>CE outer P w H s Q u s'
 | .ok _=>False
 | .error e=>CX outer H s E e s'
structure X8(P:Program)(w:World)(K:c8U)(mg:Str→Option Value)(base:Heap)(CX:CXT)(k:Nat)(f:Addr)(fd:FuncData)(ps:List Str)(sp:Sp):Prop where
 len:∀ vs H Q E,sp vs H Q E→vs.length=ps.length
 run:∀(A:Around) (outer:List Env) (s:Shared) (H:Hp) (args:Args) (us:List Value) (vs:List V) (Q:VK) (E:XK),L6 k A→b01 P w K mg base A outer s H→BindsTo s fd args (ps.zip us)→q9 vs us→sp vs H Q E →
  codeAny (model P w) A (.call (.ref f) args) (CR CX outer P w H s Q E) s
theorem X8.mono{P:Program}{w:World}{K:c8U}{mg:Str→Option Value}{base:Heap}{CX:CXT}{j k:Nat}{f:Addr}{fd:FuncData}{ps:List Str}{sp:Sp}(F:X8 P w K mg base CX j f fd ps sp)(h:j≤k) :
  X8 P w K mg base CX k f fd ps sp:=⟨F.len,fun A outer s H args us vs Q E hr=>F.run A outer s H args us vs Q E (hr.mono h)⟩
theorem X8.imp{P:Program}{w:World}{K:c8U}{mg:Str→Option Value}{base:Heap}{CX:CXT}{k:Nat}{f:Addr}{fd:FuncData}{ps:List Str}{sp sp':Sp}(F:X8 P w K mg base CX k f fd ps sp)
  (h:∀ vs H Q E,sp' vs H Q E→sp vs H Q E):X8 P w K mg base CX k f fd ps sp' :=
 ⟨fun vs H Q E q=>F.len vs H Q E (h _ _ _ _ q),fun A outer s H args us vs Q E hr he hb hv hs=>F.run A outer s H args us vs Q E hr he hb hv (h _ _ _ _ hs)⟩
theorem b01.in1{P:Program}{w:World}{K:c8U}{mg:Str→Option Value}{base:Heap}{A:Around}{outer:List Env}{s:Shared}{H:Hp}(e:b01 P w K mg base A outer s H) :
  b01 P w K mg base A.in1 outer s H:=⟨e.frames,e.mod,e.bs,e.bsz,e.funs,e.frf,e.hok,e.bare⟩
section
variable {X:Cx} {pins:List (Addr × Obj)} {σ:St} {H:Hp} {s s':Shared}
theorem Inv.env0(I:Inv X pins σ H s):b01 X.prog X.w X.K X.mg X.base X.A X.stack s H :=
 ⟨I.ok.frames,I.ok.mod,I.bs,c85 I.ok.bsz I.sz,I.stack,I.stkFree,I.hok,I.bare⟩
theorem Inv.after{Q:VK}{u:Value}(I:Inv X pins σ H s)(h:CE X.stack X.prog X.w H s Q u s'):EP X pins σ Q u s':=by
 obtain⟨v,H',os,bare,un,hok,r,q⟩:=h
 obtain⟨hh,g,d,t,os'⟩:=s'
 obtain rfl:os'=s.os:=os
 exact⟨v,H',I.call (h':=hh) (g':=g) (d':=d) (t':=t) (ch:=[]) un hok bare (fun b z=>absurd z (by simp)),r,q⟩
end
noncomputable def c3G(sp:Sp)(dvs:List V)(E:XK)(t:TA):TE:=fun σ H Q=>t σ H fun vs H1=>sp (vs++dvs) H1 Q E
noncomputable def a4S(K:c8U)(fd:FuncData)(ps:List Str)(ds:List Value):Prop :=
 ∀(s:Shared) (us:List Value),K.In s.heap→(us++ds).length=ps.length→BindsTo s fd ⟨us,[]⟩ (ps.zip (us++ds))
theorem a4S.all{K:c8U}{fd:FuncData}{ps:List Str}(h:∀ us:List Value,us.length=ps.length→bindArgs fd ⟨us,[]⟩=pure (ps.zip us)):a4S K fd ps []:=fun s us _ hl=>by
 rw[c9M]at hl ⊢
 exact .of_eq (h us hl)
noncomputable def a75(CX:CXT)(X:Cx)(E:XK):Prop:=∀(pins:List (Addr × Obj)) (σ:St) (H:Hp) (s:Shared) (e:Value) (s':Shared),Inv X pins σ H s→CX X.stack H s E e s'→X.xe e s'
section
variable {X:Cx} {CX:CXT} {k:Nat} {f C:Addr} {fd:FuncData} {ps:List Str} {sp:Sp} {dvs:List V} {ds:List Value} {E:XK} {x m:Str} {p pos apos:Pos} {e o:Expr} {es:List Expr} {ta:TE} {t:TA}
theorem c1j{pins:List (Addr × Obj)}{σ:St}{H:Hp}{s:Shared}{Q:VK}{us:List Value}{vs:List V}(F:X8 X.prog X.w X.K X.mg X.base CX k f fd ps sp)(hr:L6 k X.A)(hb:a4S X.K fd ps ds)(hd:q9 dvs ds)(hx:a75 CX X E)
  (I:Inv X pins σ H s) (r:q9 vs us) (h:sp (vs++dvs) H Q E):wpAny (model X.prog X.w) X.A (call (.ref f) us) (EP X pins σ Q) X.xe s:=by
 have r2:q9 (vs++dvs) (us++ds):=r.append hd
 have hl:(us++ds).length=ps.length:=by rw[← r2.length];exact F.len _ _ _ _ h
 refine wpAny_call (codeAny_mono (F.run X.A X.stack s H ⟨us,[]⟩ (us++ds) (vs++dvs) Q E hr I.env0 (hb s us I.kIn hl) r2 h) fun r s' hq=>?_)
 cases r with
 | error e=>exact hx pins σ H s e s' I hq
 | ok fl =>
  cases fl with
  | ret u=>exact I.after hq
  | next=>exact False.elim hq
  | brk=>exact False.elim hq
  | cont=>exact False.elim hq
theorem b8J(F:X8 X.prog X.w X.K X.mg X.base CX k f fd ps sp)(hr:L6 k X.A)(hg:Gl X x)(hm:X.mg x=some (.ref f))(hk:PySem.W.keepIn X.K (.ref f)=true)(hb:a4S X.K fd ps ds)(hd:q9 dvs ds)(hx:a75 CX X E)
  (ha:PA X (e :: es) t) (hdb:(x == ("__debug__" : Str))=false:=by decide) (he:starEach (e :: es) X.env=(false,eval e X.env) :: starEach es X.env:=by rfl) (hpl:(backTo pos (starEach es X.env)).any (·.1)=false:=by rfl) :
  PE X (.Call (.Name x p) (e :: es) [] pos) (c3G sp dvs E t):=by
 intro pins s σ H Q I h
 refine wpAny_Call_Name_kw (b2d I hg hm ?_ hdb)
 refine PySem.W.callWith_K (h₀:=X.base) I.ok.mod.kin hk (thn (ha pos pins s σ H _ I h) fun us s1 ⟨vs,H1,I1,r,q⟩=>⟨I1.kIn,?_⟩) he hpl
 exact c1j F hr hb hd hx I1 r q
end
section
variable {X:Cx} {CX:CXT} {k:Nat} {f C:Addr} {fd:FuncData} {ps ks:List Str} {sp:Sp} {E:XK} {x m:Str} {p pos apos kpos:Pos} {e o:Expr} {es:List Expr} {kws:List Keyword} {te ta:TE} {t tk:TA} {nm:Option Str}
variable {g:List Value→List Value→List Value} {gV:List V→List V→List V}
end
structure f8(N P:List Str)(sc:Scope):Prop where
 kind:sc.kind = .function
 co:sc.isCoroutine=false
 gen:sc.isGenerator=false
 nd:N.Nodup
 pre:N.take P.length=P
 par:∀ x∈P,sc.names.lookup x=some .local∨sc.names.lookup x=some .cell
 nofree:∀ y∈sc.names,y.2 ≠ .free
theorem a6H{kindOf:Str→Option NameKind}{x:Str}:∀{binds:List (Str × Value)} {m:Str→Option Value},(∀ v,(x,v)∉binds)→bindL kindOf binds m x=m x
 | [],_,_=>rfl
 | (n,v) :: r,m,h=>by
  unfold bindL
  rw[a6H fun w hw=>h w (c9r _ hw)]
  split
  ·have:x≠n:=by rintro rfl;exact h v c9I
   simp[this]
  ·rfl
theorem a6J{kindOf:Str→Option NameKind}{x:Str}:∀{binds:List (Str × Value)} {m:Str→Option Value},(∀ v,(x,v)∉binds)→bindC kindOf binds m x=m x
 | [],_,_=>rfl
 | (n,v) :: r,m,h=>by
  unfold bindC
  rw[a6J fun w hw=>h w (c9r _ hw)]
  split
  ·rfl
  ·have:x≠n:=by rintro rfl;exact h v c9I
   simp[this]
theorem a6I{kindOf:Str→Option NameKind}{x:Str}{v:Value}:∀{P:List Str} {vs:List Value} {i:Nat} {m:Str→Option Value},P.Nodup→P[i]? = some x→vs[i]? = some v→kindOf x=some .local →
  bindL kindOf (P.zip vs) m x=some v
 | [],_,_,_,_,h,_,_=>by simp at h
 | _ :: _,[],_,_,_,_,h,_=>by simp at h
 | p :: P,w :: vs,0,m,nd,h1,h2,hk=>by
  simp at h1 h2;subst h1;subst h2
  show bindL kindOf ((p,w) :: P.zip vs) m p=_
  unfold bindL
  rw[a6H fun v hv=>(d0V.mp nd).1 (d0W hv).1,if_pos hk]
  simp
 | p :: P,w :: vs,i+1,m,nd,h1,h2,hk=>by
  show bindL kindOf ((p,w) :: P.zip vs) m x=_
  unfold bindL
  exact a6I (i:=i) (d0V.mp nd).2 (by simpa using h1) (by simpa using h2) hk
theorem a6K{kindOf:Str→Option NameKind}{x:Str}{v:Value}:∀{P:List Str} {vs:List Value} {i:Nat} {m:Str→Option Value},P.Nodup→P[i]? = some x→vs[i]? = some v→kindOf x≠some .local →
  bindC kindOf (P.zip vs) m x=some v
 | [],_,_,_,_,h,_,_=>by simp at h
 | _ :: _,[],_,_,_,_,h,_=>by simp at h
 | p :: P,w :: vs,0,m,nd,h1,h2,hk=>by
  simp at h1 h2;subst h1;subst h2
  show bindC kindOf ((p,w) :: P.zip vs) m p=_
  unfold bindC
  rw[a6J fun v hv=>(d0V.mp nd).1 (d0W hv).1,if_neg hk]
  simp
 | p :: P,w :: vs,i+1,m,nd,h1,h2,hk=>by
  show bindC kindOf ((p,w) :: P.zip vs) m x=_
  unfold bindC
  exact a6K (i:=i) (d0V.mp nd).2 (by simpa using h1) (by simpa using h2) hk
noncomputable def start(N:List Str)(vs:List V):St:=vs.map some++d0m (N.length - vs.length) none
noncomputable def b0U(CX:CXT)(P:Program)(w:World)(K:c8U)(mg:Str→Option Value)(base:Heap)(N:List Str)(qual:Str)(scope:Scope)(f:Addr)(cd:Value)(A:Around)(outer:List Env)(s:Shared)(H:Hp)(E:XK):Cx where
 prog:=P
 w:=w
 K:=K
 mg:=mg
 base:=base
 A:=A.deeper (envOfC qual scope s.heap.objs.size f cd)
 N:=N
 s₀:=s
 H₀:=H
 env:=envOfC qual scope s.heap.objs.size f cd
 outer:=outer
 stack:=envOfC qual scope s.heap.objs.size f cd :: outer
 ex:=[]
 calm:=true
 fn:=fun _=>true
 pn:=[]
 xe:=fun e s'=>wpAny (model P w) (A.deeper (envOfC qual scope s.heap.objs.size f cd)) (leaving (envOfC qual scope s.heap.objs.size f cd) e) (fun _ s''=>CX outer H s E e s'') (fun e' s''=>CX outer H s E e' s'') s'
theorem a9G{sc:Scope}{n:Nat}{x:Str}(h:sc.names.lookup x=some .cell):∃ c,(cellsFrom n sc.names []).lookup x=some c:=by
 have q:=PySem.W.cellsFrom_some sc.names n [] (.inl h)
 exact Option.isSome_iff_exists.mp q
theorem b3p{CX:CXT}{P:Program}{w:World}{K:c8U}{mg:Str→Option Value}{base:Heap}{N ps:List Str}{qual:Str}{scope:Scope}{f:Addr}{cd:Value}{A:Around}{outer:List Env}{s s1:Shared}{H:Hp}{E:XK}{us:List Value}{vs:List V}
  (S:f8 N ps scope) (hd:A.handled=none) (e0:b01 P w K mg base A outer s H) (hl:vs.length=ps.length) (r:q9 vs us)
  (x:InCallC s s.heap.objs.size (bindL (envOfC qual scope s.heap.objs.size f cd).kindOf (ps.zip us) fun _=>none) (cellsFrom (s.heap.objs.size+1) scope.names []) (bindC (envOfC qual scope s.heap.objs.size f cd).kindOf (ps.zip us) fun _=>none) s1) :
  Inv (b0U CX P w K mg base N qual scope f cd A outer s H E) [] (start N vs) H s1:=by
 have hpl:ps.length≤N.length:=by have:=congrArg d1J S.pre;rw[c9W]at this;omega
 obtain⟨h1,tk,rfl,hk⟩:=x.done
 have noA:∀ b:Addr,b∉(b0U CX P w K mg base N qual scope f cd A outer s H E).ex:=fun b z=>absurd (show b∈([]:List Addr)from z) (by simp)
 refine⟨⟨e0.mod,S.kind,rfl,rfl,c9b _,fun y z c h1 h2=>?_,fun y hy=>?_,fun y c _ h=>?_,fun _=>hd,Around.frames_deeper e0.frames,.inr ⟨rfl,rfl⟩,fun b z=>absurd z (noA b),e0.bs,e0.bsz,fun b _ _=>noA b,fun b z=>absurd z (noA b),e0.funs,e0.frf⟩,
  rfl,e0.bare,Un.kept hk,⟨_,x.toInCall.ns,fun i y v h1 h2 h3=>?_⟩,fun y c h=>⟨_,x.cell y c h⟩,e0.hok.fresh (c9b _),fun y c h=>?_,fun p hp=>absurd (show p∈([]:List (Addr × Obj))from hp) (by simp),e0.hok.kept hk,?_⟩
 ·exact name_of_addr x.apart (PySem.mem_of_lookup h1) (PySem.mem_of_lookup h2)
 ·have hy:scope.names.lookup y=some .cell∨scope.names.lookup y=some .free:=hy
  rcases hy with hy|hy
  ·exact a9G hy
  ·exact absurd rfl (S.nofree _ (PySem.mem_of_lookup hy))
 ·exact d0H (x.above y c (PySem.mem_of_lookup h))
 ·have hi:i<vs.length:=by
   unfold start at h2
   by_cases hi:i<vs.length
   ·exact hi
   ·rw[d0t (by simpa using hi)]at h2
    rw[d0b]at h2
    split at h2<;>cases h2
  have ha:vs[i]? = some v:=by
   unfold start at h2
   rw[d0v (by simpa using hi),c83]at h2
   cases e:vs[i]? with
   | none=>rw[e]at h2;cases h2
   | some a=>rw[e]at h2;cases h2;rfl
  obtain⟨u,hu,rv⟩:=r.get ha
  have hp:ps[i]? = some y:=by
   rw[← S.pre,List.getElem?_take_of_lt (by omega)];exact h1
  have ndP:ps.Nodup:=by rw[← S.pre];exact S.nd.sublist (List.take_sublist _ _)
  refine⟨u,rv,?_⟩
  rcases S.par y (c81 hp)with k|k
  ·exact .inl ⟨k,a6I ndP hp hu k⟩
  ·obtain⟨c,e⟩:=a9G (n:=s.heap.objs.size+1) k
   refine .inr ⟨.inl k,c,e,?_⟩
   have q:=x.cell y c e
   rw[a6K ndP hp hu (by show scope.names.lookup y≠_;rw[k];decide)]at q
   exact q
 ·exact e0.hok.fresh (d0H (x.above y c (PySem.mem_of_lookup h)))
 ·unfold start
  show _=N.length
  rw[c9h,c8Y,d0I]
  omega
theorem c4w{CX:CXT}{P:Program}{w:World}{K:c8U}{mg:Str→Option Value}{base:Heap}{k:Nat}{f:Addr}{name qual:Str}{params:Arguments}{body:List Stmt}{scope:Scope}{dV kV doc pm cdv ct oc:Value}{an od:Option Addr}
  {osl:Array (Option Value)} {N ps:List Str} {sp:Sp} (lk:K.lookup f=some ⟨oc,od,.func (PySem.W.fnOf name qual params body scope dV kV doc pm an cdv ct),osl⟩) (hcd:PySem.W.codeIn K cdv qual=true) (S:f8 N ps scope)
  (len:∀ vs H Q E,sp vs H Q E→vs.length=ps.length)
  (hbody:∀(A:Around) (outer:List Env) (s:Shared) (H:Hp) (vs:List V) (Q:VK) (E:XK),L6 k (A.deeper (envOfC qual scope s.heap.objs.size f cdv))→sp vs H Q E →
   ∃ t,PSs (b0U CX P w K mg base N qual scope f cdv A outer s H E) body t∧t { nx:=fun _ H'=>Q .non H',rt:=Q } (start N vs) H) :
  X8 P w K mg base CX (k+1) f (PySem.W.fnOf name qual params body scope dV kV doc pm an cdv ct) ps sp:=by
 refine⟨len,fun A outer s H args us vs Q E hr e0 hb r hsp=>?_⟩
 have hl:=len _ _ _ _ hsp
 have KX:K.In s.heap:=e0.mod.kin.keeps fun b o e=>(e0.bs b o e).1
 have lim:s.heap.NoLimit:=e0.mod.nolimit.keeps fun b o e=>(e0.bs b o e).1
 have hkind:∀ y∈ps.zip us,scope.names.lookup y.1=some .local∨(scope.names.lookup y.1=some .cell∧((cellsFrom (s.heap.objs.size+1) scope.names []).lookup y.1).isSome=true):=fun⟨n,v⟩ hy=>by
  rcases S.par n (d0W hy).1 with q|q
  ·exact .inl q
  ·exact .inr ⟨q,PySem.W.cellsFrom_some _ _ _ (.inl q)⟩
 refine codeAny_call_function hr.depth (KX _ _ lk) rfl S.co S.gen rfl (PySem.W.codeRec_of KX hcd) (hb _ _ _ _ ?_)
 refine wpAny_newFunctionEnv_cells S.kind hkind fun env he s1 x=>?_
 subst he
 refine⟨lim.keeps x.toInCall.keep,codeAny_func ?_⟩
 obtain⟨t,ht,hq⟩:=hbody A outer s H vs Q E (hr.deeper _) hsp
 have I:Inv (b0U CX P w K mg base N qual scope f cdv A outer s H E) [] (start N vs) H s1:=b3p S hr.hd e0 hl r x
 refine wpAny_mono (ht [] s1 (start N vs) H _ I hq) (fun fl s' hs=>?_) fun e s' hs=>hs
 have fin:∀{σ':St} {H':Hp} {v:V} {u:Value},Inv (b0U CX P w K mg base N qual scope f cdv A outer s H E) [] σ' H' s'→u6 v u→Q v H'→CE outer P w H s Q u s' :=
  fun{σ' H' v u} J rv q=>⟨v,H',J.os,J.bare,J.base,J.hok,rv,q⟩
 cases fl with
 | ret u =>
  obtain⟨v,σ',H',J,rv,q⟩:=hs
  exact fin J rv q
 | next =>
  obtain⟨σ',H',J,q⟩:=hs
  exact fin (v:=V.non) (u:=Value.none) J rfl q
 | brk =>
  obtain⟨_,_,_,q⟩:=hs
  exact False.elim q
 | cont =>
  obtain⟨_,_,_,q⟩:=hs
  exact False.elim q
end L2
namespace L2
open PySem PySem.Spec PyProof.Rows
section
variable {X:Cx} {x:Str} {p pos:Pos} {e:Expr} {es:List Expr} {t:TA} {id T:String} {r:List V→Hp→VK→Prop}
noncomputable def tCB(r:List V→Hp→VK→Prop)(t:TA):TE:=fun σ H Q=>t σ H fun vs H1=>r vs H1 Q
theorem b5F(hc:D7 X (.builtin id) r)(hg:Gl X x)(hm:X.mg x=none)(hv:bootBuiltins x=some (.builtin id))(ha:PA X (e :: es) t)(hn:x ≠ "__name__" := by decide)(hdb:(x == ("__debug__" : Str))=false:=by decide)
  (he:starEach (e :: es) X.env=(false,eval e X.env) :: starEach es X.env:=by rfl) (hpl:(backTo pos (starEach es X.env)).any (·.1)=false:=by rfl):PE X (.Call (.Name x p) (e :: es) [] pos) (tCB r t):=by
 intro pins s σ H Q I h
 refine wpAny_Call_Name_kw (O1 I hg hm hv ?_ hn hdb)
 exact PyProof.Rows.callWith_builtin1 (thn (ha pos pins s σ H _ I h) fun us s1 ⟨vs,H1,I1,r1,q1⟩=>hc pins s1 σ H1 vs us Q I1 r1 q1) he hpl
theorem R4(hc:D7 X (.type T) r)(hg:Gl X x)(hm:X.mg x=none)(hv:bootBuiltins x=some (.type T))(ha:PA X (e :: es) t)(hn:x ≠ "__name__" := by decide)(hdb:(x == ("__debug__" : Str))=false:=by decide)
  (he:starEach (e :: es) X.env=(false,eval e X.env) :: starEach es X.env:=by rfl) (hpl:(backTo pos (starEach es X.env)).any (·.1)=false:=by rfl):PE X (.Call (.Name x p) (e :: es) [] pos) (tCB r t):=by
 intro pins s σ H Q I h
 refine wpAny_Call_Name_kw (O1 I hg hm hv ?_ hn hdb)
 exact PyProof.Rows.callWith_type1 (thn (ha pos pins s σ H _ I h) fun us s1 ⟨vs,H1,I1,r1,q1⟩=>hc pins s1 σ H1 vs us Q I1 r1 q1) he hpl
end
end L2
namespace HT
open PySem PyProof.Rows
noncomputable def D5:List Int→List Int→Bool
 | [],[]=>false
 | [],_ :: _=>true
 | _ :: _,[]=>false
 | x :: xs,y :: ys=>if x=y then D5 xs ys else decide (x<y)
theorem a1k(x y:Int)(xs ys:List Int):D5 (x :: xs) (y :: ys)=if x=y then D5 xs ys else decide (x<y):=rfl
theorem a0X:D5 [] []=false:=rfl
theorem a4G(y:Int)(ys:List Int):D5 [] (y :: ys)=true:=rfl
theorem a4H(x:Int)(xs:List Int):D5 (x :: xs) []=false:=rfl
theorem b6w(A:Around)(s:Shared)(a:Int)(t:Tok)(c:Int)(u:Tok):∃ e,SeqAt.EqAt A s (.int a t) (.int c u) e∧(e=true↔a=c) :=
 ⟨(a == c),SeqAt.EqAt.int_int a t c u,by simp⟩
theorem b5q(A:Around)(s:Shared)(a:Int)(t:Tok)(c:Int)(u:Tok)(prog:Program)(w:World)(E:Value→Shared→Prop)(Q:Value→Shared→Prop)(h:Q (.bool (decide (a<c))) s) :
  wpAny (model prog w) A (richCompare .Lt (.int a t) (.int c u)) Q E s :=
 (PyProof.Rows.lt_int h:wpAny (model prog w) A (compareOp .Lt (.int a t) (.int c u)) Q E s)
section
open PySem.SeqAt
open PySem.AutoSeq1 (wpAny_loadPart')
open PySem.MeetsSeq PySem.MeetsSeq2 PySem.MeetsSeq3
theorem a4T(l b:Addr)(items items2:Array Value)(n n2:Nat)(dd dd2:Option Addr)(sl sl2:Array (Option Value))(ns ms:List Int)(hi:IntsAre items.toList ns)(hj:IntsAre items2.toList ms) :
  Meets (Builtin.«tuple.__lt__» ⟨[.ref l,.ref b],[]⟩)
   (fun _ R s=>s.heap.get? l=some { cls:=.type "tuple",dict:=dd,data:=.seq items n,slots:=sl }∧s.heap.get? b=some { cls:=.type "tuple",dict:=dd2,data:=.seq items2 n2,slots:=sl2 } ∧
    R (.ok (.ret (.bool (D5 ns ms)))) s) :=
 .of_wp fun prog w A R s h=>by
  obtain⟨hp,g,d,tk,os⟩:=s;obtain⟨hl,hb,h⟩:=h
  have f2:=AutoSeq1.sub_tuple_tuple
  have z1:items.size=ns.length:=by rw[← hi.length];simp
  have z2:items2.size=ms.length:=by rw[← hj.length];simp
  wp_walk using wpAny_loadPart' hl,wpAny_loadPart' hb,wpAny_forIn_list _ (fun D4 b s'=>b.1=none∧s' = ⟨hp,g,d,tk,os⟩∧∃(vs ws:List Value) (ns' ms':List Int),D4=vs.zip ws ∧
   IntsAre vs ns'∧IntsAre ws ms'∧ns'.length+items2.size=ms'.length+items.size∧R (.ok (.ret (.bool (D5 ns' ms')))) ⟨hp,g,d,tk,os⟩) _
  case turn =>
   rintro⟨y,x⟩ D4 b s' ⟨hb',rfl,vs,ws,ns',ms',hz,hvi,hwi,hlen,hR⟩
   cases hvi with
   | nil=>rw[List.zip_nil_left]at hz;cases hz
   | cons a t hvi' =>
    cases hwi with
    | nil=>rw[List.zip_nil_right]at hz;cases hz
    | cons c u hwi' =>
     rw[d04]at hz
     injection hz with hyx hrest
     injection hyx with hy hx
     subst hy hx
     rw[a1k]at hR
     simp only[c9B]at hlen
     obtain⟨e,he,hiff⟩:=b6w A.in1 ⟨hp,g,d,tk,os⟩ a t c u
     refine c8T (he prog w _ _ ?_)
     cases e with
     | true =>
      rw[if_pos (hiff.mp rfl)]at hR
      wp_walk
      exact⟨rfl,rfl,_,_,_,_,hrest,hvi',hwi',by omega,hR⟩
     | false =>
      rw[if_neg (fun q=>absurd (hiff.mpr q) c9n)]at hR
      have hri:=b5q A.in1 ⟨hp,g,d,tk,os⟩ a t c u prog w
      wp_walk using hri
      exact⟨_,rfl,by simpa using hR⟩
  case fin =>
   rintro⟨b1,b2⟩ s' ⟨hb',rfl,vs,ws,ns',ms',hz,hvi,hwi,hlen,hR⟩
   simp only at hb'
   subst hb'
   have hv:D5 ns' ms'=decide (items.size<items2.size):=by
    cases hvi with
    | nil =>
     cases hwi with
     | nil =>
      simp only[d0i]at hlen
      rw[a0X]
      exact(decide_eq_false (by omega)).symm
     | cons c u hw =>
      simp only[d0i,c9B]at hlen
      rw[a4G]
      exact(decide_eq_true (by omega)).symm
    | cons a t hv =>
     cases hwi with
     | nil =>
      simp only[d0i,c9B]at hlen
      rw[a4H]
      exact(decide_eq_false (by omega)).symm
     | cons c u hw =>
      rw[d04]at hz
      cases hz
   rw[hv]at hR
   wp_walk
   exact⟨_,rfl,by simpa[Builtin.Tuple.tupleCompareSizes]using hR⟩
  case h =>
   exact⟨rfl,rfl,items.toList,items2.toList,ns,ms,rfl,hi,hj,by omega,h⟩
end
section
variable {prog:Program} {w:World} {A:Around} {E:Value→Shared→Prop} {s:Shared}
theorem b0K{l b:Addr}{items items2:Array Value}{ns ms:List Int}{Q:Value→Shared→Prop}(hl:IsTup s.heap l items)(hb:IsTup s.heap b items2)(hi:IntsAre items.toList ns)(hj:IntsAre items2.toList ms)
  (hu:A.units<cLine) (h:Q (.bool (D5 ns ms)) s):wpAny (model prog w) A (compareOp .Lt (.ref l) (.ref b)) Q E s:=by
 obtain⟨⟨cls,dd,data,sl⟩,ho,hc,n,hd⟩:=id hl
 obtain⟨⟨cls2,dd2,data2,sl2⟩,ho2,hc2,n2,hd2⟩:=id hb
 simp only at hc hd hc2 hd2
 subst hc hd hc2 hd2
 exact richCompare_meets_room (op:=.Lt) ⟨_,ho,rfl⟩ ⟨_,ho2,rfl⟩ PySem.F.slot_tuple_lt PySem.F.entry_tuple_lt (PySem.F.args_tuple_lt_2 _ _) (a4T l b items items2 n n2 dd dd2 sl sl2 ns ms hi hj)
  ⟨ho,ho2,show Value.bool (D5 ns ms)≠Value.notImplemented∧Q (.bool (D5 ns ms)) s from⟨(fun x=>nomatch x),h⟩⟩ hu
noncomputable def sIx(n d:Nat):Option Int→Nat
 | none=>d
 | some v=>if v<0 then(v+(n:Int)).toNat else min v.toNat n
theorem b5i(n d:Nat):sIx n d none=d:=rfl
theorem b8n(n d k:Nat):sIx n d (some (k:Int))=min k n:=by
 show(if (k:Int)<0 then((k:Int)+(n:Int)).toNat else min (k:Int).toNat n)=min k n
 rw[if_neg (by omega),c9X]
theorem c1h(n d:Nat)(hd:d≤n)(o:Option Int):sIx n d o≤n:=by
 cases o with
 | none=>exact hd
 | some v =>
  show(if v<0 then(v+(n:Int)).toNat else min v.toNat n)≤n
  by_cases hv:v<0
  ·rw[if_pos hv];omega
  ·rw[if_neg hv];exact d1o _ _
theorem b2B(v:Int)(n d:Nat):(if v<0 then max (v+(n:Int)) 0 else min v (n:Int))=((sIx n d (some v):Nat):Int):=by
 show(if v<0 then max (v+(n:Int)) 0 else min v (n:Int))=(((if v<0 then(v+(n:Int)).toNat else min v.toNat n):Nat):Int)
 by_cases hv:v<0
 ·simp only[if_pos hv];omega
 ·simp only[if_neg hv];omega
theorem b0Z(lo hi:Option Int)(n:Nat):Builtin.Slice.sliceAdjust lo hi 1 (n:Int)=(((sIx n 0 lo:Nat):Int),((sIx n n hi:Nat):Int)):=by
 have h1:¬ ((1:Int)<0):=by omega
 unfold Builtin.Slice.sliceAdjust
 simp only[h1,if_false]
 refine Prod.ext ?_ ?_
 ·cases lo with
  | none=>rfl
  | some v=>exact b2B v n 0
 ·cases hi with
  | none=>rfl
  | some v=>exact b2B v n n
theorem b0v(i j:Nat):Builtin.Slice.slicePlaces (i:Int) (j:Int) 1=j - i:=by
 unfold Builtin.Slice.slicePlaces
 have h1:(1:Int) > 0:=by omega
 simp only[h1,if_true,Int.ediv_one]
 split<;>omega
theorem a32{v:Value}{o:Option Int}{Q:Option Int→Shared→Prop}(p:IsPart v o)(h:Q o s):wpAny (model prog w) A (Builtin.Slice.slicePartIndex v) Q E s:=by
 cases p with
 | none=>exact slicePart_none h
 | int i t=>exact slicePart_int h
theorem a2h{sl:Addr}{vl vu:Value}{lo hi:Option Int}{n:Nat}{Q:Int × Int × Nat→Shared→Prop}(hs:s.heap.IsSliceOf sl vl vu .none)(pl:IsPart vl lo)(pu:IsPart vu hi)
  (h:Q (((sIx n 0 lo:Nat):Int),1,sIx n n hi - sIx n 0 lo) s):wpAny (model prog w) A (Builtin.Slice.sliceApplied (.ref sl) (pure (n:Int))) Q E s:=by
 obtain⟨os,hos,hcs,hds⟩:=id hs
 unfold Builtin.Slice.sliceApplied Builtin.Slice.sliceFields
 refine c8T (c8T (wpAny_field hos hds (x:=vl) rfl (c8T (wpAny_field hos hds (x:=vu) rfl (c8T (wpAny_field hos hds (x:=.none) rfl (c84 ?_)))))))
 refine c8T (slicePart_none ?_)
 show wpAny _ _ (if ((1:Int) == 0)=true then _ else _) _ _ s
 rw[if_neg (by decide)]
 refine c8T (a32 pl (c8T (a32 pu (c8T (c84 ?_)))))
 show wpAny _ _ (match Builtin.Slice.sliceAdjust lo hi 1 (n:Int)with|(lo,hi)=>pure (lo,(1:Int),Builtin.Slice.slicePlaces lo hi 1)) _ _ s
 rw[b0Z lo hi n]
 show wpAny _ _ (pure (((sIx n 0 lo:Nat):Int),(1:Int),Builtin.Slice.slicePlaces ((sIx n 0 lo:Nat):Int) ((sIx n n hi:Nat):Int) 1)) _ _ s
 rw[b0v]
 exact c84 h
theorem b5z(xs:Array Value)(i k:Nat):((c9H k).filterMap fun(m:Nat)=>xs[((i:Int)+(m:Int)*1).toNat]?).toArray=((xs.toList.drop i).take k).toArray:=by
 have e:(fun(m:Nat)=>xs[((i:Int)+(m:Int)*1).toNat]?)=fun m=>xs[i+m]?:=by
  funext m
  have:((i:Int)+(m:Int)*1).toNat=i+m:=by omega
  rw[this]
 rw[e]
 have:=pick_run xs i k
 rw[List.filterMap_map]at this
 have e2:((fun x=>xs[x]?) ∘ fun x=>i+x)=fun m=>xs[i+m]?:=rfl
 rw[e2]at this
 rw[this]
theorem a14{t sl:Addr}{items:Array Value}{vl vu:Value}{lo hi:Option Int}{Q:Value→Shared→Prop}(ht:IsTup s.heap t items)(hs:s.heap.IsSliceOf sl vl vu .none)(pl:IsPart vl lo)(pu:IsPart vu hi)
  (hw:¬ (sIx items.size 0 lo=0∧sIx items.size items.size hi=items.size))
  (h:Q (.ref s.heap.objs.size) { s with heap:=s.heap.push { cls:=.type "tuple",data:=.seq ((items.toList.drop (sIx items.size 0 lo)).take (sIx items.size items.size hi - sIx items.size 0 lo)).toArray } })
  (hsz:items.size≤sizeLine):wpAny (model prog w) A (getItem (.ref t) (.ref sl)) Q E s:=by
 have htake:sizeOk (.seq ((items.toList.drop (sIx items.size 0 lo)).take (sIx items.size items.size hi - sIx items.size 0 lo)).toArray):=by
  show((items.toList.drop (sIx items.size 0 lo)).take (sIx items.size items.size hi - sIx items.size 0 lo)).toArray.size≤sizeLine
  rw[c9c,c9W,d0l,Array.length_toList]
  omega
 have hj:sIx items.size items.size hi≤items.size:=c1h _ _ (c9b _) hi
 obtain⟨os,hos,hcs,hds⟩:=id hs
 have hTs:s.TypeIs (.ref sl) "slice" := ⟨os,hos,hcs⟩
 unfold getItem
 try with_reducible refine wpAny_holding ?_
 first|refine c8T (c84 ?_)|skip
 refine c8T (wpAny_sequenceKey ht.typeIs (by decide) ?_)
 refine c8T (wpAny_callSpecial?_slot (name:=Str.ofString "__getitem__") ht.typeIs PyProof.Rows.slot_tuple_getitem
  (wpAny_call_entry PyProof.Rows.slot_tuple_getitem ht.typeIs entry_tuple_getitem ?_ (args_tuple_getitem _ _)))
 show wpAny _ _ (Builtin.Tuple.tupleItemsOf (.ref t) >>= _) _ _ s
 refine c8T (tupleItemsOf_ ht ?_)
 refine c8T (wpAny_typeOf hTs ?_)
 rw[if_pos (by decide)]
 refine c8T (a2h hs pl pu ?_)
 have hno:¬ ((((sIx items.size 0 lo:Nat):Int) == 0 && (1:Int) == 1 && (sIx items.size items.size hi - sIx items.size 0 lo) == items.size)=true):=by
  intro q
  rw[d0M,d0M]at q
  have q1:((sIx items.size 0 lo:Nat):Int)=0:=eq_of_beq q.1.1
  have q2:sIx items.size items.size hi - sIx items.size 0 lo=items.size:=eq_of_beq q.2
  exact hw ⟨by omega,by omega⟩
 show wpAny _ _ (if (((sIx items.size 0 lo:Nat):Int) == 0 && (1:Int) == 1 && (sIx items.size items.size hi - sIx items.size 0 lo) == items.size)=true then _ else _) _ _ s
 rw[if_neg hno,b5z]
 first
  | exact c8T (m:=Builtin.Tuple.tupleExact _) (wpAny_newObj_type (c84 ⟨_,rfl,c84 h⟩) htake)
  | exact c8T (m:=Builtin.Tuple.tupleExact _) (wpAny_newObj_type (c8T (c84 (c84 ⟨_,rfl,c84 h⟩))) htake)
  | exact c8T (c8T (m:=Builtin.Tuple.tupleExact _) (wpAny_newObj_type (c84 (c84 ⟨_,rfl,c84 h⟩)) htake))
  | exact c8T (c8T (m:=Builtin.Tuple.tupleExact _) (wpAny_newObj_type (c84 ⟨_,rfl,c84 h⟩) htake))
end
end HT
namespace L2
open PySem PySem.Spec PyProof.Rows
noncomputable abbrev TO:=St→Hp→(Option Int→Hp→Prop)→Prop
noncomputable def PO(X:Cx)(e:Option Expr)(t:TO):Prop :=
 ∀(pins:List (Addr × Obj)) (s:Shared) (σ:St) (H:Hp) (Q:Option Int→Hp→Prop),Inv X pins σ H s→t σ H Q →
  wpAny (model X.prog X.w) X.A (evalPart e X.env) (fun u s'=>∃ o H',Inv X pins σ H' s'∧IsPart u o∧Q o H') X.xe s
noncomputable def b8b:TO:=fun _ H Q=>Q none H
noncomputable def c3z(t:TE):TO:=fun σ H Q=>t σ H fun x H1=>∃ i,x = .int i∧Q (some i) H1
theorem b0O{ns:List Int}:∀{us:List Value},q9 (ns.map V.int) us→IntsAre us ns:=by
 induction ns with
 | nil=>intro us r;rw[d0e]at r;cases r;exact .nil
 | cons n ns ih =>
  intro us r
  rw[c9F]at r
  cases r with
  | cons r1 r2 =>
   obtain⟨t,e⟩:=r1
   subst e
   exact .cons n t (ih r2)
section
variable {X:Cx} {e:Expr} {te:TE} {lo hi:Option Expr} {tl th:TO} {pos p2:Pos}
theorem b8z:PO X none b8b:=by
 intro pins s σ H Q I h
 rw[evalPart_none]
 exact c84 ⟨none,H,I,.none,h⟩
theorem b8y(h:PE X e te):PO X (some e) (c3z te):=by
 intro pins s σ H Q I hw
 rw[evalPart_some]
 refine thn (h pins s σ H _ I hw) fun u s1 zz=>?_
 obtain⟨x,H1,I1,r1,q1⟩:=zz
 obtain⟨i,rfl,q⟩:=q1
 obtain⟨t,rfl⟩:=r1
 exact⟨some i,H1,I1,.int i t,q⟩
noncomputable def SlR(X:Cx)(r:V→Option Int→Option Int→Hp→VK→Prop):Prop :=
 ∀(pins:List (Addr × Obj)) (s:Shared) (σ:St) (H:Hp) (x:V) (v vl vu:Value) (lo hi:Option Int) (sl:Addr) (Q:VK),Inv X pins σ H s→u6 x v→s.heap.IsSliceOf sl vl vu .none→IsPart vl lo→IsPart vu hi→r x lo hi H Q →
  ∃ T id,typeLookup (.type T) "__getitem__" = pure (some (.builtin id))∧s.TypeIs v T∧wpAny (model X.prog X.w) X.A (getItem v (.ref sl)) (EP X pins σ Q) X.xe s
theorem SlR.or{r r':V→Option Int→Option Int→Hp→VK→Prop}(h:SlR X r)(h':SlR X r'):SlR X (fun x lo hi H Q=>r x lo hi H Q∨r' x lo hi H Q):=by
 intro pins s σ H x v vl vu lo hi sl Q I rx hs pl pu q
 rcases q with q|q
 ·exact h pins s σ H x v vl vu lo hi sl Q I rx hs pl pu q
 ·exact h' pins s σ H x v vl vu lo hi sl Q I rx hs pl pu q
noncomputable def tSl(r:V→Option Int→Option Int→Hp→VK→Prop)(te:TE)(tl th:TO):TE:=fun σ H Q=>te σ H fun x H1=>tl σ H1 fun l H2=>th σ H2 fun u H3=>r x l u H3 Q
theorem b5C{r:V→Option Int→Option Int→Hp→VK→Prop}(hr:SlR X r)(he:PE X e te)(hl:PO X lo tl)(hu:PO X hi th):PE X (.Subscript e (.Slice lo hi none p2) pos) (tSl r te tl th):=by
 intro pins s σ H Q I h
 refine Subscript_ (thn (he pins s σ H _ I h) fun v s1 zz=>?_)
 obtain⟨x,H1,I1,r1,q1⟩:=zz
 refine wpAny_Slice (thn (hl pins s1 σ H1 _ I1 q1) fun vl s2 ⟨l,H2,I2,pl,q2⟩=>thn (hu pins s2 σ H2 _ I2 q2) fun vu s3 zz=>?_)
 obtain⟨u,H3,I3,pu,q3⟩:=zz
 rw[evalPart_none]
 refine c84 ?_
 have I4:Inv X pins σ H3 { s3 with heap:=s3.heap.push { cls:=.type "slice",data:=.fields #[vl,vu,.none] } }:=I3.kept (t':=s3.toks) fun b ob q=>c8X _ q
 obtain⟨T,id,hT,ht,hg⟩:=hr pins { s3 with heap:=s3.heap.push { cls:=.type "slice",data:=.fields #[vl,vu,.none] } } σ H3 x v vl vu l u s3.heap.objs.size Q I4 r1 (Heap.IsSliceOf.new ..) pl pu q3
 show wpAny (model X.prog X.w) X.A (subscriptTail e (.Slice lo hi none p2) v (.ref s3.heap.objs.size)) (EP X pins σ Q) X.xe { s3 with heap:=s3.heap.push { cls:=.type "slice",data:=.fields #[vl,vu,.none] } }
 exact tail_any (ops:=[.ref s3.heap.objs.size,v]) ht hT hg (by with_unfolding_all rfl)
noncomputable def a9B(xs:List V)(lo hi:Option Int):List V:=(xs.drop (HT.sIx xs.length 0 lo)).take (HT.sIx xs.length xs.length hi - HT.sIx xs.length 0 lo)
theorem a2T(xs:List V)(lo hi:Option Int):(a9B xs lo hi).length≤xs.length:=by
 unfold a9B
 rw[c9W,d0l]
 omega
noncomputable def c5t(K:c8U):V→Option Int→Option Int→Hp→VK→Prop:=fun x lo hi H Q=>∃ a xs,x = .ref a∧SqT K H a xs ∧
 ¬ (HT.sIx xs.length 0 lo=0∧HT.sIx xs.length xs.length hi=xs.length)∧∀ p,H p=none→Q (.ref p) (upd H p (.tup (a9B xs lo hi)))
theorem c1a:SlR X (c5t X.K):=by
 intro pins s σ H x v vl vu lo hi sl Q I rx hs pl pu h
 obtain⟨a,xs,rfl,hx,hw,q⟩:=h
 cases rx
 obtain⟨its,r,ht,hz⟩:=I.tuple hx
 have hlen:its.toArray.size=xs.length:=by rw[c9c];exact r.length.symm
 refine⟨"tuple",_,PyProof.Rows.slot_tuple_getitem.lookup,ht.typeIs,?_⟩
 refine HT.a14 ht hs pl pu (by rw[hlen];exact hw) ?_ (by rw[hlen];exact hz)
 rw[hlen]
 refine⟨.ref s.heap.objs.size,_,I.laid (t':=s.toks) (o:=.tup (a9B xs lo hi)) (fun b ob q=>c8X _ q) (c9b _) ?_,rfl,q _ (I.hok.fresh (c9b _))⟩
 exact⟨c85 (a2T xs lo hi) hz,_,(r.drop (HT.sIx xs.length 0 lo)).take (HT.sIx xs.length xs.length hi - HT.sIx xs.length 0 lo),IsTup.new _ _⟩
end
end L2
namespace L2
open PySem PySem.Spec PyProof.Rows
noncomputable def ixN(n:Nat)(i:Int):Option Nat:=if 0≤i then(if i<n then some i.toNat else none)else if -(n:Int)≤i then some (i+n).toNat else none
noncomputable def atI{α:Type}(xs:List α)(i:Int):Option α:=(ixN xs.length i).bind fun j=>xs[j]?
theorem b2i{n:Nat}{i:Int}{j:Nat}(h:ixN n i=some j):seqIndex? i n=some j∧j<n∧-(n:Int)≤i∧i<n:=by
 unfold ixN at h
 by_cases h0:0≤i
 ·rw[if_pos h0]at h
  by_cases h1:i<n
  ·rw[if_pos h1]at h
   have e:i.toNat=j:=Option.some.inj h
   exact⟨by rw[seqIndex_of h0 h1,e],by omega,by omega,h1⟩
  ·rw[if_neg h1]at h;cases h
 ·rw[if_neg h0]at h
  by_cases h1:-(n:Int)≤i
  ·rw[if_pos h1]at h
   have e:(i+n).toNat=j:=Option.some.inj h
   exact⟨by rw[seqIndex_neg (by omega) h1,e],by omega,h1,by omega⟩
  ·rw[if_neg h1]at h;cases h
theorem b2C{α:Type}{xs:List α}{i:Int}{v:α}(h:atI xs i=some v):∃ j,seqIndex? i xs.length=some j∧xs[j]? = some v∧j<xs.length∧-(xs.length:Int)≤i∧i<xs.length:=by
 unfold atI at h
 cases e:ixN xs.length i with
 | none=>rw[e]at h;cases h
 | some j =>
  rw[e]at h
  obtain⟨h1,h2,h3,h4⟩:=b2i e
  exact⟨j,h1,h,h2,h3,h4⟩
noncomputable def a74(b:Expr):Prop:=∀ o i,subscripted b false o i=operate [o,i] (getItem o i)
noncomputable def IxR(X:Cx)(r:R2):Prop :=
 ∀(value slice:Expr) (pins:List (Addr × Obj)) (s:Shared) (σ:St) (H:Hp) (x y:V) (v u:Value) (Q:VK),Inv X pins σ H s→u6 x v→u6 y u→r x y H Q →
  subscripted slice false v u=operate [v,u] (getItem v u)→wpAny (model X.prog X.w) X.A (subscriptTail value slice v u) (EP X pins σ Q) X.xe s
noncomputable def MtR(X:Cx)(id:String)(r:V→List V→Hp→VK→Prop):Prop :=
 ∀(pins:List (Addr × Obj)) (s:Shared) (σ:St) (H:Hp) (x:V) (xs:List V) (v:Value) (us:List Value) (Q:VK),Inv X pins σ H s→u6 x v→q9 xs us→r x xs H Q →
  wpAny (model X.prog X.w) X.A (call (.builtin id) (v :: us)) (EP X pins σ Q) X.xe s
section
variable {X:Cx} {a b:Expr} {ta tb:TE} {pos:Pos}
theorem IxR.or{r r':R2}(h:IxR X r)(h':IxR X r'):IxR X (fun x y H Q=>r x y H Q∨r' x y H Q):=by
 intro value slice pins s σ H x y v u Q I rx ry q hs
 rcases q with q|q
 ·exact h value slice pins s σ H x y v u Q I rx ry q hs
 ·exact h' value slice pins s σ H x y v u Q I rx ry q hs
theorem MtR.or{id:String}{r r':V→List V→Hp→VK→Prop}(h:MtR X id r)(h':MtR X id r'):MtR X id (fun x xs H Q=>r x xs H Q∨r' x xs H Q):=by
 intro pins s σ H x xs v us Q I rx rs q
 rcases q with q|q
 ·exact h pins s σ H x xs v us Q I rx rs q
 ·exact h' pins s σ H x xs v us Q I rx rs q
theorem c3S{r:R2}(hr:IxR X r)(ha:PE X a ta)(hb:PE X b tb)(hs:a74 b):PE X (.Subscript a b pos) (tOp r ta tb):=by
 intro pins s σ H Q I h
 exact Subscript_ (c2E ha hb I h fun v u s2 x y H2 I2 rx ry q=>hr a b pins s2 σ H2 x y v u Q I2 rx ry q (hs _ _))
noncomputable def c5w(K:c8U):R2:=fun x y H Q=>∃ p xs i v,x = .ref p∧y = .int i∧SqL K H p xs∧atI xs i=some v∧Q v H
noncomputable def c5v(K:c8U):R2:=fun x y H Q=>∃ p xs i v,x = .ref p∧y = .int i∧SqT K H p xs∧atI xs i=some v∧Q v H
theorem b86:IxR X (c5w X.K):=by
 intro value slice pins s σ H x y v u Q I rx ry h hs
 obtain⟨p,xs,i,z,rfl,rfl,hq,he,q⟩:=h
 cases rx
 obtain⟨t,rfl⟩:=ry
 obtain⟨its,r,pl,hz⟩:=I.list hq
 obtain⟨j,h1,h2,h3,h4,h5⟩:=b2C he
 obtain⟨w,ew,rw'⟩:=r.get h2
 have hl:=r.length
 have hn:=a7J
 have fin:EP X pins σ Q w s:=⟨z,H,I,rw',q⟩
 by_cases h0:0≤i
 ·have hj:i.toNat=j:=by
   rw[seqIndex_of h0 h5]at h1
   exact Option.some.inj h1
  exact item_listR pl.isList h0 (by omega) (by rw[hj];simpa using ew) fin hs
 ·have hj:(i+(its.toArray.size:Int)).toNat=j:=by
   rw[seqIndex_neg (by omega) h4]at h1
   rw[c9c,← hl]
   exact Option.some.inj h1
  exact subscriptTail_builtinR (x:=w) pl.isList.typeIs slot_list_getitem.lookup
   (wpAny_getItem_list_neg (Q:=fun r s'=>r=w∧EP X pins σ Q r s') pl.isList (by omega) (by rw[c9c]<;>omega) (by omega) (by rw[hj];simpa using ew) ⟨rfl,fin⟩) hs
theorem c2i:IxR X (c5v X.K):=by
 intro value slice pins s σ H x y v u Q I rx ry h hs
 obtain⟨p,xs,i,z,rfl,rfl,hq,he,q⟩:=h
 cases rx
 obtain⟨t,rfl⟩:=ry
 obtain⟨its,r,pl,hz⟩:=I.tuple hq
 obtain⟨j,h1,h2,h3,h4,h5⟩:=b2C he
 obtain⟨w,ew,rw'⟩:=r.get h2
 have hl:=r.length
 have hn:=a7J
 have fin:EP X pins σ Q w s:=⟨z,H,I,rw',q⟩
 exact subscriptTail_builtinR (x:=w) pl.typeIs slot_tuple_getitem.lookup
  (getItem_tuple (j:=j) (Q:=fun r s'=>r=w∧EP X pins σ Q r s') pl (by omega) (by omega) (by rw[c9c,← hl];exact h1) (by simpa using ew) ⟨rfl,fin⟩) hs
theorem b0J(its:List Value)(n j:Nat)(u:Value):Obj.mapSeq (·.setIfInBounds j u) { cls:=.type "list",data:=.seq its.toArray n } = { cls:=.type "list",data:=.seq (its.set j u).toArray n }:=by
 simp[Obj.mapSeq]
theorem Inv.lst{pins:List (Addr × Obj)}{σ:St}{H:Hp}{s:Shared}{p:Addr}{xs:List V}(I:Inv X pins σ H s)(h:H p=some (.lst xs)) :
  ∃(its:List Value) (n:Nat),q9 xs its∧s.heap.get? p=some { cls:=.type "list",data:=.seq its.toArray n }∧xs.length≤sizeLine:=by
 obtain⟨z,its,n,r,e⟩:=I.hok p _ h
 exact⟨its,n,r,e,z⟩
theorem Inv.lstUpd{pins:List (Addr × Obj)}{σ:St}{H:Hp}{s:Shared}{p:Addr}{xs ys:List V}{its its':List Value}{n n':Nat}{f:Obj→Obj}(I:Inv X pins σ H s)(h:H p=some (.lst xs))
  (ho:s.heap.get? p=some { cls:=.type "list",data:=.seq its.toArray n }) (hf:f { cls:=.type "list",data:=.seq its.toArray n } = { cls:=.type "list",data:=.seq its'.toArray n' }) (r:q9 ys its') (hz:ys.length≤sizeLine) (t:Nat) :
  Inv X pins σ (upd H p (.lst ys)) { s with heap:=s.heap.update p f,toks:=t }:=by
 have e:(s.heap.update p f).get? p=some { cls:=.type "list",data:=.seq its'.toArray n' }:=by
  rw[c9E f ho (by rw[hf]<;>rfl),hf]
 refine I.write (x:=p) (e:=p) (by rw[h];trivial) (.inl rfl) (fun b u hb q=>(c9v _ _ (Ne.symm hb)).trans q) ⟨_,e⟩ ?_
 exact⟨hz,its',n',r,e⟩
noncomputable def c3M:V→V→V→Hp→(Hp→Prop)→Prop:=fun o i v H Q=>∃ p xs k j,o = .ref p∧i = .int k∧H p=some (.lst xs)∧ixN xs.length k=some j∧Q (upd H p (.lst (xs.set j v)))
theorem b4Y:c4X X c3M:=by
 intro pins s σ H o i v ov iv u Q I ro ri rv h
 obtain⟨p,xs,k,j,rfl,rfl,hp,hj,q⟩:=h
 cases ro
 obtain⟨t,rfl⟩:=ri
 obtain⟨its,n,r,ho,hz⟩:=I.lst hp
 obtain⟨h1,h2,h3,h4⟩:=b2i hj
 have hl:=r.length
 have hn:=a7J
 have I':Inv X pins σ (upd H p (.lst (xs.set j v))) { s with heap:=s.heap.update p (Obj.mapSeq (·.setIfInBounds j u)) } :=
  I.lstUpd hp ho (b0J its n j u) (r.set rv j) (by rw[d1x];exact hz) s.toks
 by_cases h0:0≤k
 ·have hk:k.toNat=j:=by
   rw[seqIndex_of h0 h4]at h1
   exact Option.some.inj h1
  exact PySem.W.ki_setAt ho h0 (by omega) (by rw[c9c,← hl];exact h4) (by rw[hk];exact⟨_,I',q⟩)
 ·have hk:(k+(its.toArray.size:Int)).toNat=j:=by
   rw[seqIndex_neg (by omega) h3]at h1
   rw[c9c,← hl]
   exact Option.some.inj h1
  exact PySem.W.ki_setBack ho (by omega) (by rw[c9c,← hl];exact h3) (by omega) (by rw[hk];exact⟨_,I',q⟩)
theorem a6O(lo hi:Option Int)(n:Nat):(sliceBounds lo hi none n).1=((HT.sIx n 0 lo:Nat):Int)∧(sliceBounds lo hi none n).2.1=((HT.sIx n n hi:Nat):Int)∧(sliceBounds lo hi none n).2.2=1:=by
 refine⟨?_,?_,rfl⟩
 ·cases lo with
  | none=>simp[sliceBounds,HT.sIx]
  | some i =>
   simp only[sliceBounds,HT.sIx,d2f,show(1:Int) > 0 by decide,if_true]
   by_cases h:i<0
   ·simp only[h,if_true]<;>omega
   ·simp only[h,if_false]<;>omega
 ·cases hi with
  | none=>simp[sliceBounds,HT.sIx]
  | some i =>
   simp only[sliceBounds,HT.sIx,d2f,show(1:Int) > 0 by decide,if_true]
   by_cases h:i<0
   ·simp only[h,if_true]<;>omega
   ·simp only[h,if_false]<;>omega
theorem a4U(its:List Value)(lo hi:Option Int):slicePick its.toArray lo hi none=((its.drop (HT.sIx its.length 0 lo)).take (HT.sIx its.length its.length hi - HT.sIx its.length 0 lo)).toArray:=by
 obtain⟨h1,h2,h3⟩:=a6O lo hi its.toArray.size
 unfold slicePick
 rw[h1,h2,h3]
 simp only[sliceRange_one,pick_run,c9c]<;>rfl
noncomputable def c5u(K:c8U):V→Option Int→Option Int→Hp→VK→Prop:=fun x lo hi H Q=>∃ a xs,x = .ref a∧SqL K H a xs∧∀ p,H p=none→Q (.ref p) (upd H p (.lst (a9B xs lo hi)))
theorem b8f:SlR X (c5u X.K):=by
 intro pins s σ H x v vl vu lo hi sl Q I rx hs pl pu h
 obtain⟨a,xs,rfl,hx,q⟩:=h
 cases rx
 obtain⟨its,r,ht,hz⟩:=I.list hx
 have hlen:=r.length
 refine⟨"list",_,slot_list_getitem.lookup,ht.isList.typeIs,?_⟩
 refine wpAny_getItem_list_slice ht.isList hs pl pu .none (by simp) ?_ (by rw[c9c]<;>omega)
 rw[a4U,← hlen]
 refine⟨.ref s.heap.objs.size,_,I.laid (t':=s.toks) (o:=.lst (a9B xs lo hi)) (fun b ob q=>c8X _ q) (c9b _) ?_,rfl,q _ (I.hok.fresh (c9b _))⟩
 exact⟨c85 (a2T xs lo hi) hz,_,0,(r.drop (HT.sIx xs.length 0 lo)).take (HT.sIx xs.length xs.length hi - HT.sIx xs.length 0 lo),c86 _ rfl⟩
theorem a7Z:D7 X (.builtin "len") (fun xs H Q=>∃ p ys,xs=[.ref p]∧(SqL X.K H p ys∨SqT X.K H p ys)∧Q (.int ys.length) H):=by
 intro pins s σ H xs us Q I r h
 obtain⟨p,ys,rfl,hq,q⟩:=h
 obtain⟨u,rfl,rx⟩:=a0T r
 cases rx
 have hn:=a7J
 rcases hq with hq|hq
 ·obtain⟨its,r',pl,hz⟩:=I.list hq
  have hlen:=r'.length
  exact Calls.call_len_list pl.isList (by simp only[c9c]<;>omega) ⟨.int ys.length,H,I.tok _,⟨s.toks+1,by rw[c9c,hlen]⟩,q⟩
 ·obtain⟨its,r',pl,hz⟩:=I.tuple hq
  have hlen:=r'.length
  exact len_tuple pl (by simp only[c9c]<;>omega) ⟨.int ys.length,H,I.tok _,⟨s.toks+1,by rw[c9c,hlen]⟩,q⟩
theorem D7.or{f:Value}{r r':List V→Hp→VK→Prop}(h:D7 X f r)(h':D7 X f r'):D7 X f (fun xs H Q=>r xs H Q∨r' xs H Q):=by
 intro pins s σ H xs us Q I rs q
 rcases q with q|q
 ·exact h pins s σ H xs us Q I rs q
 ·exact h' pins s σ H xs us Q I rs q
theorem a16:D7 X (.type "list") (fun xs H Q=>∃ p ys,xs=[.ref p]∧(SqL X.K H p ys∨SqT X.K H p ys)∧∀ l,H l=none→Q (.ref l) (upd H l (.lst ys))):=by
 intro pins s σ H xs us Q I r h
 obtain⟨p,ys,rfl,hq,q⟩:=h
 obtain⟨u,rfl,rx⟩:=a0T r
 cases rx
 have fin:∀(its:List Value),q9 ys its→ys.length≤sizeLine→∀(h':Heap) (c':Nat),(∀ b o',s.heap.get? b=some o'→h'.get? b=some o') →
   h'.get? s.heap.objs.size=some { cls:=.type "list",dict:=none,data:=.seq its.toArray c',slots:=#[] }→EP X pins σ Q (.ref s.heap.objs.size) { s with heap:=h' }:=fun its r' hz h' c' kp e =>
  ⟨.ref s.heap.objs.size,_,I.laid (t':=s.toks) kp (c9b _) (show E6 X.prog X.w _ h' _ (.lst ys)from⟨hz,its,c',r',e⟩),rfl,q _ (I.hok.fresh (c9b _))⟩
 rcases hq with hq|hq
 ·obtain⟨its,r',pl,hz⟩:=I.list hq
  have hlen:=r'.length
  obtain⟨o,ho,hc,n,hd⟩:=pl.isList
  exact call_list_seq p (.inl rfl) ho hc hd (fun h' c' kp e=>fin its r' hz h' c' kp e) (by simp only[c9c]<;>omega)
 ·obtain⟨its,r',pl,hz⟩:=I.tuple hq
  have hlen:=r'.length
  obtain⟨o,ho,hc,n,hd⟩:=pl
  exact call_list_seq p (.inr rfl) ho hc hd (fun h' c' kp e=>fin its r' hz h' c' kp e) (by simp only[c9c]<;>omega)
theorem a5A:D7 X (.type "tuple") (fun xs H Q=>∃ p ys,xs=[.ref p]∧((SqL X.K H p ys∧∀ l,H l=none→Q (.ref l) (upd H l (.tup ys)))∨(SqT X.K H p ys∧Q (.ref p) H))):=by
 intro pins s σ H xs us Q I r h
 obtain⟨p,ys,rfl,h⟩:=h
 obtain⟨u,rfl,rx⟩:=a0T r
 cases rx
 rcases h with⟨hq,q⟩|⟨hq,q⟩
 ·obtain⟨its,r',pl,hz⟩:=I.list hq
  have hlen:=r'.length
  refine call_tuple_list pl.isList (fun h' kp=>?_) (by simp only[c9c]<;>omega)
  have I1:Inv X pins σ H { s with heap:=h' }:=I.kept (t':=s.toks) kp
  have I2:Inv X pins σ (upd H h'.objs.size (.tup ys)) { s with heap:=h'.push { cls:=.type "tuple",data:=.seq its.toArray } } :=
   I1.laid (t':=s.toks) (fun b o e=>c8X _ e) (c9b _) (show E6 X.prog X.w _ _ _ (.tup ys)from⟨hz,its,r',IsTup.new _ _⟩)
  exact⟨.ref h'.objs.size,_,I2,rfl,q _ (I1.hok.fresh (c9b _))⟩
 ·obtain⟨its,r',pl,hz⟩:=I.tuple hq
  exact call_tuple_same pl ⟨.ref p,H,I,rfl,q⟩
noncomputable def tyV(K:c8U)(T:String)(x:V)(H:Hp):Prop:=match x with
 | .str _=>T = "str"
 | .int _=>T = "int"
 | .ref p=>(T = "list" ∧ ∃ xs,SqL K H p xs)∨(T = "tuple" ∧ ∃ o,K.lookup p=some o∧o.cls = .type "tuple" ∧ o.dict=none) ∨
   (T = "dict" ∧ ((∃ kvs,H p=some (.dK kvs)) ∨ ∃ kvs,H p=some (.dT kvs)))∨(T = "set" ∧ ∃ S n,H p=some (.set S n))
 | _=>False
theorem b4M{pins:List (Addr × Obj)}{σ:St}{H:Hp}{s:Shared}{T:String}{x:V}{v:Value}(I:Inv X pins σ H s)(r:u6 x v)(ty:tyV X.K T x H) :
  s.TypeIs v T∧∀ a,v = .ref a→∃ ob,s.heap.get? a=some ob∧ob.dict=none:=by
 cases x with
 | str z =>
  obtain⟨t,rfl⟩:=r
  cases(show T = "str" from ty)
  exact⟨typeIs_str s z t,fun _ e=>nomatch e⟩
 | int i =>
  obtain⟨t,rfl⟩:=r
  cases(show T = "int" from ty)
  exact⟨typeIs_int s i t,fun _ e=>nomatch e⟩
 | ref p =>
  cases r
  rcases ty with⟨rfl,xs,hq⟩|⟨rfl,o,hk,hc,hd⟩|⟨rfl,hk⟩|⟨rfl,S,n,hk⟩
  ·obtain⟨its,_,pl,_⟩:=I.list hq
   refine⟨pl.isList.typeIs,fun a e=>?_⟩
   cases e
   obtain⟨o,n,e,c,hd,_⟩:=pl
   exact⟨o,e,hd⟩
  ·refine⟨⟨o,I.kIn p o hk,hc⟩,fun a e=>?_⟩
   cases e
   exact⟨o,I.kIn _ o hk,hd⟩
  ·have z:∃ o,s.heap.get? p=some o∧o.ExactDict:=by
    rcases hk with⟨kvs,hk⟩|⟨kvs,hk⟩
    ·obtain⟨_,_,_,_,o,_,_,e,ex,_⟩:=I.hok p _ hk
     exact⟨o,e,ex⟩
    ·obtain⟨_,_,_,_,o,_,_,e,ex,_⟩:=I.hok p _ hk
     exact⟨o,e,ex⟩
   obtain⟨o,e,ex⟩:=z
   refine⟨⟨o,e,ex.1⟩,fun a e2=>?_⟩
   cases e2
   exact⟨o,e,ex.2.1⟩
  ·obtain⟨o,_,_,_,e,ex,_⟩:=I.hok p _ hk
   refine⟨⟨o,e,ex.1⟩,fun a e2=>?_⟩
   cases e2
   exact⟨o,e,ex.2.1⟩
 | _=>exact False.elim ty
noncomputable def c5q(K:c8U)(T:String)(r:V→List V→Hp→VK→Prop)(to:TE):TE:=fun σ H Q=>to σ H fun x H1=>tyV K T x H1∧r x [] H1 Q
noncomputable def tBM(K:c8U)(T:String)(r:V→List V→Hp→VK→Prop)(to:TE)(t:TA):TE:=fun σ H Q=>to σ H fun x H1=>tyV K T x H1∧t σ H1 fun xs H2=>r x xs H2 Q
variable {o e:Expr} {es:List Expr} {to:TE} {t:TA} {name:Str} {apos cpos:Pos} {T id:String} {r:V→List V→Hp→VK→Prop}
theorem c1J(pa:PlainAttrs T)(slot:Slot T name id)(hty:typeOf (.builtin id)=pure (.type "method_descriptor"))(hm:MtR X id r)(ho:PE X o to)
  (hbase:attributeBase o name X.env (eval o X.env)=eval o X.env:=by rfl) (hline:(apos.endLine == cpos.line)=true:=by rfl):PE X (.Call (.Attribute o name apos) [] [] cpos) (c5q X.K T r to):=by
 intro pins s σ H Q I h
 refine wpAny_Call_method0_late hbase hline (thn (ho pins s σ H _ I h) fun v s1 zz=>?_)
 obtain⟨x,H1,I1,r1,ty,q1⟩:=zz
 obtain⟨h1,h2⟩:=b4M I1 r1 ty
 exact⟨T,id,pa,slot,hty,h1,h2,Calls.callWith_builtin rfl (PySem.evalArgs_none (hm pins s1 σ H1 x [] v [] Q I1 r1 .nil q1))⟩
theorem c3T(pa:PlainAttrs T)(slot:Slot T name id)(hty:typeOf (.builtin id)=pure (.type "method_descriptor"))(hm:MtR X id r)(ho:PE X o to)(ha:PA X (e :: es) t)
  (hbase:attributeBase o name X.env (eval o X.env)=eval o X.env:=by rfl)
  (hfew:((backTo cpos (starEach (e :: es) X.env)).all (fun x=>!x.1) && (backToKw cpos (keywordEach [] X.env)).all (fun x=>x.1.isSome)
   && decide ((e :: es).length+([]:List Keyword).length+(if ([]:List Keyword).isEmpty then 0 else 1)<30))=true:=by rfl)
  (hline:(apos.endLine == cpos.line)=true:=by rfl) (hs:starEach (e :: es) X.env=(false,eval e X.env) :: starEach es X.env:=by rfl) (hplain:(backTo cpos (starEach es X.env)).any (·.1)=false:=by rfl) :
  PE X (.Call (.Attribute o name apos) (e :: es) [] cpos) (tBM X.K T r to t):=by
 intro pins s σ H Q I h
 refine wpAny_Call_method_late hbase hfew hline rfl (thn (ho pins s σ H _ I h) fun v s1 zz=>?_)
 obtain⟨x,H1,I1,r1,ty,q1⟩:=zz
 obtain⟨h1,h2⟩:=b4M I1 r1 ty
 refine⟨T,id,pa,slot,hty,h1,h2,?_⟩
 have hA:=ha cpos pins s1 σ H1 _ I1 q1
 rw[hs]at hA ⊢
 refine Calls.callWith_builtin (by show(false || (backTo cpos (starEach es X.env)).any (·.1))=false;rw[hplain]<;>rfl) (Calls.evalArgs_plain ?_)
 exact thn hA fun us s2 ⟨vs,H2,I2,r2,q2⟩=>hm pins s2 σ H2 x vs v us Q I2 r1 r2 q2
end
end L2
namespace L2
open PySem PySem.Spec PyProof.Rows
noncomputable def MtM(X:Cx)(id:String)(r:V→List V→Hp→VK→Prop):Prop :=
 ∀(pins:List (Addr × Obj)) (s:Shared) (σ:St) (H:Hp) (x:V) (xs:List V) (v:Value) (us:List Value) (Q:VK),Inv X pins σ H s→u6 x v→q9 xs us→r x xs H Q →
  wpAny (model X.prog X.w) X.A (call (.builtin id) (v :: us)) (EP X pins σ Q) X.xe s
theorem q9.one{x:V}{us:List Value}(h:q9 [x] us):∃ u,us=[u]∧u6 x u:=by
 cases h with|cons r t=>cases t;exact⟨_,rfl,r⟩
theorem q9.two{x y:V}{us:List Value}(h:q9 [x,y] us):∃ u v,us=[u,v]∧u6 x u∧u6 y v:=by
 cases h with|cons r t=>cases t with|cons q t2=>cases t2;exact⟨_,_,rfl,r,q⟩
theorem q9.zero:∀{us:List Value},q9 [] us→us=[]
 | _,.nil=>rfl
theorem q9.reverse{xs:List V}{us:List Value}(h:q9 xs us):q9 xs.reverse us.reverse:=by
 induction h with
 | nil=>exact .nil
 | cons r t ih=>rw[c9Y,c9Y];exact q9.append ih (.cons r .nil)
section
variable {X:Cx} {pins:List (Addr × Obj)} {σ:St} {H:Hp} {s:Shared} {l b:Addr} {xs ys zs:List V}
theorem Inv.lset{its its':List Value}{n:Nat}{f:Array Value→Array Value}{t':Nat}(I:Inv X pins σ H s)(hH:H l=some (.lst xs))
  (e:s.heap.get? l=some { cls:=.type "list",data:=.seq its.toArray n }) (hf:f its.toArray=its'.toArray) (hv:q9 ys its') (hz:ys.length≤sizeLine) :
  Inv X pins σ (upd H l (.lst ys)) { s with heap:=s.heap.update l (Obj.mapSeq f),toks:=t' }:=by
 have q:=PySem.IsL.update e f
 rw[hf]at q
 refine I.write (x:=l) (e:=l) (by rw[hH];exact trivial) (.inl rfl) (fun b' u hb hu=>(c9v s.heap (Obj.mapSeq f) (Ne.symm hb)).trans hu) ⟨_,q⟩ ?_
 exact⟨hz,its',_,hv,q⟩
theorem Inv.lnew{its:List Value}{t':Nat}(I:Inv X pins σ H s)(hv:q9 ys its)(hz:ys.length≤sizeLine) :
  Inv X pins σ (upd H s.heap.objs.size (.lst ys)) { s with heap:=s.heap.push { cls:=.type "list",data:=.seq its.toArray },toks:=t' } :=
 I.laid (fun _ _ q=>c8X _ q) (c9b _) ⟨hz,its,0,hv,c86 _ rfl⟩
theorem Inv.fresh(I:Inv X pins σ H s):H s.heap.objs.size=none:=I.hok.fresh (c9b _)
theorem Inv.lstM(I:Inv X pins σ H s)(hH:H l=some (.lst xs)):xs.length≤sizeLine∧∃(its:List Value) (n:Nat),q9 xs its∧xs.length=its.length∧s.heap.get? l=some { cls:=.type "list",data:=.seq its.toArray n }:=by
 obtain⟨z,its,n,r,e⟩:=I.hok l _ hH
 exact⟨z,its,n,r,r.length,e⟩
theorem b5Q{n:Nat}(h:n≤sizeLine):Builtin.List.listTooLong n=false:=by
 unfold Builtin.List.listTooLong
 exact decide_eq_false (by omega)
end
section
variable {X:Cx}
noncomputable def b1W:V→List V→Hp→VK→Prop:=fun x vs H Q=>∃ l xs y,x = .ref l∧vs=[y]∧H l=some (.lst xs)∧xs.length<sizeLine∧Q .non (upd H l (.lst (xs++[y])))
theorem a6u:MtM X "list.append" b1W:=by
 intro pins s σ H x vs v us Q I rx rv h
 obtain⟨l,xs,y,rfl,rfl,hH,hz,q⟩:=h
 cases rx
 obtain⟨u,rfl,ru⟩:=rv.one
 obtain⟨z,its,n,r,hl,e⟩:=I.lstM hH
 refine call_meets F.slot_list_append ⟨_,e,rfl⟩ F.entry_list_append (F.args_list_append_2 _ _) (PySem.list_append l its.toArray n u (by rw[c9c];omega)) ⟨e,?_⟩
 refine⟨.non,_,I.lset (its':=its++[u]) hH e (by simp) (r.append (.cons ru .nil)) ?_,rfl,q⟩
 rw[c9h,List.length_singleton]
 omega
noncomputable def b1V:V→List V→Hp→VK→Prop:=fun x vs H Q=>∃ l b xs zs,x = .ref l∧vs=[.ref b]∧H l=some (.lst xs)∧H b=some (.lst zs)∧xs.length+zs.length≤sizeLine∧Q .non (upd H l (.lst (xs++zs)))
theorem b3h:MtM X "list.extend" b1V:=by
 intro pins s σ H x vs v us Q I rx rv h
 obtain⟨l,b,xs,zs,rfl,rfl,hH,hB,hz,q⟩:=h
 cases rx
 obtain⟨u,rfl,ru⟩:=rv.one
 cases ru
 obtain⟨z,its,n,r,hl,e⟩:=I.lstM hH
 obtain⟨z2,its2,n2,r2,hl2,e2⟩:=I.lstM hB
 have hsz:its.toArray.size+its2.toArray.size≤sizeLine:=by rw[c9c,c9c];omega
 have hlong:¬ (!its.toArray.isEmpty && Builtin.List.listTooLong (its.toArray.size+its2.toArray.size))=true:=by
  rw[b5Q hsz,Bool.and_false]
  exact c9n
 refine call_meets F.slot_list_extend ⟨_,e,rfl⟩ F.entry_list_extend (F.args_list_extend_2 _ _)
  (AutoSeq1.list_extend_list_list_0 l its.toArray n b its2.toArray n2 hlong (by rw[c9c];omega) (by omega)) ⟨e,e2,?_⟩
 refine⟨.non,_,I.lset (its':=its++its2) hH e (by simp) (r.append r2) ?_,rfl,q⟩
 rw[c9h]
 omega
end
section
variable {prog:Program} {w:World} {A:Around} {E:Value→Shared→Prop} {s:Shared}
end
section
variable {X:Cx}
end
end L2
namespace Att
open PySem PySem.W PySem.Calls PyProof.Rows
theorem a21{P:Params}{h:Heap}:∀(ns:List Int) (vs:List Value),WellAll P h vs (ns.map WData.int)→IntsAre vs ns:=by
 intro ns
 induction ns with
 | nil =>
  intro vs w
  rw[d0e]at w
  cases w
  exact .nil
 | cons n ns ih =>
  intro vs w
  rw[c9F]at w
  cases w with
  | cons a b =>
   cases a
   exact .cons _ _ (ih _ b)
theorem b2W{l:OpenLaw}{n:Nat}(hn:l.most=some n){P:Params}{h:Heap}{args:List WData}{vals:List Value}
  (hpre:l.row.toRowW.claim.pre args=true) (hwl:WellAll P h vals args) :
  ∃ a vs ns,vals=[Value.ref a]∧args=[WData.list (ns.map WData.int)]∧h.get? a=some { cls:=.type "list",data:=.seq vs.toArray }∧IntsAre vs ns∧ns.length≤n:=by
 have hsh:WShape.hasAll [] args [.list .int]=true:=(pre_splitW hpre).1
 have hc:l.pre.holds [] { args:=args } = true:=(pre_splitW hpre).2
 obtain⟨d,r,rfl,h1,h2⟩:=hasAllW_cons hsh
 obtain rfl:=hasAllW_nil h2
 obtain⟨xs,rfl,h3⟩:=hasW_list h1
 obtain⟨ns,rfl⟩:=items_int h3
 have hlen:ns.length≤n:=by
  unfold OpenLaw.pre at hc
  have h4:(WTm.not (.lt (.lit (.int (n:Int))) (.len (.arg 0)))).holds [] { args:=[.list (ns.map .int)] } = true:=by
   have h4:=(holds_andW hc).1
   rw[hn]at h4
   exact h4
  have h5:=condW_of h4 (w_not (w_lt w_lit (w_len_list (w_arg rfl))))
  rw[c8Y]at h5
  refine Nat.le_of_not_lt fun q=>?_
  have q':(n:Int)<((ns.length:Nat):Int):=by omega
  first
   | (rw[decide_eq_true q']at h5;exact absurd h5 (by decide))
   | (simp at h5;omega)
 cases hwl with
 | cons w1 w2 =>
  cases w2
  cases w1 with
  | list ho hall=>exact⟨_,_,ns,rfl,rfl,ho,a21 ns _ hall,hlen⟩
theorem b3b(l:OpenLaw)(args:List WData):l.row.toRowW.claim.post args (.bool true) args=true :=
 postW_of (r:=l.row.toRowW) (X:=(true == true))
  (show WShape.has [] (.bool true) .bool=true by first|rfl|decide|simp[WShape.has,WShape.arms,WShape.armsAll])
  (show(WTm.eq .res (.lit (.bool true))).value [] { args:=args,res:=some (.bool true),after:=args } = some (.bool (true == true))from w_eq_bool (w_res rfl) w_lit) rfl
theorem a9J{l:OpenLaw}{n:Nat}{q:Program}{loose:List Str}{XP:(Str→Option Value)→Heap→Prop}{YP:World→Heap→Prop}{d:DefRec}
  (hn:l.most=some n) (hdf:d.params.defaults=[])
  (call:∀(w:World) (s₀ s₁:Shared) (mg mb:Str→Option Value) (fa:Addr) (o:Obj) (pm cd doc:Value) (a:Addr) (vs:List Value) (ns:List Int),
   Ground q loose [] XP w s₀ mg mb s₁.heap→YP w s₁.heap →
   s₁.heap.get? fa=some o→o.data = .func (docDef d.name d.params d.body d.scope pm cd doc)→s₁.heap.CodeRec cd d.name→mg d.name=some (.ref fa) →
   s₁.heap.get? a=some { cls:=.type "list",data:=.seq vs.toArray }→IntsAre vs ns→ns.length≤n→s₁.gens = #[] →
   codeAny (model l.prog w) callerA (.call (.ref fa) ⟨[.ref a],[]⟩) (fun r s'=>r = .ok (.ret (.bool true))∧OldK s₁.heap s'.heap∧s'.os=s₁.os∧AllBare s'.gens) s₁) :
  WalkO q loose XP YP l.row.toRowW d [] (fun f vs=>PySem.call f vs):=by
 intro w s₀ s₁ mg mb G Y fa o pm cd doc dV kV ho hd hcd hD hmg hg args vals as hpre hlay hrd hwl hlo
 obtain rfl:dV = .none:=Dflts.none hD hdf
 obtain rfl:kV = .none:=Dflts.noKw hD
 obtain⟨a,vs,ns,rfl,rfl,hobj,hints,hlen⟩:=b2W hn hpre hwl
 refine enter_call (codeAny_mono (call w s₀ s₁ mg mb fa o pm cd doc a vs ns G Y ho (fd_plain hd) hcd hmg hobj hints hlen hg) fun r s' hq=>?_)
 obtain⟨rfl,h2,h3,h4⟩:=hq
 exact⟨.inl ⟨.bool true,.bool true,[],rfl,fun _=>rfl,.bool true,b3b l _,fun _=>⟨List.Pairwise.nil,fun _ hm=>(nomatch hm)⟩⟩,h2,h3,h4⟩
section
variable {prog:Program} {w:World} {A:Around} {E:Value→Shared→Prop} {s:Shared} {K:Frag}
end
end Att
namespace L2
open PySem PySem.Spec PyProof.Rows
theorem a6j:∀{vs:List Value} {ns:List Int},IntsAre vs ns→q9 (ns.map V.int) vs
 | _,_,.nil=>.nil
 | _,_,.cons n t h=>.cons ⟨t,rfl⟩ (a6j h)
noncomputable def b3J(H:Hp):Prop:=∀ b,H b=none ∨ ∃ o xs,H b=some (.frz o (.lst xs))
theorem b5Z{P:Program}{w:World}{K:c8U}{mg mb:Str→Option Value}{CX:CXT}{k:Nat}{fa a:Addr}{fd:FuncData}{x:Str}{sp:Sp}{s₁:Shared}{vs:List Value}{ns:List Int}
  (KX:K.In s₁.heap) (hns:s₁.heap.Ns mainGlobals mg) (hb:s₁.heap.Ns builtinsNs mb) (hbb:∀ x:Str,x ≠ "__name__" → mb x=bootBuiltins x) (hlim:s₁.heap.NoLimit) (hg:s₁.gens = #[])
  (ha:s₁.heap.get? a=some { cls:=.type "list",data:=.seq vs.toArray }) (hi:IntsAre vs ns) (hl:ns.length≤sizeLine) (hr:L6 k callerA)
  (F:∀ base:Heap,K.In base→base.Ns mainGlobals mg→X8 P w K mg base CX k fa fd [x] sp) (hbind:∀(s:Shared) (u:Value),BindsTo s fd ⟨[u],[]⟩ [(x,u)])
  (hsp:∀ H:Hp,b3J H→SqL K H a (ns.map V.int)→sp [.ref a] H (fun v _=>v = .bl true) fun _ _ _=>False)
  (hCX:∀ H e s',CX [] H s₁ (fun _ _ _=>False) e s'→False) :
  codeAny (model P w) callerA (.call (.ref fa) ⟨[.ref a],[]⟩) (fun r s'=>r = .ok (.ret (.bool true))∧OldK s₁.heap s'.heap∧s'.os=s₁.os∧AllBare s'.gens) s₁:=by
 have rv:=a6j hi
 have lenV:=hi.length
 have core:∀ H:Hp,b3J H→SqL K H a (ns.map V.int)→HOk P w H s₁.heap→(∀ b,H b≠none→b=a)→(H a≠none→K.lookup a=none) →
   codeAny (model P w) callerA (.call (.ref fa) ⟨[.ref a],[]⟩) (fun r s'=>r = .ok (.ret (.bool true))∧OldK s₁.heap s'.heap∧s'.os=s₁.os∧AllBare s'.gens) s₁:=by
  intro H hO hS hok hA hK
  have base_of:∀{b:Addr} {o:Obj},s₁.heap.get? b=some o→H b=none→(a7Q s₁.heap H).get? b=some o:=fun e n=>b6l e n
  have noA:∀{b:Addr} {o:Obj} {es:Array DictEntry} {ep:Nat},s₁.heap.get? b=some o→o.data = .dict es ep→H b=none:=fun{b o es ep} e d=>by
   cases q:H b with
   | none=>rfl
   | some u =>
    have e':b=a:=hA b (by rw[q];simp)
    subst e'
    rw[ha]at e;cases e
    have d':Data.seq vs.toArray _=Data.dict es ep:=d
    cases d'
  have nsK:∀{b:Addr} {m:Str→Option Value},s₁.heap.Ns b m→(a7Q s₁.heap H).Ns b m:=fun{b m} ⟨o,es,ep,e,d,r⟩=>⟨o,es,ep,base_of e (noA e d),d,r⟩
  have hKb:K.In (a7Q s₁.heap H):=fun b o e=>base_of (KX b o e) (by
   cases q:H b with
   | none=>rfl
   | some u =>
    have e':b=a:=hA b (by rw[q];simp)
    subst e'
    rw[hK (by rw[q];simp)]at e;cases e)
  have hM:Mod K mg (a7Q s₁.heap H):=⟨hKb,nsK hns,⟨mb,nsK hb,hbb⟩,let ⟨mc,h1,h2⟩:=hlim;⟨mc,nsK h1,h2⟩⟩
  have e0:b01 P w K mg (a7Q s₁.heap H) callerA [] s₁ H:=⟨rfl,hM,fun b o e=>b8Y e,d19 (b3q _ _),trivial,fun b hb=>absurd (show b∈([]:List Addr)from hb) (by simp),hok,.of_eq hg⟩
  refine codeAny_mono ((F _ hKb (nsK hns)).run callerA [] s₁ H ⟨[.ref a],[]⟩ [.ref a] [.ref a] _ _ hr e0 (hbind s₁ (.ref a)) (.cons rfl .nil) (hsp H hO hS)) fun r s' h=>?_
  cases r with
  | error e=>exact(hCX H e s' h).elim
  | ok fl =>
   cases fl with
   | next=>exact False.elim h
   | brk=>exact False.elim h
   | cont=>exact False.elim h
   | ret u =>
    obtain⟨v,H',os,bare,un,hok',r',q⟩:=h
    have q':v = .bl true:=q
    subst q'
    obtain rfl:u=Value.bool true:=r'
    refine⟨rfl,OldK.of_keep fun b o e=>?_,os,bare⟩
    cases q:H b with
    | none=>exact un.keep b o e q (by intro z;exact absurd (show b∈([]:List Addr)from z) (by simp)) (by simp)
    | some u =>
     rcases hO b with z|⟨ob,xs,z⟩
     ·rw[q]at z;cases z
     ·have z2:=un.frzs b ob _ z
      obtain⟨e1,_⟩:=hok b _ z
      obtain⟨e2,_⟩:=hok' b _ z2
      rw[e]at e1;cases e1
      exact e2
 cases hk:K.lookup a with
 | some o =>
  have e:=KX a o hk
  rw[ha]at e
  cases e
  refine core (fun _=>none) (fun _=>.inl rfl) (.inr ⟨_,vs.toArray,_,hk,rfl,rfl,rfl,by rw[c9c,lenV];exact hl,by simpa using rv⟩) (fun b u z=>by have z':(none:Option HO)=some u:=z;cases z') (fun b z=>absurd rfl z) fun z=>absurd rfl z
 | none =>
  refine core (fun b=>if b=a then some (.frz { cls:=.type "list",data:=.seq vs.toArray } (.lst (ns.map V.int)))else none) (fun b=>?_) (.inl (.inr ⟨{ cls:=.type "list",data:=.seq vs.toArray },if_pos rfl⟩)) (fun b u z=>?_) (fun b z=>?_) fun _=>hk
  ·by_cases hb:b=a
   ·exact .inr ⟨_,_,if_pos hb⟩
   ·exact .inl (if_neg hb)
  ·by_cases hb:b=a
   ·have z':=(if_pos hb).symm.trans z
    cases z'
    subst hb
    exact⟨ha,by rw[c8Y];exact hl,vs,_,rv,ha⟩
   ·have z':=(if_neg hb).symm.trans z
    cases z'
  ·by_cases hb:b=a
   ·exact hb
   ·exact absurd (if_neg hb) z
end L2
namespace L2
open PySem PySem.Spec PyProof.Rows
theorem b8a{l:PySem.W.OpenLaw}{n k:Nat}{q:Program}{loose:List Str}{XP:(Str→Option Value)→Heap→Prop}{YP:World→Heap→Prop}{d:DefRec}{K:Params→c8U}{CX:World→CXT}{sp:World→Sp}{x:Str}
  (hn:l.most=some n) (hn2:n≤sizeLine) (hdf:d.params.defaults=[]) (hr:L6 k callerA)
  (hY:∀(w:World) (h:Heap),YP w h→(K w.params).In h)
  (F:∀(w:World) (mg:Str→Option Value) (fa:Addr) (h:Heap),(K w.params).In h→h.Ns mainGlobals mg→mg d.name=some (.ref fa) →
   ∃ fd:FuncData,(∀(s:Shared) (u:Value),BindsTo s fd ⟨[u],[]⟩ [(x,u)]) ∧
    ∀ base:Heap,(K w.params).In base→base.Ns mainGlobals mg→X8 l.prog w (K w.params) mg base (CX w) k fa fd [x] (sp w))
  (hsp:∀(w:World) (H:Hp) (a:Addr) (ns:List Int),ns.length≤n→b3J H→SqL (K w.params) H a (ns.map V.int)→sp w [.ref a] H (fun v _=>v = .bl true) fun _ _ _=>False)
  (hCX:∀(w:World) (H:Hp) (s:Shared) (e:Value) (s':Shared),CX w [] H s (fun _ _ _=>False) e s'→False) :
  PySem.W.WalkO q loose XP YP l.row.toRowW d [] (fun f vs=>PySem.call f vs):=by
 refine Att.a9J hn hdf fun w s₀ s₁ mg mb fa o pm cd doc a vs ns G Y ho hd hcd hmg hobj hints hlen hg=>?_
 have KX:=hY w _ Y
 obtain⟨fd,hb,hF⟩:=F w mg fa _ KX G.T.g hmg
 exact b5Z KX G.T.g G.T.b G.T.builtins G.T.nolimit hg hobj hints (c85 hlen hn2) hr hF hb (fun H hO hS=>hsp w H a ns hlen hO hS) fun H e s'=>hCX w H s₁ e s'
theorem b4J{l:PySem.W.OpenLaw}{n k:Nat}{q:Program}{loose:List Str}{XP:(Str→Option Value)→Heap→Prop}{YP:World→Heap→Prop}{d:DefRec}{K:Params→c8U}{CX:CXT}{sp:c8U→Sp}{x:Str}
  (hn:l.most=some n) (hn2:n≤sizeLine) (hdf:d.params.defaults=[]) (hr:L6 k callerA)
  (hY:∀(w:World) (h:Heap),YP w h→(K w.params).In h)
  (F:∀(w:World) (mg:Str→Option Value) (fa:Addr) (h:Heap),(K w.params).In h→h.Ns mainGlobals mg→mg d.name=some (.ref fa) →
   ∃ fd:FuncData,(∀(s:Shared) (u:Value),BindsTo s fd ⟨[u],[]⟩ [(x,u)]) ∧
    ∀ base:Heap,(K w.params).In base→base.Ns mainGlobals mg→X8 l.prog w (K w.params) mg base CX k fa fd [x] (sp (K w.params)))
  (hsp:∀(K:c8U) (H:Hp) (a:Addr) (ns:List Int),ns.length≤n→b3J H→SqL K H a (ns.map V.int)→sp K [.ref a] H (fun v _=>v = .bl true) fun _ _ _=>False)
  (hCX:∀(H:Hp) (s:Shared) (e:Value) (s':Shared),CX [] H s (fun _ _ _=>False) e s'→False) :
  PySem.W.WalkO q loose XP YP l.row.toRowW d [] (fun f vs=>PySem.call f vs) :=
 b8a (K:=K) (CX:=fun _=>CX) (sp:=fun w=>sp (K w.params)) hn hn2 hdf hr hY F (fun w H a ns h1 h2 h3=>hsp (K w.params) H a ns h1 h2 h3) fun _ H s e s'=>hCX H s e s'
end L2
namespace L2
open PySem PySem.Spec PyProof.Rows
noncomputable def X0(s:Stmt):Arguments:=match s with
 | .FunctionDef _ a _ _ _ _ _ _ _ _=>a
 | _=>{ posonlyargs:=[],args:=[],vararg:=none,kwonlyargs:=[],kw_defaults:=[],kwarg:=none,defaults:=[] }
noncomputable def M0(s:Stmt):List Stmt:=match s with
 | .FunctionDef _ _ b _ _ _ _ _ _ _=>b
 | _=>[]
noncomputable def e8(s:Stmt):Scope:=match s with
 | .FunctionDef _ _ _ _ _ _ sc _ _ _=>sc
 | _=>{ kind:=.function,names:=[],isGenerator:=false,isCoroutine:=false }
noncomputable abbrev CX0:CXT:=fun _ _ _ _ _ _=>False
noncomputable abbrev E0:XK:=fun _ _ _=>False
theorem c3V{X:Cx}:a75 CX0 X E0:=fun _ _ _ _ _ _ _ h=>h.elim
section
variable {P:Program} {w:World} {K:c8U} {mg:Str→Option Value} {base:Heap}
end
section
variable {X:Cx}
theorem pv(i:Nat){x:Str}{pos:Pos}(hN:X.N[i]? = some x:=by rfl)(hv:Vis X.env.scope x:=by first|exact Or.inl rfl|exact Or.inr (Or.inl rfl)|exact Or.inr (Or.inr rfl))(hd:(x == ("__debug__" : Str))=false:=by decide)
  (hcd:(x == ("__classdict__" : Str))=false:=by decide):PE X (.Name x pos) (c3x i):=b5B hN hv hd hcd
end
theorem c4j{A B:Prop}(h:B):if false=true then A else B:=by
 rw[if_neg c9n]
 exact h
theorem c5E{A B:Prop}(h:A):if true=true then A else B:=by
 rw[if_pos rfl]
 exact h
end L2
end
namespace RM
open Rat
noncomputable def bl(n:Nat):Nat:=n.log2+1
theorem a10(n:Nat):n<2 ^ bl n:=Nat.lt_log2_self
theorem a0l{n k:Nat}(h:n<2 ^ k)(hk:0<k):bl n≤k:=by
 unfold bl
 rcases d0o n with h0|h0
 ·subst h0;rw[Nat.log2_zero];omega
 ·have:=(d1f (d1K.mp h0)).mpr h
  omega
theorem b6X(n:Nat):0<bl n:=d2a _
theorem X4{m n:Nat}(h:m≤n):bl m≤bl n:=a0l (c9e h (a10 n)) (b6X n)
theorem X3(m n:Nat):bl (m*n)≤bl m+bl n:=by
 refine a0l ?_ (Nat.add_pos_left (b6X m) _)
 rw[d1g]
 exact Nat.mul_lt_mul'' (a10 m) (a10 n)
theorem c2D(m n:Nat):bl (m+n)≤max (bl m) (bl n)+1:=by
 refine a0l ?_ (d2a _)
 have h1:=a10 m
 have h2:=a10 n
 have e1:2 ^ bl m≤2 ^ max (bl m) (bl n):=c9j (by decide) (d1y _ _)
 have e2:2 ^ bl n≤2 ^ max (bl m) (bl n):=c9j (by decide) (d1p _ _)
 rw[d05]
 omega
noncomputable def sz(q:Rat):Nat:=max (bl q.num.natAbs) (bl q.den)
theorem M8(q:Rat):bl q.num.natAbs≤sz q:=d1y _ _
theorem E3(q:Rat):bl q.den≤sz q:=d1p _ _
theorem b1L{q:Rat}{n:Nat}(h1:bl q.num.natAbs≤n)(h2:bl q.den≤n):sz q≤n:=d0S.mpr ⟨h1,h2⟩
theorem b5P(a b:Int):(divInt a b).num.natAbs≤a.natAbs:=by
 rw[num_divInt]
 rcases Int.lt_trichotomy b 0 with h|h|h
 ·rw[d03 h]
  refine c85 (d08 _ _) ?_
  simp
 ·subst h;simp
 ·rw[d0F h,d1L]
  exact d08 _ _
theorem c2x(a b:Int)(hb:b≠0):(divInt a b).den≤b.natAbs:=by
 rw[den_divInt,if_neg hb]
 exact d0X _ _
theorem M6(a b:Int)(hb:b≠0):sz (divInt a b)≤max (bl a.natAbs) (bl b.natAbs) :=
 b1L (c85 (X4 (b5P a b)) (d1y _ _)) (c85 (X4 (c2x a b hb)) (d1p _ _))
theorem E5(q:Rat):(q.den:Int)≠0:=by have:=q.den_nz;omega
theorem b00(q r:Rat):q+r=divInt (q.num*r.den+r.num*q.den) (q.den*r.den):=by
 conv=>lhs;rw[← num_divInt_den q,← num_divInt_den r]
 rw[divInt_add_divInt _ _ (E5 q) (E5 r)]
theorem b0D(q r:Rat):q*r=divInt (q.num*r.num) (q.den*r.den):=by
 conv=>lhs;rw[← num_divInt_den q,← num_divInt_den r]
 rw[divInt_mul_divInt]
theorem b6A(q r:Rat):q / r=divInt (q.num*r.den) (q.den*r.num):=by
 rw[div_def]
 conv=>lhs;rw[← num_divInt_den q,← num_divInt_den r]
 rw[inv_divInt,divInt_mul_divInt]
theorem a4D(a b:Int):(a+b).natAbs≤a.natAbs+b.natAbs:=d10 a b
theorem a01(q r:Rat):sz (q+r)≤sz q+sz r+1:=by
 rw[b00]
 have hb:((q.den:Int)*(r.den:Int))≠0:=c9Z (E5 q) (E5 r)
 refine c85 (M6 _ _ hb) (d0S.mpr ⟨?_,?_⟩)
 ·refine c85 (X4 (a4D _ _)) (c85 (c2D _ _) ?_)
  rw[c9q,c9q]
  have h1:=X3 q.num.natAbs (r.den:Int).natAbs
  have h2:=X3 r.num.natAbs (q.den:Int).natAbs
  have a1:=M8 q
  have a2:=M8 r
  have a3:=E3 q
  have a4:=E3 r
  simp only[c8V]at h1 h2 ⊢
  omega
 ·rw[c9q]
  have h1:=X3 (q.den:Int).natAbs (r.den:Int).natAbs
  have a3:=E3 q
  have a4:=E3 r
  simp only[c8V]at h1 ⊢
  omega
theorem y8(q r:Rat):sz (q*r)≤sz q+sz r:=by
 rw[b0D]
 have hb:((q.den:Int)*(r.den:Int))≠0:=c9Z (E5 q) (E5 r)
 refine c85 (M6 _ _ hb) (d0S.mpr ⟨?_,?_⟩)
 ·rw[c9q]
  have h1:=X3 q.num.natAbs r.num.natAbs
  have a1:=M8 q
  have a2:=M8 r
  omega
 ·rw[c9q]
  have h1:=X3 (q.den:Int).natAbs (r.den:Int).natAbs
  have a3:=E3 q
  have a4:=E3 r
  simp only[c8V]at h1 ⊢
  omega
theorem S6(q:Rat):sz (-q)=sz q:=by
 unfold sz
 rw[d1M,d1N,d0c]
theorem S4(q r:Rat):sz (q - r)≤sz q+sz r+1:=by
 rw[d1V]
 have:=a01 q (-r)
 rw[S6]at this
 exact this
theorem S7(q r:Rat)(hr:r≠0):sz (q / r)≤sz q+sz r:=by
 rw[b6A]
 have hn:r.num≠0:=fun h=>hr (Rat.num_eq_zero.mp h)
 have hb:((q.den:Int)*r.num)≠0:=c9Z (E5 q) hn
 refine c85 (M6 _ _ hb) (d0S.mpr ⟨?_,?_⟩)
 ·rw[c9q]
  have h1:=X3 q.num.natAbs (r.den:Int).natAbs
  have a1:=M8 q
  have a4:=E3 r
  simp only[c8V]at h1 ⊢
  omega
 ·rw[c9q]
  have h1:=X3 (q.den:Int).natAbs r.num.natAbs
  have a3:=E3 q
  have a2:=M8 r
  simp only[c8V]at h1 ⊢
  omega
theorem C9:sz 0=1:=by decide
theorem S5:sz 1=1:=by decide
theorem b6o(a b:Nat)(h:b≠0):c9z a b=c9z b (a % b):=by
 rw[d2b,Nat.gcd_rec,d2b]
theorem W7{a g:Int}(h:g ∣ a):a.fdiv g=a / g:=by
 obtain⟨c,rfl⟩:=h
 by_cases hg:g=0
 ·subst hg;simp
 ·rw[Int.mul_fdiv_cancel_left _ hg,d0B _ hg]
theorem c1X(a b:Int)(hb:b≠0)(share:Int)(hs:share=if b<0 then -((c9z a.natAbs b.natAbs:Nat):Int)else((c9z a.natAbs b.natAbs:Nat):Int)) :
  a.fdiv share=(divInt a b).num∧b.fdiv share=((divInt a b).den:Int):=by
 have hg:c9z a.natAbs b.natAbs=d11 b a:=by unfold d11;exact d2b _ _
 have da:((d11 b a:Nat):Int) ∣ a:=Int.gcd_dvd_right b a
 have db:((d11 b a:Nat):Int) ∣ b:=Int.gcd_dvd_left b a
 rw[hg]at hs
 rw[num_divInt,den_divInt,if_neg hb]
 by_cases h:b<0
 ·rw[if_pos h]at hs
  subst hs
  rw[W7 (Int.neg_dvd.mpr da),W7 (Int.neg_dvd.mpr db),d03 h]
  refine⟨?_,?_⟩
  ·rw[Int.ediv_neg,Int.neg_one_mul,d1O da]
  ·rw[Int.ediv_neg,← d1O db]
   have e:-b=((b.natAbs:Nat):Int):=by omega
   rw[e]
   norm_cast
 ·rw[if_neg h]at hs
  subst hs
  have hp:0<b:=by omega
  rw[W7 da,W7 db,d0F hp,d1L]
  refine⟨rfl,?_⟩
  have e:b=((b.natAbs:Nat):Int):=by omega
  conv=>lhs;rw[e]
  norm_cast
theorem c4f(q r:Rat):decide (q.num*(r.den:Int)<r.num*(q.den:Int))=decide (q<r):=by
 by_cases h:q<r
 ·rw[decide_eq_true h,decide_eq_true ((d12 q r).mp h)]
 ·rw[decide_eq_false h,decide_eq_false (fun z=>h ((d12 q r).mpr z))]
end RM
namespace L2
open PySem PySem.Spec PyProof.Rows
section
variable {prog:Program} {w:World} {A:Around} {R:Result→Shared→Prop} {s:Shared}
noncomputable def b1J(ifs:List Expr)(env:Env):Sem Bool:=forIn ifs true fun c r=>if r=true then do let ok ← isTrue c env (eval c env);pure (ForInStep.yield ok)else pure (ForInStep.yield r)
theorem a7X{elt target iter:Expr}{ifs:List Expr}{scope:Scope}{pos:Pos}{it acc:Value}{env:Env}(I:Nat→Shared→Prop)
  (turn:∀ n s,I n s→wpAny (model prog w) A (pyNext it) (fun r s₁=>match r with
   | none=>R (.ok .next) s₁
   | some v=>wpAny (model prog w) A (letOwnedTupleGo target it v) (fun _ s₁'=>wpAny (model prog w) A (assign target env v) (fun _ s₂=>wpAny (model prog w) A (b1J ifs env) (fun ok s₂'=>if ok=true then wpAny (model prog w) A (eval elt env) (fun x s₃ =>
     wpAny (model prog w) A (call (.builtin "list.append") [acc,x]) (fun _ s₄=>∃ m,m<n∧I m s₄) (notedBy (model prog w) A env fun e s'=>R (.error e) s') s₃)
     (notedBy (model prog w) A env fun e s'=>R (.error e) s') s₂' else ∃ m,m<n∧I m s₂') (notedBy (model prog w) A env fun e s'=>R (.error e) s') s₂) (notedBy (model prog w) A env fun e s'=>R (.error e) s') s₁') (notedBy (model prog w) A env fun e s'=>R (.error e) s') s₁) (notedBy (model prog w) A env fun e s'=>R (.error e) s') s)
  (n:Nat) (h:I n s) :
  codeAny (model prog w) A (.compLoop (.ListComp elt [⟨target,iter,ifs,0⟩] scope pos) 0 it acc env) R s:=by
 refine codeAny_loop rfl I (fun n s hI=>?_) n h
 show wpAny _ _ ((compTurn (.ListComp elt [⟨target,iter,ifs,0⟩] scope pos) 0 it acc env).onRaise (fun x=>do noteFrame x env;theTreesLotGoes x)) _ _ s
 refine wpAny_noted ?_
 rw[compTurn_list]
 refine c8T (wpAny_standAt (c8T (wpAny_mono (turn n s hI) (fun r s₁ h₁=>?_) fun _ _ h'=>h')))
 cases r with
 | none=>exact c84 h₁
 | some v =>
  refine c8T (wpAny_mono h₁ (fun _ s₁' h₁'=>?_) fun _ _ h'=>h')
  refine c8T (wpAny_mono h₁' (fun _ s₂ h₂=>c8T (wpAny_mono h₂ (fun ok s₂' h₃=>?_) fun _ _ h'=>h')) fun _ _ h'=>h')
  cases ok with
  | true =>
   refine c8T (c8T (wpAny_mono h₃ (fun x s₃ h₄=>c8T (wpAny_mono h₄ (fun _ s₄ h₅=>c84 (c84 ⟨rfl,h₅⟩)) fun _ _ h'=>h')) fun _ _ h'=>h'))
  | false=>exact c8T (c84 (c84 ⟨rfl,h₃⟩))
end
noncomputable def a2A(X:Cx)(ifs:List Expr)(t:TT):Prop :=
 ∀(pins:List (Addr × Obj)) (s:Shared) (σ:St) (H:Hp) (Q:Bool→Hp→Prop),Inv X pins σ H s→t σ H Q→wpAny (model X.prog X.w) X.A (b1J ifs X.env) (TP X pins σ Q) X.xe s
noncomputable def c5f:TT:=fun _ H Q=>Q true H
theorem b5y{X:Cx}:a2A X [] c5f:=fun pins s σ H Q I q=>c84 ⟨H,I,q⟩
theorem b5x{X:Cx}{c:Expr}{t:TT}(h:PT X c t):a2A X [c] t:=fun pins s σ H Q I q=>wpAny_tests_one (h pins s σ H Q I q)
end L2
namespace L2
open PySem PySem.Spec PyProof.Rows
noncomputable def a0i(cells:List (Str × Addr)):List (Str × NameKind)→List (Str × Addr)→List (Str × Addr)
 | [],acc=>acc
 | (n,k) :: r,acc=>if k == .free then a0i cells r ((n,(cells.lookup n).getD 0) :: acc)else a0i cells r acc
theorem a1p{env:Env}:∀(names:List (Str × NameKind)) (acc:List (Str × Addr)),(∀ n,(n,NameKind.free)∈names→∃ c,env.cells.lookup n=some c) →
  (forIn names acc (fun(x:Str × NameKind) (cs:List (Str × Addr))=>if (x.2 == NameKind.free)=true then(do let a ← cellOf env x.1;pure (ForInStep.yield ((x.1,a) :: cs)))else pure (ForInStep.yield cs)):Sem (List (Str × Addr)))=pure (a0i env.cells names acc)
 | [],acc,_=>rfl
 | (n,k) :: r,acc,h=>by
  rw[d1z]
  unfold a0i
  by_cases hk:(k == NameKind.free)=true
  ·have e:k = .free:=by cases k<;>first|rfl|(exact absurd hk (by decide))
   subst e
   obtain⟨c,hc⟩:=h n c9I
   rw[if_pos hk,if_pos hk]
   have e1:cellOf env n=pure c:=by unfold cellOf;rw[hc]
   rw[e1,pure_bind,pure_bind,hc]
   exact a1p r _ fun m hm=>h m (c9r _ hm)
  ·rw[if_neg hk,if_neg hk,pure_bind]
   exact a1p r _ fun m hm=>h m (c9r _ hm)
theorem a9F{scope:Scope}{env:Env}(h:∀ n,(n,NameKind.free)∈scope.names→∃ c,env.cells.lookup n=some c):closureFor scope env=pure (a0i env.cells scope.names []):=by
 have:=a1p (env:=env) scope.names [] h
 unfold closureFor
 first
  | (simp only[]at this ⊢;rw[← this];simp only[bind_pure];rfl)
  | (rw[← this];rfl)
  | (simp only[bind_pure,pure_bind];exact this)
theorem X2{cells:List (Str × Addr)}{x:Str}{c:Addr}:∀(names:List (Str × NameKind)) (acc:List (Str × Addr)),(∀ n,(n,NameKind.free)∈names→∃ c,cells.lookup n=some c)→(∀ y d,acc.lookup y=some d→cells.lookup y=some d)→(a0i cells names acc).lookup x=some c→cells.lookup x=some c
 | [],acc,_,ha,h=>ha x c h
 | (n,k) :: r,acc,hn,ha,h=>by
  unfold a0i at h
  by_cases hk:(k == NameKind.free)=true
  ·rw[if_pos hk]at h
   have e:k = .free:=by cases k<;>first|rfl|(exact absurd hk (by decide))
   subst e
   obtain⟨d,hd⟩:=hn n c9I
   refine X2 r _ (fun m hm=>hn m (c9r _ hm)) (fun y e hy=>?_) h
   rw[d0x]at hy
   split at hy
   ·rename_i hz
    have hz':y=n:=by simpa using hz
    subst hz'
    rw[hd]at hy ⊢
    cases hy;rfl
   ·exact ha y e hy
  ·rw[if_neg hk]at h
   exact X2 r _ (fun m hm=>hn m (c9r _ hm)) ha h
theorem a0N{cells:List (Str × Addr)}{x:Str}:∀(names:List (Str × NameKind)) (acc:List (Str × Addr)),((x,NameKind.free)∈names ∨ ∃ c,acc.lookup x=some c)→∃ c,(a0i cells names acc).lookup x=some c
 | [],acc,h=>by
  rcases h with h|h
  ·cases h
  ·exact h
 | (n,k) :: r,acc,h=>by
  unfold a0i
  by_cases hk:(k == NameKind.free)=true
  ·rw[if_pos hk]
   refine a0N r _ ?_
   by_cases hx:x=n
   ·right;rw[d0x];simp[hx]
   ·rcases h with h|⟨c,h⟩
    ·rcases c9l.mp h with z|z
     ·injection z with z1 _;exact absurd z1 hx
     ·exact .inl z
    ·right
     refine⟨c,?_⟩
     rw[d0x]
     have:(x == n)=false:=by simpa using hx
     rw[this];exact h
  ·rw[if_neg hk]
   refine a0N r _ ?_
   rcases h with h|h
   ·rcases c9l.mp h with z|z
    ·injection z with _ z2
     subst z2
     exact absurd rfl hk
    ·exact .inl z
   ·exact .inr h
theorem a2Q{scope:Scope}{env:Env}{x:Str}{k:NameKind}(h:(relabel scope env).names.lookup x=some k)(hk:k = .cell∨k = .free)(hcell:∀ y∈scope.names,y.2 ≠ .cell):(x,NameKind.free)∈scope.names:=by
 have go:∀(l:List (Str × NameKind)),(∀ y∈l,y.2 ≠ .cell)→(l.map fun(n,k)=>if (k == NameKind.free && env.scope.kind == .function && env.kindOf n == some .cell)=true then(n,NameKind.cell)else(n,k)).lookup x=some k→(x,NameKind.free)∈l:=by
  intro l
  induction l with
  | nil=>intro _ h;cases h
  | cons p r ih =>
   intro hl h
   obtain⟨n,j⟩:=p
   rw[c9F,d0x]at h
   by_cases hj:j = .free
   ·subst hj
    by_cases hx:x=n
    ·subst hx;exact c9I
    ·refine c9r _ (ih (fun y hy=>hl y (c9r _ hy)) ?_)
     have e:∀ b:Bool,(x == (if b=true then(n,NameKind.cell)else(n,NameKind.free)).1)=false:=fun b=>by cases b<;>simpa using hx
     dsimp only at h
     rw[e]at h
     exact h
   ·have e:(j == NameKind.free)=false:=by simpa using hj
    have hc:=hl (n,j) c9I
    dsimp only at h
    rw[e]at h
    simp only[Bool.false_and,c9U,if_false]at h
    by_cases hx:x=n
    ·have:(x == n)=true:=by simpa using hx
     rw[this]at h
     have h':j=k:=by simpa using h
     subst h'
     rcases hk with z|z
     ·exact absurd z hc
     ·exact absurd z hj
    ·have:(x == n)=false:=by simpa using hx
     rw[this]at h
     exact c9r _ (ih (fun y hy=>hl y (c9r _ hy)) h)
 exact go scope.names hcell h
noncomputable def cxF(X:Cx)(scope:Scope)(cl:List (Str × Addr))(N':List Str)(s3:Shared)(H3:Hp)(C:Addr)(fp:List Addr)(pins:List (Addr × Obj)):Cx :=
 { X with N:=N',s₀:=s3,H₀:=H3,env:=compEnvC scope cl C X.env,outer:=X.stack,ex:=fp,fn:=fun _=>false,pn:=X.pn++pins,xe:=fun _ _=>False }
noncomputable def a7Y(n:Nat)(caps:List Nat)(σ:St):St:=d0m n none++caps.map fun i=>(σ[i]?).getD none
noncomputable def a9Y(n:Nat)(caps:List Nat)(wi:TI)(g:TG)(tc:TT)(te:TE):TE:=fun σ H Q=>wi σ H fun J H1=>∀ D,H1 D=none→∃ W:Nat→Nat→Hp→Prop,(∃ m,W 0 m (upd H1 D (.lst [])))∧∀ i m H,W i m H →
 (J.stop i H∧Q (.ref D) H)∨(J.go i H∧∀ x H',J.yld i H x H'→g x (a7Y n caps σ) H' fun σ2 H2=>tc σ2 H2 fun b H2'=>if b=true then te σ2 H2' fun v H3=>∃ ys,H3 D=some (.lst ys)∧ys.length<sizeLine∧∃ m',m'<m∧W (i+1) m' (upd H3 D (.lst (ys++[v])))else ∃ m',m'<m∧W (i+1) m' H2')
section
variable {X:Cx} {elt tg iter:Expr} {scope:Scope} {cl:List (Str × Addr)} {tgs cps:List Str} {caps:List Nat} {wi:TI} {g:TG} {tc:TT} {te:TE} {pos:Pos} {ifs:List Expr}
noncomputable def b7i(s3:Shared)(H3:Hp)(fp:List Addr)(cl:List (Str × Addr))(x:Str)(v:V):Prop :=
 ∃(u:Value) (c:Addr) (o:Obj),u6 v u∧cl.lookup x=some c∧s3.heap.get? c=some o∧o.data = .cell (some u)∧H3 c=none∧c∉fp
theorem Inv.reset{pins pins':List (Addr × Obj)}{σ0 σ':St}{H3 H':Hp}{s3 s':Shared}{fp:List Addr}{C:Addr}(I:Inv (cxF X scope cl (tgs++cps) s3 H3 C fp pins) pins' σ' H' s')
  (hsc:∀ x∈cps,(relabel scope X.env).names.lookup x=some .cell∨(relabel scope X.env).names.lookup x=some .free) (hl:caps.length=cps.length)
  (hc:∀(j:Nat) (x:Str) (v:V),cps[j]? = some x→(caps.map fun i=>(σ0[i]?).getD none)[j]? = some (some v)→b7i s3 H3 fp cl x v) :
  Inv (cxF X scope cl (tgs++cps) s3 H3 C fp pins) pins' (a7Y tgs.length caps σ0) H' s':=by
 obtain⟨m,hn,_⟩:=I.loc
 refine⟨I.ok,I.os,I.bare,I.base,⟨m,hn,fun i x v e1 e2 e3=>?_⟩,I.cell,I.free,I.freeC,I.pin,I.hok,by simp[a7Y,cxF,hl]⟩
 have e1:(tgs++cps)[i]? = some x:=e1
 unfold a7Y at e2
 rw[d0Q]at e1 e2
 rw[d0I]at e2
 by_cases hi:i<tgs.length
 ·rw[if_pos hi]at e2
  rw[d0b]at e2
  split at e2<;>cases e2
 ·rw[if_neg hi]at e1 e2
  obtain⟨u,c,o,r,h1,h2,h3,h4,h5⟩:=hc (i - tgs.length) x v e1 e2
  obtain⟨sl,k⟩:=I.base.any h2 h4 h5
  refine⟨u,r,.inr ⟨?_,c,h1,_,k,h3⟩⟩
  rcases hsc x (c81 e1)with z|z
  ·exact .inl z
  ·exact .inr z
theorem a9D{pins:List (Addr × Obj)}{σ0:St}{σ:St}{H3:Hp}{s3:Shared}{fp:List Addr}{it D C:Addr}{tn:Nat→Heap→Prop}{J:It}{h₁:Heap}{tk:Nat}{m:Str→Option Value}{R:Result→Shared→Prop}{Qd:Hp→Prop}
  (hc:X.calm=true) (hcell:∀ x∈scope.names,x.2 ≠ .cell) (hkind:scope.kind = .function)
  (hcl:∀ x c,cl.lookup x=some c→X.env.cells.lookup x=some c) (hhas:∀ x,(x,NameKind.free)∈scope.names→∃ c,cl.lookup x=some c)
  (hsc:∀ x∈cps,(relabel scope X.env).names.lookup x=some .cell∨(relabel scope X.env).names.lookup x=some .free) (hl:caps.length=cps.length)
  (hcap:∀(j:Nat) (x:Str) (v:V),cps[j]? = some x→(caps.map fun i=>(σ0[i]?).getD none)[j]? = some (some v)→b7i s3 H3 fp cl x v)
  (hg:∀ cl s3 H3 C fp pins,PG (cxF X scope cl (tgs++cps) s3 H3 C fp pins) tg g) (hq:∀ cl s3 H3 C fp pins,a2A (cxF X scope cl (tgs++cps) s3 H3 C fp pins) ifs tc) (he:∀ cl s3 H3 C fp pins,PE (cxF X scope cl (tgs++cps) s3 H3 C fp pins) elt te)
  (I3:Inv X pins σ H3 s3) (T:a73 X.prog X.w X.K tg J fp it tn) (st3:tn 0 s3.heap) (f3:∀ b∈fp,a1r X pins H3 b) (hC:C=s3.heap.objs.size) (hn:h₁.Ns C m) (hk:∀ b o,s3.heap.get? b=some o→h₁.get? b=some o)
  (W:Nat→Nat→Hp→Prop) (m0:Nat) (w0:W 0 m0 H3)
  (turn:∀ i m H,W i m H→(J.stop i H∧Qd H)∨(J.go i H∧∀ x H',J.yld i H x H'→g x (a7Y tgs.length caps σ0) H' fun σ2 H2=>tc σ2 H2 fun b H2'=>if b=true then te σ2 H2' fun v H3=>∃ ys,H3 D=some (.lst ys)∧ys.length<sizeLine∧∃ m',m'<m∧W (i+1) m' (upd H3 D (.lst (ys++[v])))else ∃ m',m'<m∧W (i+1) m' H2'))
  (hR:∀ s' H' σ',Inv (cxF X scope cl (tgs++cps) s3 H3 C fp pins) [] σ' H' s'→Qd H'→R (.ok .next) s') :
  codeAny (model X.prog X.w) X.A (.compStart (.ListComp elt [⟨tg,iter,ifs,0⟩] scope pos) 0 (.ref it) (.ref D) (compEnvC scope cl C X.env)) R { s3 with heap:=h₁,toks:=tk }:=by
 have lt3:∀ b∈fp,b<s3.heap.objs.size:=fun b hb=>by
  obtain⟨o,e,_⟩:=T.obj 0 _ st3 b hb
  exact c89 e
 have ok':(cxF X scope cl (tgs++cps) s3 H3 C fp pins).Ok:={
  mod:=I3.ok.mod
  kind:=hkind
  glob:=I3.ok.glob
  blt:=I3.ok.blt
  above:=d19 hC.symm
  inj:=fun x y c e e'=>I3.ok.inj x y c (hcl x c e) (hcl y c e')
  has:=fun x h=>by
   rcases h with h|h
   ·exact hhas x (a2Q h (.inl rfl) hcell)
   ·exact hhas x (a2Q h (.inr rfl) hcell)
  cab:=fun x c h=>by cases h
  hd:=fun _=>I3.ok.hd hc
  frames:=I3.ok.frames
  stk:=.inl rfl
  exf:=fun b hb=>⟨fun z=>by
   have z':b=C:=z
   have h1:=lt3 b hb
   rw[z',hC]at h1
   exact d0a _ h1,fun x c e=>(f3 b hb).2.2.2.2.1 x c (hcl x c e)⟩
  bs:=fun b o e=>I3.bs b o e
  bsz:=c85 I3.ok.bsz I3.sz
  noex:=fun b o e hb=>by
   obtain⟨_,_,_,q,_⟩:=f3 b hb
   rcases q with q|q
   ·exact I3.ok.noex b o e q
   ·have h1:=c89 e
    exact absurd (c80 (c80 h1 I3.ok.bsz) q) (d0a _)
  exfs:=fun b hb z=>by
   obtain⟨_,q1,q2,_⟩:=f3 b hb
   rcases c9l.mp (I3.stkSub b z)with y|y
   ·exact q1 y
   ·exact q2 y
  funs:=I3.stack
  frf:=I3.stkFree }
 have J0:Inv (cxF X scope cl (tgs++cps) s3 H3 C fp pins) [] (d0m (tgs++cps).length none) H3 { s3 with heap:=h₁,toks:=tk }:={
  ok:=ok'
  os:=rfl
  bare:=I3.bare
  base:=Un.kept hk
  loc:=⟨m,hn,fun i x v _ e _=>by
   rw[d0b]at e
   split at e<;>cases e⟩
  cell:=fun x c e=>by
   obtain⟨v,o,ho,hd⟩:=I3.cell x c (hcl x c e)
   exact⟨v,o,hk c o ho,hd⟩
  free:=I3.hok.fresh (d19 hC.symm)
  freeC:=fun x c e=>I3.freeC x c (hcl x c e)
  pin:=fun p hp=>by
   have hp':p∈X.pn++pins:=by simpa[cxF]using hp
   obtain⟨a1,a2,a3,a4,a5⟩:=I3.pin p hp'
   refine⟨hk _ _ a1,a2,fun z=>?_,fun z=>?_,a5⟩
   ·have z':p.1=C:=z
    have h1:=c89 a1
    rw[z',hC]at h1
    exact d0a _ h1
   ·rcases c9l.mp (I3.stkSub _ z)with y|y
    ·exact a3 y
    ·exact a4 y
  hok:=I3.hok.kept hk
  len:=by simp[cxF] }
 have stat:∀{H':Hp},(∀ b∈fp,H' b=none)→∀ b∈fp,a1r (cxF X scope cl (tgs++cps) s3 H3 C fp pins) [] H' b:=fun hn b hb=>by
  obtain⟨_,_,_,_,_,q⟩:=f3 b hb
  exact⟨hn b hb,(ok'.exf b hb).1,ok'.exfs b hb,.inl hb,(ok'.exf b hb).2,fun p hp=>q p (by simpa[cxF]using hp)⟩
 have loop:codeAny (model X.prog X.w) X.A (.compLoop (.ListComp elt [⟨tg,iter,ifs,0⟩] scope pos) 0 (.ref it) (.ref D) (compEnvC scope cl C X.env)) R { s3 with heap:=h₁,toks:=tk }:=by
  refine a7X (fun n s'=>∃ i σ' H',Inv (cxF X scope cl (tgs++cps) s3 H3 C fp pins) [] σ' H' s'∧tn i s'.heap∧(∀ b∈fp,H' b=none)∧W i n H') ?_ m0
   ⟨0,_,H3,J0,T.keep _ _ _ st3 fun b hb o e=>hk b o e,fun b hb=>(f3 b hb).1,w0⟩
  rintro n s4 ⟨i,σ4,H4,I4,st4,fr4,w4⟩
  rcases turn i n H4 w4 with⟨stop,qn⟩|⟨go,step⟩
  ·refine thn (T.done (cxF X scope cl (tgs++cps) s3 H3 C fp pins) rfl rfl rfl hc i [] s4 σ4 H4 _ I4 (stat fr4) st4 stop) fun r s5 zz=>?_
   obtain⟨hr,I5⟩:=zz
   subst hr
   exact hR s5 H4 σ4 I5 qn
  ·refine thn (T.item (cxF X scope cl (tgs++cps) s3 H3 C fp pins) rfl rfl rfl hc i [] s4 σ4 H4 _ I4 (stat fr4) st4 go) fun r s5 zz=>?_
   obtain⟨u,hr,h5⟩:=zz
   subst hr
   refine thn h5 fun _ s6 zz=>?_
   obtain⟨x,H6,I6,r6,y6,st6,fr6⟩:=zz
   have I6w:=I6.reset hsc hl hcap
   have I6':=I6w.pinned (stat fr6) (T.obj _ _ st6)
   refine wpAny_mono (hg cl s3 H3 C fp pins _ s6 _ H6 x u _ I6' r6 (step x H6 y6)) (fun _ s7 ⟨σ7,H7,I7,q7⟩=>?_) fun _ _ z=>z.elim
   refine wpAny_mono (hq cl s3 H3 C fp pins _ s7 σ7 H7 _ I7 q7) (fun b s7' ⟨H7',I7',q7'⟩=>?_) fun _ _ z=>z.elim
   cases b with
   | false =>
    obtain⟨m',hm,w8⟩:=q7'
    refine⟨m',hm,i+1,σ7,H7',I7'.unpinned,T.keep _ _ _ st6 fun b hb o e=>(I7'.pin (b,o) (c9m _ (c9m _ (J5 hb e)))).1,fun b hb=>?_,w8⟩
    obtain⟨o,e,d⟩:=T.obj _ _ st6 b hb
    exact(I7'.pin (b,o) (c9m _ (c9m _ (J5 hb e)))).2.1
   | true =>
    refine wpAny_mono (he cl s3 H3 C fp pins _ s7' σ7 H7' _ I7' q7') (fun v s8 ⟨y,H8,I8,r8,q8⟩=>?_) fun _ _ z=>z.elim
    obtain⟨ys,hy,hz,m',hm,w8⟩:=q8
    refine wpAny_mono (a6u (X:=cxF X scope cl (tgs++cps) s3 H3 C fp pins) _ s8 σ7 H8 (.ref D) [y] (.ref D) [v] (fun _ H9=>W (i+1) m' H9) I8 rfl (.cons r8 .nil) ⟨D,ys,y,rfl,rfl,hy,hz,w8⟩) (fun _ s9 ⟨_,H9,I9,_,w9⟩=>?_) fun _ _ z=>z.elim
    refine⟨m',hm,i+1,σ7,H9,I9.unpinned,T.keep _ _ _ st6 fun b hb o e=>(I9.pin (b,o) (c9m _ (c9m _ (J5 hb e)))).1,fun b hb=>?_,w9⟩
    obtain⟨o,e,d⟩:=T.obj _ _ st6 b hb
    exact(I9.pin (b,o) (c9m _ (c9m _ (J5 hb e)))).2.1
 exact codeAny_compStart_list loop (T.self _ 0 _ _ _ (T.keep _ _ _ st3 fun b hb o e=>hk b o e) loop)
theorem a6G(hc:X.calm=true)(hcell:∀ x∈scope.names,x.2 ≠ .cell)(hkind:scope.kind = .function)(hnames:∀ x∈scope.names,x.2 = .local→scope.names.lookup x.1=some .local)
  (hfr:∀ x∈scope.names,x.2 = .free→x.1∈cps) (hN:caps.map (fun i=>X.N[i]?)=cps.map some) (hX:∀ x∈cps,X.env.scope.names.lookup x=some .cell∧scope.names.lookup x=some .free)
  (hsc:∀ x∈cps,(relabel scope X.env).names.lookup x=some .cell∨(relabel scope X.env).names.lookup x=some .free)
  (hi:PI X tg iter wi) (hg:∀ cl s3 H3 C fp pins,PG (cxF X scope cl (tgs++cps) s3 H3 C fp pins) tg g) (hq:∀ cl s3 H3 C fp pins,a2A (cxF X scope cl (tgs++cps) s3 H3 C fp pins) ifs tc) (he:∀ cl s3 H3 C fp pins,PE (cxF X scope cl (tgs++cps) s3 H3 C fp pins) elt te)
  (hs:∀ x,foldedSetIterable iter X.env x=pure x) {use:Option (Value→Sem Unit)} {Qf:Value→Shared→Prop} {pins:List (Addr × Obj)} {s:Shared} {σ:St} {H:Hp} {Q:VK} (I:Inv X pins σ H s) (h:a9Y tgs.length caps wi g tc te σ H Q)
  (hU:∀(D C:Addr) (s':Shared) (H4:Hp) (m4:Str→Option Value),s'.heap.Ns C m4→a1r X pins H4 C→(∀ h',Heap.SameBut C s'.heap h'→Inv X pins σ H4 { s' with heap:=h' })→Q (.ref D) H4→compPost (model X.prog X.w) X.A X.xe use Qf (.ref D) C (.ok .next) s') :
  wpAny (model X.prog X.w) X.A (comprehension (.ListComp elt [⟨tg,iter,ifs,0⟩] scope pos) scope X.env (firstIterPos [⟨tg,iter,ifs,0⟩] pos) (newList []) false (eval iter X.env) use) Qf X.xe s:=by
 have hl:caps.length=cps.length:=by
  have:=congrArg d1J hN
  simpa using this
 have hcells:∀ n,(n,NameKind.free)∈scope.names→∃ c,X.env.cells.lookup n=some c:=fun n hn=>I.ok.has n (.inl (hX n (hfr _ hn rfl)).1)
 refine wpAny_comprehension_free (use:=use) rfl hs (a9F hcells) hkind hnames (thn (hi pins s σ H _ I h) fun v s1 h1=>thn h1 fun itv s2 h2=>?_)
 obtain⟨it,fp,tn,J,H',e,I2,T,st2,f2,hW⟩:=h2
 subst e
 refine wpAny_newObj_type (hd:=by size_fits) (wpAny_newFunctionEnv hcell (by intro y hy;simp at hy) (fun h₁ hns₁ hsb₁=>?_) hkind)
 dsimp only at hns₁ hsb₁ ⊢
 have I3:=I2.lnew (ys:=[]) (its:=[]) (t':=s2.toks) .nil (c9K _)
 obtain⟨W,⟨m0,w0⟩,turn⟩:=hW _ I2.fresh
 have st3:tn 0 (s2.heap.push { cls:=.type "list",data:=.seq ([]:List Value).toArray }):=T.keep _ _ _ st2 fun b hb o e=>c8X _ e
 have f3:∀ b∈fp,a1r X pins (upd H' s2.heap.objs.size (.lst [])) b:=fun b hb=>by
  obtain⟨q0,q⟩:=f2 b hb
  obtain⟨o,e,_⟩:=T.obj 0 _ st2 b hb
  exact⟨by rw[j8 (c9y (c89 e))];exact q0,q⟩
 have old:∀ b o,(s2.heap.push { cls:=.type "list",data:=.seq ([]:List Value).toArray }).get? b=some o→h₁.get? b=some o:=fun b o e =>
  hsb₁.extBut b o (c9y (c89 e)) (c8X _ e)
 have hcap:∀(j:Nat) (x:Str) (v:V),cps[j]? = some x→(caps.map fun i=>(σ[i]?).getD none)[j]? = some (some v) →
   b7i { s2 with heap:=s2.heap.push { cls:=.type "list",data:=.seq ([]:List Value).toArray },toks:=s2.toks } (upd H' s2.heap.objs.size (.lst [])) fp (a0i X.env.cells scope.names []) x v:=fun j x v ex ev=>by
  have hx:=hX x (c81 ex)
  have hj:(caps.map (fun i=>X.N[i]?))[j]? = some (some x):=by rw[hN,c83,ex];rfl
  rw[c83]at ev hj
  cases hcj:caps[j]? with
  | none=>rw[hcj]at ev;cases ev
  | some i =>
   rw[hcj]at ev hj
   have ev':(σ[i]?).getD none=some v:=by simpa using ev
   have hj':X.N[i]? = some x:=by simpa using hj
   have es:σ[i]? = some (some v):=by
    cases q:σ[i]? with
    | none=>rw[q]at ev';cases ev'
    | some w=>rw[q]at ev';rw[show w=some v by simpa using ev']
   obtain⟨m,hn,hlook⟩:=I3.loc
   obtain⟨u,ru,lk⟩:=hlook i x v hj' es (.inr (.inl hx.1))
   rcases lk with⟨k1,_⟩|⟨_,c,hc1,o,ho,hd⟩
   ·have k1':X.env.scope.names.lookup x=some .local:=k1
    rw[hx.1]at k1';cases k1'
   ·have hmem:(x,NameKind.free)∈scope.names:=by
     have hlk:=hx.2
     have go:∀ l:List (Str × NameKind),l.lookup x=some .free→(x,NameKind.free)∈l:=by
      intro l
      induction l with
      | nil=>intro z;cases z
      | cons p r ih =>
       intro z
       obtain⟨n,k⟩:=p
       rw[d0x]at z
       split at z
       ·rename_i q;have q':x=n:=by simpa using q
        have z':k = .free:=by simpa using z
        rw[q',z'];exact c9I
       ·exact c9r _ (ih z)
     exact go _ hlk
    obtain⟨c',hc'⟩:=a0N (cells:=X.env.cells) scope.names [] (.inl hmem)
    have:=X2 scope.names [] hcells (fun y d z=>by cases z) hc'
    rw[hc1]at this
    cases this
    refine⟨u,c,o,ru,hc',ho,hd,I3.freeC x c hc1,fun hb=>?_⟩
    exact(f3 c hb).2.2.2.2.1 x c hc1 rfl
 refine a9D (s3:={ s2 with heap:=s2.heap.push { cls:=.type "list",data:=.seq ([]:List Value).toArray },toks:=s2.toks }) (Qd:=fun H=>Q (.ref s2.heap.objs.size) H) (tk:=s2.toks+([]:List (Str × Value)).length) (cl:=a0i X.env.cells scope.names [])
  hc hcell hkind (fun x c z=>X2 scope.names [] hcells (fun y d z=>by cases z) z) (fun x z=>a0N scope.names [] (.inl z)) hsc hl hcap hg hq he I3 T st3 f3 rfl hns₁ old W m0 w0 turn fun s' H4 σ4 I4 q4=>?_
 obtain⟨m4,hn4,_⟩:=I4.loc
 have hCfree:H4 _=none:=I4.free
 have nC:∀ b u,H4 b=some u→b≠(s2.heap.push { cls:=.type "list",data:=.seq ([]:List Value).toArray }).objs.size:=fun b u e z=>by
  rw[z]at e
  have:=e.symm.trans hCfree
  cases this
 have lt:∀ b o,(s2.heap.push { cls:=.type "list",data:=.seq ([]:List Value).toArray }).get? b=some o→b≠(s2.heap.push { cls:=.type "list",data:=.seq ([]:List Value).toArray }).objs.size:=fun b o e=>c9y (c89 e)
 have ub:=I4.base
 have fC:a1r X pins H4 (s2.heap.push { cls:=.type "list",data:=.seq ([]:List Value).toArray }).objs.size:=I3.fpOk (c9b _) hCfree
 refine hU _ _ s' H4 m4 hn4 fC (fun h' hsb=>?_) q4
 have un:Un (frs X.stack) fp (upd H' s2.heap.objs.size (.lst [])) H4 (s2.heap.push { cls:=.type "list",data:=.seq ([]:List Value).toArray }) h':={
  keep:=fun b o e n x y=>(hsb.2 b (lt b o e)).trans (ub.keep b o e n x y)
  slot:=fun b o e n x y=>let ⟨q,z⟩:=ub.slot b o e n x y;⟨q,(hsb.2 b (lt b o e)).trans z⟩
  free:=ub.free
  there:=fun b o e y=>let ⟨q,z⟩:=ub.there b o e y;⟨q,(hsb.2 b (lt b o e)).trans z⟩
  tups:=ub.tups
  frzs:=ub.frzs
  tbls:=ub.tbls }
 refine I3.call' (s':={ s' with heap:=h' }) I4.os un (fun b u e=>?_) I4.bare fun b hb=>?_
 ·refine(I4.hok b u e).stay (fun c v hcv q=>(hsb.2 c ?_).trans q) (fun _ q=>q) fun _ _ q=>q
  rcases hcv with z|z
  ·rw[z];exact nC b u e
  ·exact nC c _ z
 ·obtain⟨q0,q1,q2,q3,q4,q5⟩:=f3 b hb
  exact⟨q3,q1,q4,q5⟩
theorem a9a(hc:X.calm=true)(hcell:∀ x∈scope.names,x.2 ≠ .cell)(hkind:scope.kind = .function)(hnames:∀ x∈scope.names,x.2 = .local→scope.names.lookup x.1=some .local)
  (hfr:∀ x∈scope.names,x.2 = .free→x.1∈cps) (hN:caps.map (fun i=>X.N[i]?)=cps.map some) (hX:∀ x∈cps,X.env.scope.names.lookup x=some .cell∧scope.names.lookup x=some .free)
  (hsc:∀ x∈cps,(relabel scope X.env).names.lookup x=some .cell∨(relabel scope X.env).names.lookup x=some .free)
  (hi:PI X tg iter wi) (hg:∀ cl s3 H3 C fp pins,PG (cxF X scope cl (tgs++cps) s3 H3 C fp pins) tg g) (hq:∀ cl s3 H3 C fp pins,a2A (cxF X scope cl (tgs++cps) s3 H3 C fp pins) ifs tc) (he:∀ cl s3 H3 C fp pins,PE (cxF X scope cl (tgs++cps) s3 H3 C fp pins) elt te)
  (hs:∀ x,foldedSetIterable iter X.env x=pure x:=by intro _;rfl):PE X (.ListComp elt [⟨tg,iter,ifs,0⟩] scope pos) (a9Y tgs.length caps wi g tc te):=by
 intro pins s σ H Q I h
 rw[eval_ListComp]
 exact a6G hc hcell hkind hnames hfr hN hX hsc hi hg hq he hs I h fun D C s' H4 m4 hn4 fC hI q4=>⟨m4,hn4,fun h' hsb=>⟨.ref D,H4,hI h' hsb,rfl,q4⟩⟩
noncomputable def PU(X:Cx)(i:Nat)(x:Str)(pos':Pos)(e:Expr)(te:TE):Prop:=∀(pins:List (Addr × Obj)) (s:Shared) (σ:St) (H:Hp) (Q:VK),Inv X pins σ H s→te σ H Q →
 wpAny (model X.prog X.w) X.A (evalThenUse e X.env (assign (.Name x pos') X.env)) (fun _ s'=>∃ v H',Inv X pins (σ.set i (some v)) H' s'∧Q v H') X.xe s
theorem PU.imp{X:Cx}{i:Nat}{x:Str}{pos':Pos}{e:Expr}{t t':TE}(h:PU X i x pos' e t)(f:∀ σ H Q,t' σ H Q→t σ H Q):PU X i x pos' e t':=fun pins s σ H Q I q=>h pins s σ H Q I (f σ H Q q)
theorem b1X{i:Nat}{x:Str}{pos' pos:Pos}{e:Expr}{te:TE}(h:PU X i x pos' e te)(hs:swapsWith e (some (.Name x pos')) pos.line X.env=pure true):PS X (.Assign [.Name x pos'] e pos) (c06 te (b6r i)):=by
 intro pins s σ H D I q
 rw[exec_Assign_Name_used _ _ _ _ hs]
 refine c8T (wpAny_standAt (c8T (thn (h pins s σ H _ I q) fun _ s1 ⟨v,H1,I1,q1⟩=>c84 ?_)))
 exact⟨_,H1,I1,q1⟩
theorem a87(hc:X.calm=true)(hcell:∀ x∈scope.names,x.2 ≠ .cell)(hkind:scope.kind = .function)(hnames:∀ x∈scope.names,x.2 = .local→scope.names.lookup x.1=some .local)
  (hfr:∀ x∈scope.names,x.2 = .free→x.1∈cps) (hN:caps.map (fun i=>X.N[i]?)=cps.map some) (hX:∀ x∈cps,X.env.scope.names.lookup x=some .cell∧scope.names.lookup x=some .free)
  (hsc:∀ x∈cps,(relabel scope X.env).names.lookup x=some .cell∨(relabel scope X.env).names.lookup x=some .free)
  (hi:PI X tg iter wi) (hg:∀ cl s3 H3 C fp pins,PG (cxF X scope cl (tgs++cps) s3 H3 C fp pins) tg g) (hq:∀ cl s3 H3 C fp pins,a2A (cxF X scope cl (tgs++cps) s3 H3 C fp pins) ifs tc) (he:∀ cl s3 H3 C fp pins,PE (cxF X scope cl (tgs++cps) s3 H3 C fp pins) elt te)
  {i:Nat} {x:Str} {pos':Pos} (hNd:X.N.Nodup) (hxi:X.N[i]? = some x) (hx:Loc X.env.scope x) (hf:X.fn x=true∨X.env.scope.names.lookup x=some .local)
  (hs:∀ x,foldedSetIterable iter X.env x=pure x:=by intro _;rfl):PU X i x pos' (.ListComp elt [⟨tg,iter,ifs,0⟩] scope pos) (a9Y tgs.length caps wi g tc te):=by
 intro pins s σ H Q I h
 refine c8T (thn (a6G (use:=some (assign (.Name x pos') X.env)) (Qf:=fun _ s'=>∃ v H',Inv X pins (σ.set i (some v)) H' s'∧Q v H') hc hcell hkind hnames hfr hN hX hsc hi hg hq he hs I h fun D C s' H4 m4 hn4 fC hI q4=>?_) fun _ s1 z=>c84 z)
 have I4:Inv X pins σ H4 s':=hI s'.heap (Heap.SameBut.refl _ _)
 show wpAny _ _ (assign (.Name x pos') X.env (.ref D)) _ _ s'
 refine wpAny_assign_Name (a6k (v:=.ref D) I4 hNd hxi hx rfl (fun s2 I2 ⟨a,hsb,ha⟩=>?_) hf)
 have hac:C≠a:=by
  rcases ha with ha|ha
  ·rw[ha];exact fC.2.1
  ·exact Ne.symm (fC.2.2.2.2.1 x a ha)
 refine⟨m4,hn4.sameBut hsb hac,fun h' hs'=>⟨.ref D,H4,?_,q4⟩⟩
 exact I2.turned (t':=s2.toks) (fun b o hb e=>hs'.extBut b o hb e) fC.1 fC.2.1 fC.2.2.2.1 fC.2.2.2.2.1 fC.2.2.2.2.2
end
end L2
namespace L2
open PySem
noncomputable def SI:Bool→Heap→Addr→Addr→Nat→Prop
 | true,h,it,a,i=>h.IsListIter it a i
 | false,h,it,a,i=>h.IsTupleIter it a i
noncomputable def SS:Bool→Heap→Addr→Array Value→Prop
 | true,h,a,xs=>h.IsList a xs
 | false,h,a,xs=>h.IsTuple a xs
theorem SI.at{k:Bool}{h h':Heap}{it a:Addr}{i:Nat}(x:SI k h it a i)(f:∀ o,h.get? it=some o→h'.get? it=some o):SI k h' it a i:=by
 cases k<;>(obtain⟨o,e,r⟩:=x;exact⟨o,f o e,r⟩)
theorem SS.at{k:Bool}{h h':Heap}{a:Addr}{xs:Array Value}(x:SS k h a xs)(f:∀ o,h.get? a=some o→h'.get? a=some o):SS k h' a xs:=by
 cases k<;>(obtain⟨o,e,r⟩:=x;exact⟨o,f o e,r⟩)
theorem SI.obj{k:Bool}{h:Heap}{it a:Addr}{i:Nat}(x:SI k h it a i):∃ o,h.get? it=some o∧∀ v,o.data ≠ .cell v:=by
 cases k<;>(obtain⟨o,e,c,d⟩:=x;exact⟨o,e,fun v z=>by rw[d]at z;cases z⟩)
theorem SS.obj{k:Bool}{h:Heap}{a:Addr}{xs:Array Value}(x:SS k h a xs):∃ o,h.get? a=some o:=by
 cases k<;>(obtain⟨o,e,_⟩:=x;exact⟨o,e⟩)
section
variable {prog:Program} {w:World} {A:Around} {E:Value→Shared→Prop} {s:Shared}
theorem b2R{p t:Addr}{n:Nat}{xs:Array Value}{v:Value}{Q:Value→Shared→Prop}(hp:s.heap.IsTupleIter p t n)(ht:s.heap.IsTuple t xs)(hv:xs[n]? = some v)
  (q:∀ h',h'.IsTupleIter p t (n+1)→Heap.SameBut p s.heap h'→Q v { s with heap:=h' }):wpAny (model prog w) A (Builtin.SmallTypes.nextOf (.ref p)) Q E s:=by
 obtain⟨ob,e1,e2,e3⟩:=id hp
 obtain⟨ot,f1,_,cap,f2⟩:=ht
 unfold Builtin.SmallTypes.nextOf
 refine c8T (wpAny_callSpecial?_slot (name:=Str.ofString "__next__") hp.typeIs F.slot_tuple_iterator_next (wpAny_call_entry F.slot_tuple_iterator_next hp.typeIs F.entry_tuple_iterator_next ?_ (F.args_tuple_iterator_next_1 _)))
 show wpAny _ _ (field (.ref p) 0 >>= _) _ _ s
 refine c8T (wpAny_field e1 e3 (x:=.ref t) rfl ?_)
 show wpAny _ _ (if (Value.ref t == Value.none)=true then _ else _) _ _ s
 rw[if_neg (fun z:(Value.ref t == Value.none)=true=>nomatch z)]
 show wpAny _ _ (field (.ref p) 1 >>= _) _ _ s
 refine c8T (wpAny_field e1 e3 (x:=.int n 0) rfl ?_)
 show wpAny _ _ (seqItems? (.ref t) >>= _) _ _ s
 refine c8T (wpAny_seqItems f1 f2 ?_)
 simp only[c9X,hv]
 refine c8T (wpAny_setField e1 e3 (by simp) (c84 ⟨v,rfl,c84 (q _ ⟨_,c9E _ e1 (Obj.isFreed_of_fields (Obj.data_mapFields e3 _)),(Obj.cls_mapFields ..).trans e2,?_⟩ (Heap.SameBut.update ..))⟩))
 rw[Obj.data_mapFields e3];simp[rawInt]
theorem b4O{p t:Addr}{n:Nat}{xs:Array Value}{Q:Value→Shared→Prop}(hA:A.handled=none)(hp:s.heap.IsTupleIter p t n)(ht:s.heap.IsTuple t xs)(hv:xs[n]? = none)
  (q:∀ h' e,Heap.ExtBut p s.heap h'→(∃ o,h'.get? e=some o∧o.cls = .type "StopIteration")→E (.ref e) { s with heap:=h' }):wpAny (model prog w) A (Builtin.SmallTypes.nextOf (.ref p)) Q E s:=by
 obtain⟨ob,e1,e2,e3⟩:=id hp
 obtain⟨ot,f1,_,cap,f2⟩:=ht
 unfold Builtin.SmallTypes.nextOf
 refine c8T (wpAny_callSpecial?_slot (name:=Str.ofString "__next__") hp.typeIs F.slot_tuple_iterator_next (wpAny_call_entry F.slot_tuple_iterator_next hp.typeIs F.entry_tuple_iterator_next ?_ (F.args_tuple_iterator_next_1 _)))
 show wpAny _ _ (field (.ref p) 0 >>= _) _ _ s
 refine c8T (wpAny_field e1 e3 (x:=.ref t) rfl ?_)
 show wpAny _ _ (if (Value.ref t == Value.none)=true then _ else _) _ _ s
 rw[if_neg (fun z:(Value.ref t == Value.none)=true=>nomatch z)]
 show wpAny _ _ (field (.ref p) 1 >>= _) _ _ s
 refine c8T (wpAny_field e1 e3 (x:=.int n 0) rfl ?_)
 show wpAny _ _ (seqItems? (.ref t) >>= _) _ _ s
 refine c8T (wpAny_seqItems f1 f2 ?_)
 simp only[c9X,hv]
 refine c8T (wpAny_rule (c8T (wpAny_setField e1 e3 (by simp) ?_)))
 show wpAny _ _ (newExc (.type "StopIteration") [] >>= _) _ _ _
 refine c8T ?_;simp only[newExc,newTuple]
 refine c8T (wpAny_newObj_type ?_ (by size_fits));refine c8T (m:=firstArgMember _ _) (wpAny_of_eq (a:=Value.none) (by first|rfl|(simp only[firstArgMember];rfl)) ?_)
 refine wpAny_newObj_type ?_ (by size_fits);simp only[raiseNew];refine c8T (wpAny_handled ?_)
 first|rw[show A.in1.handled=none from hA]|rw[hA]
 refine c8T (c84 (wpAny_throw (q _ _ (((Heap.SameBut.update ..).extBut.push _).push _) ⟨_,c86 _ rfl,rfl⟩)))
theorem a24{k:Bool}{p a:Addr}{n:Nat}{xs:Array Value}{v:Value}{Q:Value→Shared→Prop}(hp:SI k s.heap p a n)(ha:SS k s.heap a xs)(hv:xs[n]? = some v)
  (q:∀ h',SI k h' p a (n+1)→Heap.SameBut p s.heap h'→Q v { s with heap:=h' }):wpAny (model prog w) A (Builtin.SmallTypes.nextOf (.ref p)) Q E s:=by
 cases k with
 | true=>exact wpAny_nextOf_list_item hp ha hv q
 | false=>exact b2R hp ha hv q
theorem a95{k:Bool}{p a:Addr}{n:Nat}{xs:Array Value}{Q:Value→Shared→Prop}(hA:A.handled=none)(hp:SI k s.heap p a n)(ha:SS k s.heap a xs)(hv:xs[n]? = none)
  (q:∀ h' e,Heap.ExtBut p s.heap h'→(∃ o,h'.get? e=some o∧o.cls = .type "StopIteration")→E (.ref e) { s with heap:=h' }):wpAny (model prog w) A (Builtin.SmallTypes.nextOf (.ref p)) Q E s:=by
 cases k with
 | true=>exact wpAny_nextOf_list_end hA hp ha hv q
 | false=>exact b4O hA hp ha hv q
theorem SI.but{k:Bool}{h h':Heap}{it a b:Addr}{i:Nat}(x:SI k h it a i)(e:Heap.ExtBut b h h')(n:it≠b):SI k h' it a i:=x.at fun o z=>e it o n z
theorem SS.but{k:Bool}{h h':Heap}{a b:Addr}{xs:Array Value}(x:SS k h a xs)(e:Heap.ExtBut b h h')(n:a≠b):SS k h' a xs:=x.at fun o z=>e a o n z
theorem b7k{z TI TO p1 p2 l1 l2:Addr}{c1 c2:Bool}{n1 n2:Nat}{xs ys:Array Value}{v1 v2 u1 u2:Value}{Q:Option Value→Shared→Prop}(D:ZipApart z TI TO p1 p2 l1 l2)
  (iz:IsZip s.heap z TI TO .none) (iI:IsPair s.heap TI (.ref p1) (.ref p2)) (iO:IsPair s.heap TO u1 u2) (g1:SI c1 s.heap p1 l1 n1) (g2:SI c2 s.heap p2 l2 n2) (m1:SS c1 s.heap l1 xs) (m2:SS c2 s.heap l2 ys) (w1:xs[n1]? = some v1) (w2:ys[n2]? = some v2)
  (q:∀ h',IsZip h' z TI TO (rawInt s.heap.objs.size)→IsPair h' TO v1 v2→SI c1 h' p1 l1 (n1+1)→SI c2 h' p2 l2 (n2+1)→IsPair h' s.heap.objs.size v1 v2→h'.objs.size=s.heap.objs.size+1 →
   (∀ b o,b≠z→b≠TO→b≠p1→b≠p2→s.heap.get? b=some o→h'.get? b=some o)→Q (some (.ref s.heap.objs.size)) { s with heap:=h' }):wpAny (model prog w) A (pyNext (.ref z)) Q E s:=by
 have ty:s.TypeIs (.ref z) "zip" := ⟨_,iz,rfl⟩
 unfold pyNext
 refine c8T (wpAny_attempt (wpAny_callSpecial?_slot (name:=Str.ofString "__next__") ty F.slot_zip_next (wpAny_call_entry F.slot_zip_next ty F.entry_zip_next ?_ (F.args_zip_next_1 _))))
 show wpAny _ _ (field (.ref z) 2 >>= _) _ _ _
 refine c8T (wpAny_field iz rfl (x:=.bool false) rfl ?_)
 show wpAny _ _ (field (.ref z) 3 >>= _) _ _ _
 refine c8T (wpAny_field iz rfl (x:=.ref TI) rfl (c8T (wpAny_seqItems iI rfl ?_)))
 show wpAny _ _ (Builtin.SmallTypes.ownedTupleIsFree (.ref z) >>= _) _ _ _
 refine c8T ?_;unfold Builtin.SmallTypes.ownedTupleIsFree
 refine c8T (wpAny_field iz rfl (x:=.none) rfl (c84 ?_));simp only[if_true]
 refine c8T (wpAny_rule (c8T (wpAny_field iz rfl (x:=.ref TO) rfl (c8T (wpAny_setField_rec iz (by simp) fun ha za sa=>?_)))))
 replace za:IsZip ha z TI TO .ellipsis:=za
 refine c8T ?_;simp only[d2g,List.zipIdx_nil,d1z,List.forIn_nil]
 refine c8T (c8T (wpAny_onRaise ?_))
 show wpAny _ _ (Builtin.SmallTypes.nextOf (.ref p1) >>= _) _ _ _
 refine c8T (a24 (g1.but sa.extBut D.i1z) (m1.but sa.extBut D.l1z) w1 fun hb gb sb=>c84 ?_)
 have oB:IsPair hb TO u1 u2:=sb.extBut _ _ D.TOi1 (sa.extBut _ _ D.TOz iO)
 refine c8T (wpAny_seqItems oB rfl (c8T (wpAny_updateSeq_pair oB fun hc oC sc=>?_)))
 replace oC:IsPair hc TO v1 u2:=oC
 refine c8T (wpAny_letGo (c84 (c8T (c8T (wpAny_onRaise ?_)))))
 show wpAny _ _ (Builtin.SmallTypes.nextOf (.ref p2) >>= _) _ _ _
 refine c8T (a24 (((g2.but sa.extBut D.i2z).but sb.extBut D.i12.symm).but sc.extBut D.TOi2.symm) (((m2.but sa.extBut D.l2z).but sb.extBut D.l2i1).but sc.extBut D.l2TO) w2 fun hd gd sd=>c84 ?_)
 have oD:IsPair hd TO v1 u2:=sd.extBut _ _ D.TOi2 oC
 refine c8T (wpAny_seqItems oD rfl (c8T (wpAny_updateSeq_pair oD fun he oE se=>?_)))
 replace oE:IsPair he TO v1 v2:=oE
 refine c8T (wpAny_letGo (c84 (c84 (c8T (wpAny_seqItems oE rfl (c8T (wpAny_newTuple ?_)))))))
 have zs:he.objs.size=s.heap.objs.size:=by rw[se.1,sd.1,sc.1,sb.1,sa.1]
 have zE:IsZip he z TI TO .ellipsis:=se.extBut _ _ D.TOz.symm (sd.extBut _ _ D.i2z.symm (sc.extBut _ _ D.TOz.symm (sb.extBut _ _ D.i1z.symm za)))
 have kE:∀ b o,b≠z→b≠TO→b≠p1→b≠p2→s.heap.get? b=some o→he.get? b=some o:=fun b o b1 b2 b3 b4 e=>se.extBut _ _ b2 (sd.extBut _ _ b4 (sc.extBut _ _ b2 (sb.extBut _ _ b3 (sa.extBut _ _ b1 e))))
 have gE1:SI c1 he p1 l1 (n1+1):=((gb.but sc.extBut D.TOi1.symm).but sd.extBut D.i12).but se.extBut D.TOi1.symm
 have gE2:SI c2 he p2 l2 (n2+1):=gd.but se.extBut D.TOi2.symm
 have ltz:z<he.objs.size:=c89 zE
 show wpAny _ _ (Builtin.SmallTypes.ownedTupleHandOut (.ref z) (.ref he.objs.size) >>= _) _ _ _
 refine c8T ?_;unfold Builtin.SmallTypes.ownedTupleHandOut
 refine c8T (wpAny_setField_rec (c8X _ zE) (by simp) fun hf zf sf=>?_)
 replace zf:IsZip hf z TI TO (rawInt he.objs.size):=zf
 refine wpAny_setField_rec zf (by simp) fun hg zg sg=>?_
 replace zg:IsZip hg z TI TO (rawInt he.objs.size):=zg
 have lift:∀ b o,b≠z→he.get? b=some o→hg.get? b=some o:=fun b o b1 e=>sg.extBut _ _ b1 (sf.extBut _ _ b1 (c8X _ e))
 have tG:IsPair hg he.objs.size v1 v2:=sg.extBut _ _ (c92 ltz) (sf.extBut _ _ (c92 ltz) (c86 _ rfl))
 have zz:hg.objs.size=he.objs.size+1:=by rw[sg.1,sf.1,c9V]
 rw[zs]at zg tG zz
 refine c84 ⟨_,rfl,c84 ?_⟩
 show Q (some (.ref he.objs.size)) _
 rw[zs]
 exact q hg zg (lift _ _ D.TOz oE) (gE1.at fun o e=>lift _ o D.i1z e) (gE2.at fun o e=>lift _ o D.i2z e) tG zz fun b o b1 b2 b3 b4 e=>lift b o b1 (kE b o b1 b2 b3 b4 e)
theorem c0T{z TI TO p1 p2 l1 l2:Addr}{c1 c2:Bool}{n1 n2:Nat}{xs ys:Array Value}{u1 u2:Value}{Q:Option Value→Shared→Prop}(hA:A.handled=none)(D:ZipApart z TI TO p1 p2 l1 l2)
  (iz:IsZip s.heap z TI TO .none) (iI:IsPair s.heap TI (.ref p1) (.ref p2)) (iO:IsPair s.heap TO u1 u2) (g1:SI c1 s.heap p1 l1 n1) (g2:SI c2 s.heap p2 l2 n2) (m1:SS c1 s.heap l1 xs) (m2:SS c2 s.heap l2 ys) (fin:xs[n1]? = none∨ys[n2]? = none)
  (q:∀ h',(∀ b o,b≠z→b≠TO→b≠p1→b≠p2→s.heap.get? b=some o→h'.get? b=some o)→Q none { s with heap:=h' }):wpAny (model prog w) A (pyNext (.ref z)) Q E s:=by
 have ty:s.TypeIs (.ref z) "zip" := ⟨_,iz,rfl⟩
 unfold pyNext
 have out:∀(h':Heap) (e:Addr),(∀ b o,b≠z→b≠TO→b≠p1→b≠p2→s.heap.get? b=some o→h'.get? b=some o)→(∃ o,h'.get? e=some o∧o.cls = .type "StopIteration") →
   wpAny (model prog w) A (do if ← isInstance (.ref e) (.type "StopIteration")then pure none else throw (.ref e):Sem (Option Value)) Q E { s with heap:=h' }:=fun h' e k ⟨o,e1,e2⟩ =>
  c8T (wpAny_isInstance (T := "StopIteration") (b:=true) ⟨o,e1,e2⟩ isSubtype_stop (c84 (q h' k)))
 refine c8T (wpAny_attempt (wpAny_callSpecial?_slot (name:=Str.ofString "__next__") ty F.slot_zip_next (wpAny_call_entry F.slot_zip_next ty F.entry_zip_next ?_ (F.args_zip_next_1 _))))
 show wpAny _ _ (field (.ref z) 2 >>= _) _ _ _
 refine c8T (wpAny_field iz rfl (x:=.bool false) rfl ?_)
 show wpAny _ _ (field (.ref z) 3 >>= _) _ _ _
 refine c8T (wpAny_field iz rfl (x:=.ref TI) rfl (c8T (wpAny_seqItems iI rfl ?_)))
 show wpAny _ _ (Builtin.SmallTypes.ownedTupleIsFree (.ref z) >>= _) _ _ _
 refine c8T ?_;unfold Builtin.SmallTypes.ownedTupleIsFree
 refine c8T (wpAny_field iz rfl (x:=.none) rfl (c84 ?_));simp only[if_true]
 refine c8T (wpAny_rule (c8T (wpAny_field iz rfl (x:=.ref TO) rfl (c8T (wpAny_setField_rec iz (by simp) fun ha za sa=>?_)))))
 replace za:IsZip ha z TI TO .ellipsis:=za
 refine c8T ?_;simp only[d2g,List.zipIdx_nil,d1z,List.forIn_nil]
 refine c8T (c8T (wpAny_onRaise ?_))
 show wpAny _ _ (Builtin.SmallTypes.nextOf (.ref p1) >>= _) _ _ _
 cases w1:xs[n1]? with
 | none =>
  refine c8T (a95 hA (g1.but sa.extBut D.i1z) (m1.but sa.extBut D.l1z) w1 fun hb e sb zz=>?_)
  obtain⟨oe,oe1,oe2⟩:=zz
  have zb:IsZip hb z TI TO .ellipsis:=sb _ _ D.i1z.symm za
  have nz:e≠z:=fun y=>by subst y;rw[zb]at oe1;cases oe1;simp at oe2
  refine wpAny_setField_rec zb (by simp) fun hc _ sc=>out hc e (fun b o b1 _ b3 _ y=>sc.extBut _ _ b1 (sb _ _ b3 (sa.extBut _ _ b1 y))) ⟨oe,sc.extBut _ _ nz oe1,oe2⟩
 | some v1 =>
  have w2:ys[n2]? = none:=fin.resolve_left (by rw[w1];exact fun y=>nomatch y)
  refine c8T (a24 (g1.but sa.extBut D.i1z) (m1.but sa.extBut D.l1z) w1 fun hb gb sb=>c84 ?_)
  have oB:IsPair hb TO u1 u2:=sb.extBut _ _ D.TOi1 (sa.extBut _ _ D.TOz iO)
  refine c8T (wpAny_seqItems oB rfl (c8T (wpAny_updateSeq_pair oB fun hc oC sc=>?_)))
  refine c8T (wpAny_letGo (c84 (c8T (c8T (wpAny_onRaise ?_)))))
  show wpAny _ _ (Builtin.SmallTypes.nextOf (.ref p2) >>= _) _ _ _
  refine c8T (a95 hA (((g2.but sa.extBut D.i2z).but sb.extBut D.i12.symm).but sc.extBut D.TOi2.symm) (((m2.but sa.extBut D.l2z).but sb.extBut D.l2i1).but sc.extBut D.l2TO) w2 fun hd e sd zz=>?_)
  obtain⟨oe,oe1,oe2⟩:=zz
  have zd:IsZip hd z TI TO .ellipsis:=sd _ _ D.i2z.symm (sc.extBut _ _ D.TOz.symm (sb.extBut _ _ D.i1z.symm za))
  have nz:e≠z:=fun y=>by subst y;rw[zd]at oe1;cases oe1;simp at oe2
  refine wpAny_setField_rec zd (by simp) fun he _ se=>out he e (fun b o b1 b2 b3 b4 y=>se.extBut _ _ b1 (sd _ _ b4 (sc.extBut _ _ b2 (sb.extBut _ _ b3 (sa.extBut _ _ b1 y))))) ⟨oe,se.extBut _ _ nz oe1,oe2⟩
end
noncomputable abbrev itO(k:Bool)(a:Addr):Obj:={ cls:=.type (if k then "list_iterator" else "tuple_iterator"),data:=.fields #[.ref a,.int 0 0] }
noncomputable abbrev zA(k1:Bool)(h:Heap)(l1:Addr):Heap:=h.push (itO k1 l1)
noncomputable abbrev zB(k1 k2:Bool)(h:Heap)(l1 l2:Addr):Heap:=(zA k1 h l1).push (itO k2 l2)
noncomputable abbrev zC(k1 k2:Bool)(h:Heap)(l1 l2:Addr):Heap:=(zB k1 k2 h l1 l2).push { cls:=.type "tuple",data:=.seq #[.ref h.objs.size,.ref (zA k1 h l1).objs.size] }
noncomputable abbrev zD(k1 k2:Bool)(h:Heap)(l1 l2:Addr):Heap:=(zC k1 k2 h l1 l2).push { cls:=.type "tuple",data:=.seq #[.none,.none] }
noncomputable abbrev zE(k1 k2:Bool)(h:Heap)(l1 l2:Addr):Heap:=(zD k1 k2 h l1 l2).push { cls:=.type "zip",data:=.fields #[.none,.bool false,.bool false,.ref (zB k1 k2 h l1 l2).objs.size,.ref (zC k1 k2 h l1 l2).objs.size] }
set_option maxHeartbeats 2000000 in
theorem c0S(k1 k2:Bool)(l1 l2:Addr)(xs ys:Array Value) :
  Meets (Builtin.«zip.__new__» ⟨[.type "zip",.ref l1,.ref l2],[]⟩) (fun _ R s=>SS k1 s.heap l1 xs∧SS k2 s.heap l2 ys∧R (.ok (.ret (.ref (zD k1 k2 s.heap l1 l2).objs.size))) { s with heap:=zE k1 k2 s.heap l1 l2 }) :=
 .of_wp fun prog w A R s h=>by
  obtain⟨hp,g,d,tk,os⟩:=s
  obtain⟨ha,hb,h⟩:=h
  have hsub:=sub_zip
  cases k1 with
  | true =>
   have a1:Heap.IsList (Shared.heap ⟨hp,g,d,tk,os⟩) l1 xs:=ha
   cases k2 with
   | true =>
    have a2:Heap.IsList (Shared.heap ⟨hp.push { cls:=.type "list_iterator",data:=.fields #[.ref l1,.int 0 0] },g,d,tk,os⟩) l2 ys:=Heap.IsList.push hb _
    wp_walk using wpAny_pyIter_list a1,wpAny_pyIter_list a2
    exact⟨_,rfl,h⟩
   | false =>
    have a2:Heap.IsTuple (Shared.heap ⟨hp.push { cls:=.type "list_iterator",data:=.fields #[.ref l1,.int 0 0] },g,d,tk,os⟩) l2 ys:=Heap.IsTuple.push hb _
    wp_walk using wpAny_pyIter_list a1,wpAny_pyIter_tuple a2
    exact⟨_,rfl,h⟩
  | false =>
   have a1:Heap.IsTuple (Shared.heap ⟨hp,g,d,tk,os⟩) l1 xs:=ha
   cases k2 with
   | true =>
    have a2:Heap.IsList (Shared.heap ⟨hp.push { cls:=.type "tuple_iterator",data:=.fields #[.ref l1,.int 0 0] },g,d,tk,os⟩) l2 ys:=Heap.IsList.push hb _
    wp_walk using wpAny_pyIter_tuple a1,wpAny_pyIter_list a2
    exact⟨_,rfl,h⟩
   | false =>
    have a2:Heap.IsTuple (Shared.heap ⟨hp.push { cls:=.type "tuple_iterator",data:=.fields #[.ref l1,.int 0 0] },g,d,tk,os⟩) l2 ys:=Heap.IsTuple.push hb _
    wp_walk using wpAny_pyIter_tuple a1,wpAny_pyIter_tuple a2
    exact⟨_,rfl,h⟩
section
variable {prog:Program} {w:World} {A:Around} {E:Value→Shared→Prop} {s:Shared}
theorem b9r{k1 k2:Bool}{l1 l2:Addr}{xs ys:Array Value}{Q:Value→Shared→Prop}(ha:SS k1 s.heap l1 xs)(hb:SS k2 s.heap l2 ys)
  (q:∀ h',IsZip h' (s.heap.objs.size+4) (s.heap.objs.size+2) (s.heap.objs.size+3) .none→IsPair h' (s.heap.objs.size+2) (.ref s.heap.objs.size) (.ref (s.heap.objs.size+1))→IsPair h' (s.heap.objs.size+3) .none .none →
   SI k1 h' s.heap.objs.size l1 0→SI k2 h' (s.heap.objs.size+1) l2 0→h'.objs.size=s.heap.objs.size+5→(∀ b o,s.heap.get? b=some o→h'.get? b=some o)→Q (.ref (s.heap.objs.size+4)) { s with heap:=h' }) :
  wpAny (model prog w) A (call (.type "zip") [.ref l1,.ref l2]) Q E s:=by
 refine callType_new F.called_zip (by decide) (F.typeCall_zip_2 _ _) (F.newCall_zip_2 _ _) (fun obj=>F.args_object_init_3 obj _ _) F.entry_zip_new (c0S k1 k2 l1 l2 xs ys) ⟨ha,hb,?_⟩
 have s1:(zA k1 s.heap l1).objs.size=s.heap.objs.size+1:=c9V ..
 have s2:(zB k1 k2 s.heap l1 l2).objs.size=s.heap.objs.size+2:=(c9V ..).trans (by rw[s1])
 have s3:(zC k1 k2 s.heap l1 l2).objs.size=s.heap.objs.size+3:=(c9V ..).trans (by rw[s2])
 have s4:(zD k1 k2 s.heap l1 l2).objs.size=s.heap.objs.size+4:=(c9V ..).trans (by rw[s3])
 have s5:(zE k1 k2 s.heap l1 l2).objs.size=s.heap.objs.size+5:=(c9V ..).trans (by rw[s4])
 have o5:(zE k1 k2 s.heap l1 l2).get? (zD k1 k2 s.heap l1 l2).objs.size=some _:=c86 _ rfl
 have up1:∀ b o,(zD k1 k2 s.heap l1 l2).get? b=some o→(zE k1 k2 s.heap l1 l2).get? b=some o:=fun b o e=>c8X _ e
 have o4:(zE k1 k2 s.heap l1 l2).get? (zC k1 k2 s.heap l1 l2).objs.size=some _:=up1 _ _ (c86 _ rfl)
 have up2:∀ b o,(zC k1 k2 s.heap l1 l2).get? b=some o→(zE k1 k2 s.heap l1 l2).get? b=some o:=fun b o e=>up1 b o (c8X _ e)
 have o3:(zE k1 k2 s.heap l1 l2).get? (zB k1 k2 s.heap l1 l2).objs.size=some _:=up2 _ _ (c86 _ rfl)
 have up3:∀ b o,(zB k1 k2 s.heap l1 l2).get? b=some o→(zE k1 k2 s.heap l1 l2).get? b=some o:=fun b o e=>up2 b o (c8X _ e)
 have o2:(zE k1 k2 s.heap l1 l2).get? (zA k1 s.heap l1).objs.size=some (itO k2 l2):=up3 _ _ (c86 _ rfl)
 have up4:∀ b o,(zA k1 s.heap l1).get? b=some o→(zE k1 k2 s.heap l1 l2).get? b=some o:=fun b o e=>up3 b o (c8X _ e)
 have o1:(zE k1 k2 s.heap l1 l2).get? s.heap.objs.size=some (itO k1 l1):=up4 _ _ (c86 _ rfl)
 have mk:∀(k:Bool) (b a:Addr),(zE k1 k2 s.heap l1 l2).get? b=some (itO k a)→SI k (zE k1 k2 s.heap l1 l2) b a 0:=fun k b a e=>by cases k<;>exact⟨_,e,rfl,rfl⟩
 show _∧_
 rw[s2,s3,s4]at o5
 rw[s1,s2]at o3
 rw[s3]at o4
 rw[s1]at o2
 rw[s4]
 exact⟨⟨_,o5,rfl⟩,q _ o5 o3 o4 (mk _ _ _ o1) (mk _ _ _ o2) s5 fun b o e=>up4 b o (c8X _ e)⟩
end
end L2
namespace L2
open PySem PySem.Spec PyProof.Rows
section
variable {X:Cx} {pins:List (Addr × Obj)} {σ:St} {H:Hp} {s:Shared} {h':Heap}
theorem Inv.turnedN{t':Nat}{ch:List Addr}(I:Inv X pins σ H s)(k:∀ b o,b∉ch→s.heap.get? b=some o→h'.get? b=some o)(hf:∀ b∈ch,a1r X pins H b):Inv X pins σ H { s with heap:=h',toks:=t' }:=by
 have nit:∀ b u,H b=some u→b∉ch:=fun b u e z=>by rw[(hf b z).1]at e;cases e
 refine I.step (g':=s.gens) (d':=s.drawn) (ch:=ch) (fun b hb=>?_) (fun b o _ _ hc e _=>k b o hc e) (fun b o _ _ hc e _=>⟨o.slots,k b o hc e⟩) (fun _ _ _ _ n=>n)
  (fun b o hc e=>⟨o,k b o hc e⟩) (fun _ _ e=>e) (fun _ _ _ e=>e) (fun b ps e=>⟨#[],by rw[e];simp⟩) (fun m hm=>?_) (fun b u e=>?_) I.bare
 ·obtain⟨_,q1,_,q3,q4,q5⟩:=hf b hb
  exact⟨q3,q1,q4,q5⟩
 ·obtain⟨o,es,ep,ho,r⟩:=hm
  exact⟨o,es,ep,k _ o (fun z=>(hf _ z).2.1 rfl) ho,r⟩
 ·refine(I.hok b u e).stay (fun c v hc q=>k c v ?_ q) (fun _ q=>q) fun _ _ q=>q
  rcases hc with z|z
  ·rw[z];exact nit b u e
  ·exact nit c _ z
end
noncomputable def SqK(K:c8U)(k:Bool)(H:Hp)(a:Addr)(xs:List V):Prop:=if k=true then SqL K H a xs else SqT K H a xs
theorem Inv.sqk{X:Cx}{pins:List (Addr × Obj)}{σ:St}{H:Hp}{s:Shared}(I:Inv X pins σ H s){k:Bool}{a:Addr}{xs:List V}(h:SqK X.K k H a xs):∃ its:List Value,q9 xs its∧SS k s.heap a its.toArray:=by
 cases k with
 | true =>
  obtain⟨its,r,p,_⟩:=I.list (show SqL X.K H a xs from h)
  exact⟨its,r,p.isList⟩
 | false =>
  obtain⟨its,r,p,_⟩:=I.tuple (show SqT X.K H a xs from h)
  exact⟨its,r,p⟩
theorem Inv.sqk_inj{X:Cx}{pins:List (Addr × Obj)}{σ:St}{H:Hp}{s:Shared}(I:Inv X pins σ H s){k:Bool}{a:Addr}{xs ys:List V}(h:SqK X.K k H a xs)(h2:SqK X.K k H a ys):xs=ys:=by
 cases k with
 | true=>exact I.list_inj (show SqL X.K H a xs from h) (show SqL X.K H a ys from h2)
 | false=>exact I.tuple_inj (show SqT X.K H a xs from h) (show SqT X.K H a ys from h2)
noncomputable def Itz(K:c8U)(k1 k2:Bool)(l1 l2:Addr):It :=
 ⟨fun i H=>∃ xs ys x y,SqK K k1 H l1 xs∧SqK K k2 H l2 ys∧xs[i]? = some x∧ys[i]? = some y,
  fun i H v H'=>∃ T x y,H T=none∧v = .ref T∧H'=upd H T (.tup [x,y])∧(∀ xs,SqK K k1 H l1 xs→xs[i]? = some x)∧∀ ys,SqK K k2 H l2 ys→ys[i]? = some y,
  fun i H=>∃ xs ys,SqK K k1 H l1 xs∧SqK K k2 H l2 ys∧(xs.length≤i∨ys.length≤i)⟩
noncomputable def c4U(k1 k2:Bool)(z TI TO p1 p2 l1 l2:Addr)(i:Nat)(h:Heap):Prop:=IsZip h z TI TO .none∧IsPair h TI (.ref p1) (.ref p2)∧(∃ a b,IsPair h TO a b)∧SI k1 h p1 l1 i∧SI k2 h p2 l2 i
theorem b4N{P:Program}{w:World}{K:c8U}{elts:List Expr}{kx:Nat}{tp:Pos}{k1 k2:Bool}{z TI TO p1 p2 l1 l2:Addr}(D:ZipApart z TI TO p1 p2 l1 l2) :
  a73 P w K (.Tuple elts kx tp) (Itz K k1 k2 l1 l2) [z,TI,TO,p1,p2] z (c4U k1 k2 z TI TO p1 p2 l1 l2) where
 mem:=by simp
 obj:=fun i h ⟨iz,iI,⟨a,b,iO⟩,g1,g2⟩ c hc=>by
  simp only[c9l,c9u,or_false]at hc
  rcases hc with rfl|rfl|rfl|rfl|rfl
  ·exact⟨_,iz,fun v e=>by cases e⟩
  ·exact⟨_,iI,fun v e=>by cases e⟩
  ·exact⟨_,iO,fun v e=>by cases e⟩
  ·exact g1.obj
  ·exact g2.obj
 keep:=fun i h h' ⟨iz,iI,⟨a,b,iO⟩,g1,g2⟩ k=>⟨k z (by simp) _ iz,k TI (by simp) _ iI,⟨a,b,k TO (by simp) _ iO⟩,g1.at fun o e=>k p1 (by simp) o e,g2.at fun o e=>k p2 (by simp) o e⟩
 item:=by
  intro X hP hw hK hc i pins s σ H E I hf st hg
  subst hP hw hK
  obtain⟨iz,iI,⟨a,b,iO⟩,g1,g2⟩:=st
  obtain⟨xs,ys,x,y,q1,q2,hx,hy⟩:=hg
  obtain⟨is1,r1,m1⟩:=I.sqk q1
  obtain⟨is2,r2,m2⟩:=I.sqk q2
  obtain⟨u1,hu1,ru1⟩:=r1.get hx
  obtain⟨u2,hu2,ru2⟩:=r2.get hy
  refine b7k D iz iI iO g1 g2 m1 m2 (v1:=u1) (v2:=u2) (by simpa using hu1) (by simpa using hu2) fun h' a1 a2 a3 a4 a5 a6 kk=>?_
  refine⟨_,rfl,?_⟩
  refine wpAny_letOwnedTupleGo_zip (s:={ s with heap:=h' }) a1 fun h2 b1 b2=>?_
  have lt:∀{c o},s.heap.get? c=some o→c≠s.heap.objs.size:=fun e=>c9y (c89 e)
  have nz:s.heap.objs.size≠z:=Ne.symm (lt iz)
  have I1:Inv X pins σ (upd H s.heap.objs.size (.tup [x,y])) { s with heap:=s.heap.push { cls:=.type "tuple",data:=.seq #[u1,u2] },toks:=s.toks } :=
   I.laid (o:=.tup [x,y]) (fun b ob q=>c8X _ q) (c9b _) ⟨(show 2≤sizeLine by decide),[u1,u2],.cons ru1 (.cons ru2 .nil),IsTup.new _ _⟩
  have nfp:∀ c∈[z,TI,TO,p1,p2],c≠s.heap.objs.size:=fun c hc=>by
   simp only[c9l,c9u,or_false]at hc
   rcases hc with rfl|rfl|rfl|rfl|rfl
   ·exact lt iz
   ·exact lt iI
   ·exact lt iO
   ·obtain⟨o,e,_⟩:=g1.obj;exact lt e
   ·obtain⟨o,e,_⟩:=g2.obj;exact lt e
  have hf':∀ c∈[z,TI,TO,p1,p2],a1r X pins (upd H s.heap.objs.size (.tup [x,y])) c:=fun c hc=>by
   obtain⟨f0,f1⟩:=hf c hc
   exact⟨by rw[j8 (nfp c hc)];exact f0,f1⟩
  have I2:Inv X pins σ (upd H s.heap.objs.size (.tup [x,y])) { s with heap:=h2,toks:=s.toks }:=by
   refine Inv.turnedN (s:={ s with heap:=s.heap.push { cls:=.type "tuple",data:=.seq #[u1,u2] },toks:=s.toks }) (t':=s.toks) (h':=h2) (ch:=[z,TI,TO,p1,p2]) I1 (fun c o hcn e=>?_) hf'
   simp only[c9l,c9u,or_false,not_or]at hcn
   obtain⟨n1,n2,n3,n4,n5⟩:=hcn
   refine b2.extBut c o n1 ?_
   by_cases hcs:c=s.heap.objs.size
   ·subst hcs
    have e':(s.heap.push { cls:=.type "tuple",data:=.seq #[u1,u2] }).get? s.heap.objs.size=some o:=e
    rw[c86 _ rfl]at e'
    cases e'
    exact a5
   ·have e':(s.heap.push { cls:=.type "tuple",data:=.seq #[u1,u2] }).get? c=some o:=e
    have hlt:c<s.heap.objs.size:=by
     have:=c89 e'
     rw[c9V]at this
     exact Nat.lt_of_le_of_ne (d13 this) hcs
    have hold:s.heap.get? c=some o:=by
     have:∃ o',s.heap.get? c=some o':=by
      cases q:s.heap.get? c with
      | some o'=>exact⟨o',rfl⟩
      | none=>exact absurd e' (by rw[d14 _ _ _ hcs];rw[q];exact fun z=>nomatch z)
     obtain⟨o',ho'⟩:=this
     have:=c8X { cls:=.type "tuple",data:=.seq #[u1,u2] } ho'
     rw[e']at this
     cases this;exact ho'
    exact kk c o n1 n3 n4 n5 hold
  refine⟨.ref s.heap.objs.size,_,I2,rfl,⟨_,x,y,I.hok.fresh (c9b _),rfl,rfl,fun zs hz=>by rw[I.sqk_inj hz q1];exact hx,fun zs hz=>by rw[I.sqk_inj hz q2];exact hy⟩,?_,fun c hc=>(hf' c hc).1⟩
  have lift:∀ c o,c≠z→h'.get? c=some o→h2.get? c=some o:=fun c o n e=>b2.extBut c o n e
  exact⟨b1,lift _ _ D.TIz (kk _ _ D.TIz D.TITO D.TIi1 D.TIi2 iI),⟨_,_,lift _ _ D.TOz a2⟩,a3.at fun o e=>lift _ o D.i1z e,a4.at fun o e=>lift _ o D.i2z e⟩
 done:=by
  intro X hP hw hK hc i pins s σ H E I hf st hg
  subst hP hw hK
  obtain⟨iz,iI,⟨a,b,iO⟩,g1,g2⟩:=st
  obtain⟨xs,ys,q1,q2,hx⟩:=hg
  obtain⟨is1,r1,m1⟩:=I.sqk q1
  obtain⟨is2,r2,m2⟩:=I.sqk q2
  have e1:=r1.length
  have e2:=r2.length
  refine c0T (I.ok.hd hc) D iz iI iO g1 g2 m1 m2 (hx.elim (fun h=>.inl (by simp;omega)) fun h=>.inr (by simp;omega)) fun h' kk=>⟨rfl,?_⟩
  refine I.turnedN (t':=s.toks) (ch:=[z,TI,TO,p1,p2]) (fun c o hcn e=>?_) hf
  simp only[c9l,c9u,or_false,not_or]at hcn
  obtain⟨n1,n2,n3,n4,n5⟩:=hcn
  exact kk c o n1 n3 n4 n5 e
 self:=fun _ _ _ _ _ st h=>wpAny_pyIter_zip st.1 h
noncomputable def c5F(K:c8U)(ta:TA):TI:=fun σ H R=>ta σ H fun vs H1=>∃ k1 k2 l1 l2,vs=[.ref l1,.ref l2]∧(∃ xs,SqK K k1 H1 l1 xs)∧(∃ ys,SqK K k2 H1 l2 ys)∧R (Itz K k1 k2 l1 l2) H1
theorem c1y{X:Cx}{elts:List Expr}{kx:Nat}{tp:Pos}{a b:Expr}{ta:TA}{p pos:Pos}(hg:Gl X "zip")(hm:X.mg "zip" = none)(ha:PA X [a,b] ta)
  (hs:starEach [a,b] X.env=[(false,eval a X.env),(false,eval b X.env)]:=by rfl) (hs2:starEach [b] X.env=[(false,eval b X.env)]:=by rfl):PI X (.Tuple elts kx tp) (.Call (.Name "zip" p) [a,b] [] pos) (c5F X.K ta):=by
 intro pins s σ H R I h
 refine Call_ (O1 I hg hm PyProof.Rows.boot_zip (PyProof.Rows.callWith_type1 (thn (ha pos pins s σ H _ I h) fun us s1 ⟨vs,H1,I1,r1,q1⟩=>?_) (by rw[hs,hs2]) (by rw[hs2];rfl)))
 obtain⟨k1,k2,l1,l2,e,⟨xs,q2⟩,⟨ys,q3⟩,q⟩:=q1
 subst e
 cases r1 with
 | cons r rr =>
  cases rr with
  | cons r' rr =>
   cases rr
   cases r
   cases r'
   obtain⟨is1,_,m1⟩:=I1.sqk q2
   obtain⟨is2,_,m2⟩:=I1.sqk q3
   have lt1:l1<s1.heap.objs.size:=by obtain⟨o,e⟩:=m1.obj;exact c89 e
   have lt2:l2<s1.heap.objs.size:=by obtain⟨o,e⟩:=m2.obj;exact c89 e
   refine b9r m1 m2 fun h' a1 a2 a3 a4 a5 a6 kk=>?_
   refine wpAny_pyIter_zip (s:={ s1 with heap:=h' }) a1 ?_
   have D:ZipApart (s1.heap.objs.size+4) (s1.heap.objs.size+2) (s1.heap.objs.size+3) s1.heap.objs.size (s1.heap.objs.size+1) l1 l2:=PyProof.Rows.zipApart_new lt1 lt2
   refine⟨s1.heap.objs.size+4,_,_,_,H1,rfl,I1.kept (t':=s1.toks) kk,b4N D,⟨a1,a2,⟨_,_,a3⟩,a4,a5⟩,fun c hc=>?_,q⟩
   have hge:s1.heap.objs.size≤c:=by
    simp only[c9l,c9u,or_false]at hc
    rcases hc with rfl|rfl|rfl|rfl|rfl
    ·exact d0y _ _
    ·exact d0y _ _
    ·exact d0y _ _
    ·exact c9b _
    ·exact d0y _ _
   exact I1.fpOk hge (I1.hok.fresh hge)
end L2
namespace L2
open PySem PySem.Spec PyProof.Rows
section
variable {X:Cx} {pins:List (Addr × Obj)} {σ:St} {H:Hp} {s:Shared} {p:Addr}
theorem Inv.swap{a b:HO}(I:Inv X pins σ H s)(hp:H p=some a)(ha:(∀ x,a ≠ .own x)∧∀ xs,a ≠ .tup xs)(h1:∀ xs,X.H₀ p≠some (.tup xs))(h2:∀ o u,X.H₀ p≠some (.frz o u))(h3:∀ ps,X.H₀ p≠some (.tbl ps))
  (new:E6 X.prog X.w H s.heap p b):Inv X pins σ (upd H p b) s:=by
 have ne:∀{c:Addr},H c=none→c≠p:=fun{c} q z=>by subst z;rw[hp]at q;cases q
 have st:∀{c:Addr} {o:HO},E6 X.prog X.w H s.heap c o→E6 X.prog X.w (upd H p b) s.heap c o:=fun{c o} x =>
  x.stay (fun _ _ _ q=>q) (fun d q=>by
   have:d≠p:=by intro z;subst z;rw[hp]at q;cases q;exact ha.1 _ rfl
   rw[j8 this];exact q) fun d xs q=>by
   have:d≠p:=by intro z;subst z;rw[hp]at q;cases q;exact ha.2 _ rfl
   rw[j8 this];exact q
 refine⟨I.ok,I.os,I.bare,⟨I.base.keep,I.base.slot,fun c o e n x=>?_,I.base.there,fun c xs q=>?_,fun c o u q=>?_,fun c ps q=>?_⟩,I.loc,I.cell,?_,fun x c e=>?_,fun q hq=>?_,fun c o q=>?_,I.len⟩
 ·have:=I.base.free c o e n x
  rw[j8 (ne this)];exact this
 ·have:c≠p:=by intro z;subst z;exact h1 xs q
  rw[j8 this];exact I.base.tups c xs q
 ·have:c≠p:=by intro z;subst z;exact h2 o u q
  rw[j8 this];exact I.base.frzs c o u q
 ·have:c≠p:=by intro z;subst z;exact h3 ps q
  rw[j8 this];exact I.base.tbls c ps q
 ·rw[j8 (ne I.free)];exact I.free
 ·rw[j8 (ne (I.freeC x c e))];exact I.freeC x c e
 ·obtain⟨a1,a2,a3,a4,a5⟩:=I.pin q hq
  exact⟨a1,by rw[j8 (ne a2)];exact a2,a3,a4,a5⟩
 ·by_cases z:c=p
  ·subst z;rw[j6]at q;cases q;exact st new
  ·rw[j8 z]at q;exact st (I.hok c o q)
theorem Inv.freeze{xs:List V}(I:Inv X pins σ H s)(hp:H p=some (.lst xs)):∃ o,Inv X pins σ (upd H p (.frz o (.lst xs))) s:=by
 have k:=I.hok p _ hp
 obtain⟨z,its,n,r,e⟩:=id k
 refine⟨_,I.swap hp ⟨fun _ q=>(nomatch q),fun _ q=>(nomatch q)⟩ (fun ys q=>?_) (fun o u q=>?_) (fun ps q=>?_) ⟨e,k⟩⟩
 ·rw[I.base.tups p ys q]at hp;cases hp
 ·rw[I.base.frzs p o u q]at hp;cases hp
 ·obtain⟨more,q⟩:=I.base.tbls p ps q;rw[q]at hp;cases hp
structure c0O(X:Cx)(p:Addr):Prop where
 t:∀ xs,X.H₀ p≠some (.tup xs)
 f:∀ o u,X.H₀ p≠some (.frz o u)
 b:∀ ps,X.H₀ p≠some (.tbl ps)
theorem Inv.loose{xs:List V}(I:Inv X pins σ H s)(hp:H p=some (.lst xs)):c0O X p :=
 ⟨fun ys q=>(by rw[I.base.tups p ys q]at hp;cases hp),fun o u q=>(by rw[I.base.frzs p o u q]at hp;cases hp),fun ps q=>(by obtain⟨more,q⟩:=I.base.tbls p ps q;rw[q]at hp;cases hp)⟩
noncomputable def c3D(t:TE):TE:=fun σ H Q=>t σ H fun v H1=>∃ p xs,v = .ref p∧H1 p=some (.lst xs)∧∀ o,Q v (upd H1 p (.frz o (.lst xs)))
theorem a1g{x:Expr}{t:TE}(h:PE X x t):PE X x (c3D t):=fun pins s σ H Q I q =>
 wpAny_mono (h pins s σ H _ I q) (fun u s1 zz=>by
  obtain⟨v,H1,I1,r,p,xs,e,hp,q1⟩:=zz
  obtain⟨o,I2⟩:=I1.freeze hp
  exact⟨v,_,I2,r,q1 o⟩) fun _ _ z=>z
theorem c1q{i:Nat}{y:Str}{pos':Pos}{x:Expr}{t:TE}(h:PU X i y pos' x t):PU X i y pos' x (c3D t):=fun pins s σ H Q I q =>
 wpAny_mono (h pins s σ H _ I q) (fun u s1 zz=>by
  obtain⟨v,H1,I1,p,xs,e,hp,q1⟩:=zz
  obtain⟨o,I2⟩:=I1.freeze hp
  exact⟨v,_,I2,q1 o⟩) fun _ _ z=>z
noncomputable def c3C(t:TE):TE:=fun σ H Q=>t σ H fun v H1=>(∃ p xs,v = .ref p∧H1 p=some (.lst xs)∧∀ o,Q v (upd H1 p (.frz o (.lst xs))))∨Q v H1
theorem b8H{x:Expr}{t:TE}(h:PE X x t):PE X x (c3C t):=fun pins s σ H Q I q =>
 wpAny_mono (h pins s σ H _ I q) (fun u s1 zz=>by
  obtain⟨v,H1,I1,r,z⟩:=zz
  rcases z with⟨p,xs,e,hp,q1⟩|q1
  ·obtain⟨o,I2⟩:=I1.freeze hp
   exact⟨v,_,I2,r,q1 o⟩
  ·exact⟨v,H1,I1,r,q1⟩) fun _ _ z=>z
noncomputable def a12(p:Addr)(xs:List V):HO:=.ext fun h=>xs.length≤sizeLine∧∃(its:List Value) (n:Nat),q9 xs its∧h.get? p=some { cls:=.type "list",data:=.seq its.toArray n }
theorem Inv.hide{xs:List V}(I:Inv X pins σ H s)(hp:H p=some (.lst xs)):Inv X pins σ (upd H p (a12 p xs)) s:=by
 have k:=I.hok p _ hp
 have l:=I.loose hp
 obtain⟨z,its,n,r,e⟩:=id k
 exact I.swap hp ⟨fun _ q=>(nomatch q),fun _ q=>(nomatch q)⟩ l.t l.f l.b ⟨⟨z,its,n,r,e⟩,⟨_,e⟩,fun h1 h2 ⟨z,its,n,r,e⟩ k=>⟨z,its,n,r,k _ e⟩⟩
theorem Inv.show'{xs:List V}(I:Inv X pins σ H s)(l:c0O X p)(hp:H p=some (a12 p xs)):Inv X pins σ (upd H p (.lst xs)) s:=by
 obtain⟨k,_,_⟩:=I.hok p _ hp
 exact I.swap hp ⟨fun _ q=>(nomatch q),fun _ q=>(nomatch q)⟩ l.t l.f l.b k
noncomputable def b4S(p:Addr)(t:TE):TE:=fun σ H Q=>∃ xs,H p=some (.lst xs)∧t σ (upd H p (a12 p xs)) fun v H1=>H1 p=some (a12 p xs)∧Q v (upd H1 p (.lst xs))
theorem a3m{x:Expr}{t:TE}(h:PE X x t):PE X x fun σ H Q=>∃ p,b4S p t σ H Q:=fun pins s σ H Q I ⟨p,xs,hp,q⟩ =>
 wpAny_mono (h pins s σ _ _ (I.hide hp) q) (fun u s1 ⟨v,H1,I2,r,hp1,q1⟩=>⟨v,_,I2.show' (I.loose hp) hp1,r,q1⟩) fun _ _ z=>z
noncomputable def b4Q(p:Addr)(t:TT):TT:=fun σ H Q=>∃ xs,H p=some (.lst xs)∧t σ (upd H p (a12 p xs)) fun v H1=>H1 p=some (a12 p xs)∧Q v (upd H1 p (.lst xs))
theorem a0E{ifs:List Expr}{t:TT}(h:a2A X ifs t):a2A X ifs fun σ H Q=>∃ p,b4Q p t σ H Q:=fun pins s σ H Q I ⟨p,xs,hp,q⟩ =>
 wpAny_mono (h pins s σ _ _ (I.hide hp) q) (fun u s1 ⟨H1,I2,hp1,q1⟩=>⟨_,I2.show' (I.loose hp) hp1,q1⟩) fun _ _ z=>z
noncomputable def b4R(p:Addr)(g:TG):TG:=fun v σ H Q=>∃ xs,H p=some (.lst xs)∧g v σ (upd H p (a12 p xs)) fun σ1 H1=>H1 p=some (a12 p xs)∧Q σ1 (upd H1 p (.lst xs))
theorem a3l{tg:Expr}{g:TG}(h:PG X tg g):PG X tg fun v σ H Q=>∃ p,b4R p g v σ H Q:=fun pins s σ H v u Q I r ⟨p,xs,hp,q⟩ =>
 wpAny_mono (h pins s σ _ v u _ (I.hide hp) r q) (fun u s1 ⟨σ1,H1,I2,hp1,q1⟩=>⟨σ1,_,I2.show' (I.loose hp) hp1,q1⟩) fun _ _ z=>z
end
section
variable {X:Cx} {pos:Pos}
end
end L2
namespace L2
open PySem PySem.Spec PyProof.Rows
section
variable {X:Cx} {e:Expr} {te:TE} {st:Expr} {ts:TO} {pos p2:Pos}
end
end L2
namespace L2
open PySem PySem.Spec PyProof.Rows
theorem b3j:typeLookup (.type "list_reverseiterator") "__len__" = pure none:=by rw[typeLookup_type,builtinLookup_eq_fast];kernel_rfl
theorem b0L:typeLookup (.type "list_reverseiterator") "__length_hint__" = pure (some (.builtin "list_reverseiterator.__length_hint__")):=by rw[typeLookup_type,builtinLookup_eq_fast];kernel_rfl
section
variable {prog:Program} {w:World} {A:Around} {E:Value→Shared→Prop} {s:Shared}
theorem b5o{it l:Addr}{i:Int}{Q:Bool→Shared→Prop}(hit:s.heap.IsRevIter it l i)(h:Q false s):wpAny (model prog w) A (Builtin.List.listLengthHint (.ref it)) Q E s:=by
 have hT:=hit.typeIs
 unfold Builtin.List.listLengthHint
 refine c8T (wpAny_specialOf hT b3j ?_)
 show wpAny _ A (specialOf (Value.ref it) (Str.ofString "__length_hint__") >>= _) Q E s
 refine c8T (wpAny_specialOf hT b0L ?_)
 generalize hv:("list_reverseiterator.__length_hint__" : String)=nm
 wp_delta
 rw[show splitId nm=some ("list_reverseiterator","__length_hint__")by subst hv;decide +kernel]
 subst hv
 refine c8T (wpAny_isInstance (T := "list_reverseiterator") (b:=true) hT (by rw[isSubtype_type];kernel_rfl) ?_)
 refine wpAny_ite_split (fun z=>absurd z (by decide)) (fun _=>?_)
 refine wpAny_ite_split (fun _=>?_) (fun z=>absurd (by decide +kernel) z)
 refine wpAny_ite_split (fun z=>absurd z (by decide)) (fun _=>?_)
 exact c84 h
noncomputable abbrev a2V(items:Array Value):Nat→Value→Prop:=fun j x=>items[items.size - 1 - j]? = some x
noncomputable abbrev a9P(prog:Program)(w:World)(A:Around)(R:Result→Shared→Prop):Fin→Shared→Prop:=fun z s'=>match z with|.done f=>R (.ok f) s'|.again c'=>c'.quiet=true∧codeAny (model prog w) A c' R s'
theorem b0s{R:Result→Shared→Prop}{it l S:Addr}{items:Array Value}{c₀:Nat}(hh:A.handled=none)(hit:s.heap.IsRevIter it l ((items.size:Int) - 1))(hl:s.heap.IsList l items)(hne:l≠it)(hi:S≠it)(hj:S≠l)(hz:items.size≤sizeLine)
  (hS:s.heap.get? S=some { cls:=.type "list",data:=.seq #[] c₀ })
  (fin:∀ h' tk acc c1,(∀ b o,b≠S→b≠it→s.heap.get? b=some o→h'.get? b=some o)→h'.get? S=some { cls:=.type "list",dict:=none,data:=.seq acc c1,slots:=#[] }→ItemsOf (a2V items) acc items.size→R (.ok (.ret .none)) { s with heap:=h',toks:=tk }) :
  wpAny (model prog w) A.in1 (Builtin.List.listExtendWith (.ref S) (.ref it) .none) (a9P prog w A R) (fun e s'=>R (.error e) s') s:=by
 have V:=(Walks.listRev (prog:=prog) (w:=w) (A:=A.in1) hh it l hne items).toS
 have nf:S∉[it,l]:=fun q=>by
  rcases c9l.mp q with q|q
  ·exact hi q
  ·exact hj (c88.mp q)
 unfold Builtin.List.listExtendWith
 refine c8T (wpAny_typeOf hit.typeIs ?_)
 have n1:Builtin.List.listSameRef (.ref S) (.ref it)=false:=by simp[Builtin.List.listSameRef,hi]
 have n2:(Value.type "list_reverseiterator" == Value.type "list")=false:=by decide
 have n3:(Value.type "list_reverseiterator" == Value.type "tuple")=false:=by decide
 simp only[n1,n2,n3,Bool.or_false,c9U,if_false]
 refine c8T (wpAny_pyIter_revIter hit (c8T (wpAny_holding (b5o hit ?_))))
 refine wpAny_ite_split (fun z=>absurd z (by decide +kernel)) (fun _=>?_)
 refine c84 ⟨plainId_quiet F.plain_extend_loop _,?_⟩
 have h0:((items.size:Int) - 1 - ((0:Nat):Int))=(items.size:Int) - 1:=by omega
 refine codeAny_extend_loopS V hz S nf .none items.size 0 s #[] c₀ rfl (c9K _) ⟨c9K _,by rw[h0];exact hit,hl⟩ hS (ItemsOf.nil _) fun s2 acc c1 mv g1 g2=>?_
 rw[Moved.eq_with mv]
 exact fin s2.heap s2.toks acc c1 (fun b o q1 q2 q3=>mv.heap b o (fun q=>(c9l.mp q).elim q1 fun q'=>q2 (c88.mp q')) q3) g1 g2
theorem b5n{R:Result→Shared→Prop}{it l S:Addr}{items:Array Value}(hh:A.handled=none)(hit:s.heap.IsRevIter it l ((items.size:Int) - 1))(hl:s.heap.IsList l items)(hne:l≠it)(hi:S≠it)(hj:S≠l)(hz:items.size≤sizeLine)
  (hS:s.heap.get? S=some { cls:=.type "list",data:=.seq #[] })
  (fin:∀ h' tk acc c1,(∀ b o,b≠S→b≠it→s.heap.get? b=some o→h'.get? b=some o)→h'.get? S=some { cls:=.type "list",dict:=none,data:=.seq acc c1,slots:=#[] }→ItemsOf (a2V items) acc items.size→R (.ok (.ret .none)) { s with heap:=h',toks:=tk }) :
  wpAny (model prog w) A.in1 (Builtin.«list.__init__» ⟨[.ref S,.ref it],[]⟩) (a9P prog w A R) (fun e s'=>R (.error e) s') s:=by
 show wpAny _ A.in1 (Builtin.List.listItems (.ref S) >>= fun was=>Builtin.List.listUpdate (.ref S) (fun _=>#[]) >>= fun _=>letGo was.toList.reverse >>= fun _=>Builtin.List.listExtendWith (.ref S) (.ref it) .none) (a9P prog w A R) (fun e s'=>R (.error e) s') s
 unfold Builtin.List.listItems
 refine c8T (c8T (wpAny_seqItems hS rfl (c84 ?_)))
 show wpAny _ A.in1 (updateSeq S (fun _=>#[]) >>= fun _=>letGo (#[]:Array Value).toList.reverse >>= fun _=>Builtin.List.listExtendWith (.ref S) (.ref it) .none) (a9P prog w A R) (fun e s'=>R (.error e) s') s
 refine c8T (wpAny_updateSeq hS rfl (c8T (wpAny_letGo ?_)))
 have g:=c9E (Obj.mapSeq fun _=>(#[]:Array Value)) hS rfl
 have oth:∀ b o,b≠S→s.heap.get? b=some o→(s.heap.update S (Obj.mapSeq fun _=>(#[]:Array Value))).get? b=some o:=fun b o q1 q2=>(c9v _ _ (Ne.symm q1)).trans q2
 refine b0s hh (hit.at fun o e=>oth it o (Ne.symm hi) e) (hl.at fun o e=>oth l o (Ne.symm hj) e) hne hi hj hz g fun h' tk acc c1 q1 q2 q3=>?_
 exact fin h' tk acc c1 (fun b o b1 b2 e=>q1 b o b1 b2 (oth b o b1 e)) q2 q3
theorem a5D{it l:Addr}{items:Array Value}{Q:Value→Shared→Prop}(hh:A.handled=none)(hit:s.heap.IsRevIter it l ((items.size:Int) - 1))(hl:s.heap.IsList l items)(hne:l≠it)(hz:items.size≤sizeLine)
  (fin:∀ h' tk acc c1,(∀ b o,b≠it→s.heap.get? b=some o→h'.get? b=some o)→h'.get? s.heap.objs.size=some { cls:=.type "list",dict:=none,data:=.seq acc c1,slots:=#[] }→ItemsOf (a2V items) acc items.size→Q (.ref s.heap.objs.size) { s with heap:=h',toks:=tk }) :
  wpAny (model prog w) A (call (.type "list") [.ref it]) Q E s:=by
 obtain⟨oi,hoi,_⟩:=id hit
 obtain⟨ol,hol,_⟩:=id hl
 have i1:s.heap.objs.size≠it:=c92 (c89 hoi)
 have i2:s.heap.objs.size≠l:=c92 (c89 hol)
 let h1:=s.heap.push { cls:=.type "list",data:=.seq #[] }
 have up:∀ b o,s.heap.get? b=some o→h1.get? b=some o:=fun b o e=>c8X _ e
 have gS:h1.get? s.heap.objs.size=some { cls:=.type "list",data:=.seq #[] }:=c86 _ rfl
 refine callType_codes (Q₁:=fun x s1=>x = .ref s.heap.objs.size∧s1 = { s with heap:=h1 }) F.called_list (F.typeCall_list_1 _) F.entry_list_init (code_list_new _ ⟨rfl,rfl⟩) ?_
 rintro x s1 ⟨rfl,rfl⟩
 refine⟨⟨_,gS,rfl⟩,F.args_list_init_2 _ _,b5n (A:=A.in1) hh (hit.at fun o e=>up it o e) (hl.at fun o e=>up l o e) hne i1 i2 hz gS fun h' tk acc c1 q1 q2 q3=>?_⟩
 exact⟨rfl,fin h' tk acc c1 (fun b o b1 e=>q1 b o (c9y (c89 e)) b1 (up b o e)) q2 q3⟩
end
section
variable {X:Cx}
noncomputable def a4O(H:Hp)(a:Addr):Hp:=fun b=>if b=a then none else H b
theorem a4N{H:Hp}{a b:Addr}(h:b≠a):a4O H a b=H b:=if_neg h
theorem a4M{H:Hp}{a:Addr}:a4O H a a=none:=if_pos rfl
theorem b2Z{items:Array Value}{acc:Array Value}(h:ItemsOf (a2V items) acc items.size):acc.toList=items.toList.reverse:=by
 obtain⟨h1,h2⟩:=h
 apply d0z
 ·rw[c9w,Array.length_toList,Array.length_toList,h1]
 ·intro j g1 g2
  rw[Array.length_toList]at g1
  have e:=h2 j acc[j] (Array.getElem?_eq_getElem g1)
  have e2:items.size - 1 - j<items.size:=by omega
  have e3:items[items.size - 1 - j]? = some (items[items.size - 1 - j]'e2):=Array.getElem?_eq_getElem e2
  have e4:items[items.size - 1 - j]'e2=acc[j]:=Option.some.inj (e3.symm.trans e)
  rw[d1F,Array.getElem_toList,Array.getElem_toList,← e4]
  congr 1
end
theorem q9.take':∀{xs:List V} {us:List Value} (k:Nat),q9 xs us→q9 (xs.take k) (us.take k)
 | _,_,0,_=>.nil
 | _,_,_+1,.nil=>.nil
 | _,_,k+1,.cons r t=>.cons r (q9.take' k t)
theorem q9.drop':∀{xs:List V} {us:List Value} (k:Nat),q9 xs us→q9 (xs.drop k) (us.drop k)
 | _,_,0,h=>h
 | _,_,_+1,.nil=>.nil
 | _,_,k+1,.cons _ t=>q9.drop' k t
section
variable {X:Cx}
noncomputable def b1U:V→List V→Hp→VK→Prop:=fun x vs H Q=>∃ l xs y,∃ k:Nat,x = .ref l∧vs=[.int (k:Int),y]∧H l=some (.lst xs)∧k≤xs.length∧xs.length<sizeLine∧Q .non (upd H l (.lst (xs.take k++y :: xs.drop k)))
theorem b3g:MtM X "list.insert" b1U:=by
 intro pins s σ H x vs v us Q I rx rv h
 obtain⟨l,xs,y,k,rfl,rfl,hH,hk,hz,q⟩:=h
 cases rx
 ·obtain⟨u1,u,rfl,⟨t,rfl⟩,ru⟩:=b4L rv
  obtain⟨z,its,n,r,hl,e⟩:=I.lstM hH
  have hlen:=r.length
  have hb:(-(2 ^ 63:Int)≤(k:Int))∧(k:Int)<2 ^ 63:=by
   have h1:k<sizeLine:=c9e hk hz
   have h2:(sizeLine:Int)≤2 ^ 62:=by decide +kernel
   omega
  have hf:Builtin.List.listFitsIndex (k:Int)=true:=by
   unfold Builtin.List.listFitsIndex
   rw[decide_eq_true hb.1,decide_eq_true hb.2];rfl
  generalize hx:(k:Int)=x at *
  refine call_meets F.slot_list_insert ⟨_,e,rfl⟩ F.entry_list_insert (F.args_list_insert_3 _ _ _) (AutoSeq1.list_insert_list_int_val_1 l its.toArray n x t u (by rw[hf];exact c9n) (by rw[c9c];omega)) ⟨e,?_⟩
  refine⟨.non,_,I.lset (its':=its.take k++u :: its.drop k) hH e ?_ ((r.take' k).append (.cons ru (r.drop' k))) ?_,rfl,q⟩
  ·have ek:(if x<0 then(x+(its.toArray.size:Int)).toNat else min x.toNat its.toArray.size)=k:=by
    rw[if_neg (by omega),c9c];omega
   show(its.toArray.extract 0 (if x<0 then(x+(its.toArray.size:Int)).toNat else min x.toNat its.toArray.size)).push u++its.toArray.extract (if x<0 then(x+(its.toArray.size:Int)).toNat else min x.toNat its.toArray.size)=_
   rw[ek]
   apply Array.toList_inj.mp
   simp
   exact d0d (by rw[d0l];exact c9b _)
  ·rw[c9h,c9W,c9B,d0l];omega
end
theorem a4E(r:Addr)(m:Int)(t u v:Tok)(hs:(c8Z 0 && c8Z m && c8Z 1 && c8Z (-1) && c8Z (0 - 1) && c8Z (Builtin.Range.rangeSize 0 m 1))=true) :
  Meets (Builtin.«range.__reversed__» ⟨[.ref r],[]⟩) (fun _ R s=>s.heap.get? r=some { cls:=.type "range",dict:=none,data:=.fields #[.int 0 t,.int m u,.int 1 v],slots:=#[] } ∧
   R (.ok (.ret (Value.ref s.heap.objs.size))) { s with heap:=s.heap.push { cls:=Value.type "range_iterator",data:=Data.fields #[rawInt (0+(Builtin.Range.rangeSize 0 m 1 - 1)*1),rawInt (Builtin.Range.rangeSize 0 m 1),rawInt (-1)] },toks:=s.toks }) :=
 .of_wp fun prog w A R s h=>by
  obtain⟨hp,g,d,tk,os⟩:=s
  obtain⟨hl,h⟩:=h
  wp_walk
  rw[hs]
  simp only[Bool.not_true,c9U,if_false,if_true]
  wp_walk
  exact⟨_,rfl,h⟩
section
variable {prog:Program} {w:World} {A:Around} {E:Value→Shared→Prop} {s:Shared}
noncomputable abbrev a2o(m:Int)(t u v:Tok):Obj:={ cls:=.type "range",data:=.fields #[.int 0 t,.int m u,.int 1 v] }
noncomputable abbrev K1(m:Int):Obj:={ cls:=.type "range_iterator",data:=.fields #[rawInt (0+(Builtin.Range.rangeSize 0 m 1 - 1)*1),rawInt (Builtin.Range.rangeSize 0 m 1),rawInt (-1)] }
theorem a86:isSubtype (.type "range_iterator") (.type "reversed")=pure false:=by rw[isSubtype_type];kernel_rfl
theorem a9I{r:Addr}{m:Int}{t u v:Tok}{Q:Value→Shared→Prop}(hr:s.heap.get? r=some (a2o m t u v))(hs:(c8Z 0 && c8Z m && c8Z 1 && c8Z (-1) && c8Z (0 - 1) && c8Z (Builtin.Range.rangeSize 0 m 1))=true)
  (h:Q (.ref s.heap.objs.size) { s with heap:=s.heap.push (K1 m) }):wpAny (model prog w) A (call (.builtin "range.__reversed__") [.ref r]) Q E s :=
 call_meets F.slot_range_reversed ⟨_,hr,rfl⟩ F.entry_range_reversed (F.args_range_reversed_1 _) (a4E r m t u v hs) ⟨hr,h⟩
theorem a9E{r:Addr}{m:Int}{t u v:Tok}{Q:Value→Shared→Prop}(hr:s.heap.get? r=some (a2o m t u v))(hs:(c8Z 0 && c8Z m && c8Z 1 && c8Z (-1) && c8Z (0 - 1) && c8Z (Builtin.Range.rangeSize 0 m 1))=true)
  (h:Q (.ref s.heap.objs.size) { s with heap:=s.heap.push (K1 m) }):codeAny (model prog w) A (.call (.builtin "reversed.__new__") ⟨[.type "reversed",.ref r],[]⟩) (wants Q E) s:=by
 have hT:s.TypeIs (.ref r) "range" := ⟨_,hr,rfl⟩
 refine codeAny_of_tree ?_
 show wpAny _ A.in1 (checkBuiltinCall "reversed.__new__" ⟨[.type "reversed",.ref r],[]⟩ >>= fun _=>again (.builtin "reversed.__new__" ⟨[.type "reversed",.ref r],[]⟩)) _ _ s
 refine c8T (wpAny_of_eq (F.newCall_reversed_1 _) (c84 ⟨plainId_quiet F.plain_reversed_new _,codeAny_builtin F.entry_reversed_new ?_⟩))
 rw[Around.under_plainId F.plain_reversed_new _]
 unfold Builtin.«reversed.__new__»
 refine c8T (wpAny_of_eq (newClass_reversed _) ?_)
 try dsimp only
 refine c8T (wpAny_of_eq (a:=()) (by first|rfl|kernel_rfl) ?_)
 refine c8T (wpAny_of_eq (a:=()) (by first|rfl|kernel_rfl) ?_)
 try dsimp only
 refine c8T (wpAny_specialOf hT F.slot_range_reversed.lookup ?_)
 try dsimp only
 refine c8T (wpAny_of_eq (F.slot_range_reversed.bind _) ?_)
 try dsimp only
 have ng:¬ ((Value.builtin "range.__reversed__" == Value.none)=true):=c9n
 first
 | rw[if_neg ng]
 | (show wpAny _ _ (if (Value.builtin "range.__reversed__" == Value.none)=true then _ else _) _ _ _;rw[if_neg ng])
 refine c8T (wpAny_rule ?_)
 refine c8T (m:=runValue (.call (.builtin "range.__reversed__") ⟨[.ref r],[]⟩)) (show wpAny _ _ (call (.builtin "range.__reversed__") [.ref r]) _ _ _ from a9I hr hs ?_)
 first
 | exact c84 h
 | exact c8T (c84 (c84 h))
end
section
variable {prog:Program} {w:World} {A:Around} {E:Value→Shared→Prop} {s:Shared}
theorem a5B{r:Addr}{m:Int}{t u v:Tok}{Q:Value→Shared→Prop}(hr:s.heap.get? r=some (a2o m t u v))(hs:(c8Z 0 && c8Z m && c8Z 1 && c8Z (-1) && c8Z (0 - 1) && c8Z (Builtin.Range.rangeSize 0 m 1))=true)
  (h:Q (.ref s.heap.objs.size) { s with heap:=s.heap.push (K1 m) }):wpAny (model prog w) A (call (.type "reversed") [.ref r]) Q E s:=by
 refine callType_other (U := "range_iterator") (Q₁:=fun x s1=>x = .ref s.heap.objs.size∧s1 = { s with heap:=s.heap.push (K1 m) }) (by decide +kernel) F.create_reversed ⟨_,_,F.mro_reversed⟩ F.made_reversed a86
  (F.typeCall_reversed_1 _) (a9E hr hs ⟨rfl,rfl⟩) ?_
 rintro x s1 ⟨rfl,rfl⟩
 exact⟨⟨_,c86 _ rfl,rfl⟩,h⟩
end
noncomputable def Itd(hi:Int)(n:Nat):It:=⟨fun i _=>i<n,fun i H x H'=>H'=H∧x = .int (hi - i),fun i _=>n≤i⟩
theorem b2P{P:Program}{w:World}{K:c8U}{tg:Expr}(it:Addr)(hi:Int)(n:Nat):a73 P w K tg (Itd hi n) [it] it (fun i h=>IsRangeIter h it (hi+(i:Nat)*(-1)) ((n:Int) - (i:Nat)) (-1)) where
 mem:=by simp
 obj:=fun i h st b hb=>by
  obtain rfl:b=it:=by simpa using hb
  exact⟨_,st,fun v z=>by
   have q:Data.fields _=Data.cell v:=z
   cases q⟩
 keep:=fun i h h' st k=>k it (by simp) _ st
 item:=by
  intro X hP hw hK hc i pins s σ H E I hf st hg
  subst hP hw hK
  obtain⟨f0,f1,f2,f3,f4,f5⟩:=hf it (by simp)
  have W:=Walks.range (prog:=X.prog) (w:=X.w) (I.ok.hd hc) it hi (-1) n
  refine W.item i s _ _ hg st fun v h' tk hv st' kk=>?_
  obtain⟨t,rfl⟩:=hv
  have I1:Inv X pins σ H { s with heap:=h',toks:=tk }:=I.turned (fun b o hb e=>kk b o (by simpa using hb) e) f0 f1 f3 f4 f5
  refine⟨_,rfl,a9w (s:={ s with heap:=h',toks:=tk }) (n := "range_iterator") st' rfl rfl (by decide) ⟨.int (hi - i),H,I1,⟨t,?_⟩,⟨rfl,rfl⟩,st',fun b hb=>(hf b hb).1⟩⟩
  rw[show hi+(i:Int) * -1=hi - i by omega]
 done:=by
  intro X hP hw hK hc i pins s σ H E I hf st hg
  subst hP hw hK
  obtain⟨f0,f1,f2,f3,f4,f5⟩:=hf it (by simp)
  exact wpAny_pyNext_range_end (I.ok.hd hc) st (by have:n≤i:=hg;omega) fun h' eb=>⟨rfl,I.turned (t':=s.toks) (fun b o hb e=>eb b o hb e) f0 f1 f3 f4 f5⟩
 self:=fun _ _ _ _ _ st h=>wpAny_pyIter_rangeiter st h
section
variable {X:Cx}
noncomputable def c1l(p:Addr)(j:Int):Heap→Prop:=fun h=>∃ t u v,h.get? p=some (a2o j t u v)
theorem b6M:D7 X (.type "range") (fun xs H Q=>∃ j:Int,xs=[.int j]∧∀ p,H p=none→X.s₀.heap.objs.size≤p→Q (.ref p) (upd H p (.ext (c1l p j)))):=by
 intro pins s σ H xs us Q I rv h
 obtain⟨j,rfl,q⟩:=h
 obtain⟨u,rfl,t,rfl⟩:=a0T rv
 have e:(s.heap.push (a2o j s.toks t (s.toks+1))).get? s.heap.objs.size=some (a2o j s.toks t (s.toks+1)):=c86 _ rfl
 refine call_range_1 ⟨.ref s.heap.objs.size,_,I.laid (t':=s.toks+1+1) (o:=.ext (c1l s.heap.objs.size j)) (fun b u e=>c8X _ e) (c9b _) ?_,rfl,q _ I.fresh I.sz⟩
 exact⟨⟨_,_,_,e⟩,⟨_,e⟩,fun h1 h2 z k=>by
  obtain⟨t,u,v,z⟩:=z
  exact⟨t,u,v,k _ z⟩⟩
theorem b9g{j:Int}(h1:-(2 ^ 62)≤j)(h2:j<2 ^ 62):(c8Z 0 && c8Z j && c8Z 1 && c8Z (-1) && c8Z (0 - 1) && c8Z (Builtin.Range.rangeSize 0 j 1))=true:=by
 have f:∀ x:Int,-(2 ^ 62)≤x→x<2 ^ 62→c8Z x=true:=fun x a b=>by
  unfold c8Z
  rw[decide_eq_true (show -(2 ^ 63)≤x by omega),decide_eq_true (show x<2 ^ 63 by omega)];rfl
 rw[f 0 (by decide) (by decide),f j h1 h2,f 1 (by decide) (by decide),f (-1) (by decide) (by decide),f (0 - 1) (by decide) (by decide),f _ (by rw[rangeSize_one];split<;>omega) (by rw[rangeSize_one];split<;>omega)];rfl
noncomputable def c5H(ta:TA):TI:=fun σ H R=>ta σ H fun vs H1=>∃ j:Int,∃ p,vs=[.ref p]∧H1 p=some (.ext (c1l p j))∧0≤j∧j<2 ^ 62∧R (Itd (j - 1) j.toNat) H1
theorem c1A{tg:Expr}{a:Expr}{ta:TA}{p pos:Pos}(hg:Gl X "reversed")(hm:X.mg "reversed" = none)(hv:bootBuiltins "reversed" = some (.type "reversed"))(ha:PA X [a] ta)(hs:starEach [a] X.env=[(false,eval a X.env)]:=by rfl):PI X tg (.Call (.Name "reversed" p) [a] [] pos) (c5H ta):=by
 intro pins s σ H R I h
 refine Call_ (O1 I hg hm hv (PyProof.Rows.callWith_type1 (thn (ha pos pins s σ H _ I h) fun us s1 zz=>?_) hs rfl))
 obtain⟨vs,H1,I1,r1,q1⟩:=zz
 obtain⟨j,r,e,hH,b1,b2,q⟩:=q1
 subst e
 obtain⟨u,rfl,ru⟩:=a0T r1
 cases ru
 obtain⟨t,u,v,hr⟩:=(I1.hok r _ hH).1
 refine a5B hr (b9g (by omega) b2) ?_
 have e0:(s1.heap.push (K1 j)).get? s1.heap.objs.size=some (K1 j):=c86 _ rfl
 have en:Builtin.Range.rangeSize 0 j 1=((j.toNat:Nat):Int):=by rw[rangeSize_one];split<;>omega
 have I2:Inv X pins σ H1 { s1 with heap:=s1.heap.push (K1 j) }:=I1.kept (t':=s1.toks) fun b o e=>c8X _ e
 have st:IsRangeIter (s1.heap.push (K1 j)) s1.heap.objs.size ((j - 1)+((0:Nat):Int)*(-1)) ((j.toNat:Int) - ((0:Nat):Int)) (-1):=by
  show(s1.heap.push (K1 j)).get? s1.heap.objs.size=some _
  rw[e0]
  unfold K1
  rw[en,show 0+(((j.toNat:Nat):Int) - 1)*1=(j - 1)+((0:Nat):Int)*(-1)by omega,show(j.toNat:Int) - ((0:Nat):Int)=((j.toNat:Nat):Int)by omega]
 refine wpAny_pyIter_rangeiter st ⟨s1.heap.objs.size,[s1.heap.objs.size],_,_,H1,rfl,I2,b2P _ (j - 1) j.toNat,st,fun b hb=>?_,q⟩
 obtain rfl:b=s1.heap.objs.size:=by simpa using hb
 exact I1.fpOk (c9b _) (I1.hok.fresh (c9b _))
end
end L2
namespace L2
open PySem PySem.Spec PyProof.Rows
theorem b2T:typeLookup (.type "reversed") "__len__" = pure none:=by rw[typeLookup_type,builtinLookup_eq_fast];kernel_rfl
theorem a9W:typeLookup (.type "reversed") "__length_hint__" = pure (some (.builtin "reversed.__length_hint__")):=by rw[typeLookup_type,builtinLookup_eq_fast];kernel_rfl
theorem b2S:typeLookup (.type "tuple") "__reversed__" = pure none:=by rw[typeLookup_type,builtinLookup_eq_fast];kernel_rfl
theorem b0x:Manifest.owners.lookup (String.ofList ['d','e','s','r','e','v','e','r'].reverse)=some Manifest.sig_reversed:=by kernel_rfl
theorem K6:Slot "reversed" "__next__" "reversed.__next__" := .of (owner := "reversed") (n := "__next__")
 (by rw[typeLookup_type,builtinLookup_eq_fast];kernel_rfl) (by decide +kernel) (by decide +kernel) (by decide +kernel)
 (by first|exact .inl (by decide +kernel)|exact .inr (by decide +kernel)) (by rw[isSubtype_type];kernel_rfl)
theorem a2S:entryFor table "reversed.__next__" = some Builtin.«reversed.__next__»:=entryFor_of_tree (by kernel_rfl)
theorem a2U(a:Value):argsOk "reversed.__next__" ⟨[a],[]⟩:=by
 unfold argsOk
 rw[signature?_of (id := "reversed.__next__") (n:=['_','_','t','x','e','n','_','_']) (o:=['d','e','s','r','e','v','e','r']) (by kernel_rfl) b0x]
 kernel_rfl
theorem a2M:Slot "reversed" "__iter__" "reversed.__iter__" := .of (owner := "reversed") (n := "__iter__")
 (by rw[typeLookup_type,builtinLookup_eq_fast];kernel_rfl) (by decide +kernel) (by decide +kernel) (by decide +kernel)
 (by first|exact .inl (by decide +kernel)|exact .inr (by decide +kernel)) (by rw[isSubtype_type];kernel_rfl)
theorem a9K(a:Value):argsOk "reversed.__iter__" ⟨[a],[]⟩:=by
 unfold argsOk
 rw[signature?_of (id := "reversed.__iter__") (n:=['_','_','r','e','t','i','_','_']) (o:=['d','e','s','r','e','v','e','r']) (by kernel_rfl) b0x]
 kernel_rfl
theorem a9x:entryFor table "reversed.__iter__" = some Builtin.«dict_keyiterator.__iter__»:=entryFor_alias (id' := "dict_keyiterator.__iter__")
 (by kernel_rfl) (by first|rfl|decide +kernel|(unfold String.splitOn;simp +decide [String.splitOnAux])) (by decide +kernel) (by kernel_rfl)
theorem a2N:Slot "reversed" "__length_hint__" "reversed.__length_hint__" := .of (owner := "reversed") (n := "__length_hint__")
 (by rw[typeLookup_type,builtinLookup_eq_fast];kernel_rfl) (by decide +kernel) (by decide +kernel) (by decide +kernel)
 (by first|exact .inl (by decide +kernel)|exact .inr (by decide +kernel)) (by rw[isSubtype_type];kernel_rfl)
theorem a9y:entryFor table "reversed.__length_hint__" = some Builtin.«reversed.__length_hint__»:=entryFor_of_tree (by kernel_rfl)
theorem a9L(a:Value):argsOk "reversed.__length_hint__" ⟨[a],[]⟩:=by
 unfold argsOk
 rw[signature?_of (id := "reversed.__length_hint__") (n:=['_','_','t','n','i','h','_','h','t','g','n','e','l','_','_']) (o:=['d','e','s','r','e','v','e','r']) (by kernel_rfl) b0x]
 kernel_rfl
theorem a8Q:Slot "reversed" "__init__" "object.__init__" := .of (owner := "object") (n := "__init__")
 (by rw[typeLookup_type,builtinLookup_eq_fast];kernel_rfl) (by decide +kernel) (by decide +kernel) (by decide +kernel)
 (by first|exact .inl (by decide +kernel)|exact .inr (by decide +kernel)) (by rw[isSubtype_type];kernel_rfl)
theorem b0V:TypeCalled "reversed" "reversed.__new__" "object.__init__" :=
 ⟨by decide +kernel,by decide +kernel,⟨_,_,F.mro_reversed⟩,F.made_reversed,by decide +kernel,F.sub_reversed_self,a8Q⟩
noncomputable def a6M(l:Addr)(i:Int):Obj:={ cls:=.type "reversed",data:=.fields #[.ref l,rawInt i] }
noncomputable def P6(h:Heap)(a l:Addr)(i:Int):Prop:=∃ o,h.get? a=some o∧o.cls = .type "reversed" ∧ o.data = .fields #[.ref l,rawInt i]
theorem P6.typeIs{s:Shared}{a l:Addr}{i:Int}(x:P6 s.heap a l i):s.TypeIs (.ref a) "reversed" := let ⟨o,ho,hc,_⟩:=x;⟨o,ho,hc⟩
theorem P6.at{h h':Heap}{a l:Addr}{i:Int}(x:P6 h a l i)(e:∀ o,h.get? a=some o→h'.get? a=some o):P6 h' a l i:=let ⟨o,ho,r⟩:=x;⟨o,e _ ho,r⟩
theorem b3i(l:Addr)(items:Array Value)(hz:(items.size:Int)<2 ^ 63):Meets (Builtin.«reversed.__new__» ⟨[.type "reversed",.ref l],[]⟩) (fun _ R s=>IsTup s.heap l items∧∀ t,R (.ok (.ret (.ref s.heap.objs.size))) { s with heap:=s.heap.push (a6M l ((items.size:Int) - 1)),toks:=t }) :=
 .of_wp fun prog w A R s h=>by
  obtain⟨ht,h⟩:=h
  unfold Builtin.«reversed.__new__»
  refine c8T (wpAny_of_eq (newClass_reversed _) ?_)
  try dsimp only
  refine c8T (wpAny_of_eq (a:=()) (by first|rfl|kernel_rfl) ?_)
  refine c8T (wpAny_of_eq (a:=()) (by first|rfl|kernel_rfl) ?_)
  try dsimp only
  refine c8T (wpAny_specialOf ht.typeIs b2S ?_)
  try dsimp only
  refine c8T ?_
  wp_delta
  refine c8T (wpAny_isInstance (T := "tuple") (b:=false) ht.typeIs (by rw[isSubtype_type];kernel_rfl) ?_)
  try dsimp only
  rw[if_neg (by decide)]
  refine c8T (wpAny_specialOf ht.typeIs slot_tuple_getitem.lookup ?_)
  try dsimp only
  rw[if_pos (by decide +kernel)]
  refine c84 ?_
  rw[if_neg (by decide)]
  refine c8T (len_tuple ht hz ?_)
  refine c8T (wpAny_of_eq (a:=some (items.size:Int)) rfl ?_)
  try dsimp only
  show wpAny _ _ (newObj (.type "reversed") (.fields #[Value.ref l,rawInt ((items.size:Int) - 1)]) >>= _) _ _ _
  refine c8T (wpAny_newObj_type ?_)
  exact c84 ⟨_,rfl,h _⟩
section
variable {prog:Program} {w:World} {A:Around} {E:Value→Shared→Prop} {s:Shared}
theorem b6R{l:Addr}{items:Array Value}{Q:Value→Shared→Prop}(ht:IsTup s.heap l items)(hz:(items.size:Int)<2 ^ 63)
  (h:∀ t,Q (.ref s.heap.objs.size) { s with heap:=s.heap.push (a6M l ((items.size:Int) - 1)),toks:=t }):wpAny (model prog w) A (call (.type "reversed") [.ref l]) Q E s:=by
 refine callType_new b0V (by decide) (F.typeCall_reversed_1 _) (F.newCall_reversed_1 _) (fun obj=>F.args_object_init_2 obj _) F.entry_reversed_new (b3i l items hz) ⟨ht,fun t=>?_⟩
 exact⟨⟨_,c86 _ rfl,rfl⟩,h t⟩
theorem b5S{it l:Addr}{i:Nat}{items:Array Value}{x:Value}{Q:Option Value→Shared→Prop}(hit:P6 s.heap it l (i:Int))(hl:IsTup s.heap l items)(hz:(items.size:Int)<2 ^ 63)(hx:items[i]? = some x)
  (hQ:∀ h' t,P6 h' it l ((i:Int) - 1)→Heap.SameBut it s.heap h'→Q (some x) { s with heap:=h',toks:=t }):wpAny (model prog w) A (pyNext (.ref it)) Q E s:=by
 obtain⟨o,ho,hc,hd⟩:=id hit
 have hi:i<items.size:=(Array.getElem?_eq_some_iff.mp hx).1
 unfold pyNext
 refine c8T (wpAny_attempt (wpAny_callSpecial?_slot (name:=Str.ofString "__next__") hit.typeIs K6
  (wpAny_call_entry K6 hit.typeIs a2S ?_ (a2U _))))
 unfold Builtin.«reversed.__next__»
 refine c8T (wpAny_of_eq (a:=(Value.ref it,[])) rfl ?_)
 try dsimp only
 refine c8T (wpAny_field ho hd (x:=.ref l) rfl ?_)
 refine c8T (wpAny_field ho hd (x:=rawInt (i:Int)) rfl ?_)
 show wpAny _ _ (if (i:Int)<0 then _ else _) _ _ s
 rw[if_neg (by omega)]
 refine c8T (wpAny_specialOf hl.typeIs slot_tuple_getitem.lookup ?_)
 try dsimp only
 rw[if_neg (by decide)]
 refine c8T (wpAny_mkInt ?_)
 refine c8T (wpAny_attempt (getItem_tuple (j:=i) (x:=x) hl (by omega) (by omega) ?_ hx ?_))
 ·unfold seqIndex?
  rw[if_neg (show ¬ (i:Int)<0 by omega),if_pos (by rw[d0M,decide_eq_true_eq,decide_eq_true_eq];omega)]
  rfl
 ·try dsimp only
  refine c8T (wpAny_field ho hd (x:=rawInt (i:Int)) rfl ?_)
  try dsimp only
  refine c8T (wpAny_setField ho hd (by simp) ?_)
  refine c84 ⟨x,rfl,c84 (hQ _ _ ?_ (Heap.SameBut.update ..))⟩
  exact⟨_,c9E _ ho (Obj.isFreed_of_fields (Obj.data_mapFields hd _)),(Obj.cls_mapFields ..).trans hc,by
   rw[Obj.data_mapFields hd];simp⟩
theorem b4W{it l:Addr}{Q:Option Value→Shared→Prop}(hh:A.handled=none)(hit:P6 s.heap it l (-1))
  (hQ:∀ h',Heap.ExtBut it s.heap h'→Q none { s with heap:=h' }):wpAny (model prog w) A (pyNext (.ref it)) Q E s:=by
 obtain⟨o,ho,hc,hd⟩:=id hit
 unfold pyNext
 refine c8T (wpAny_attempt (wpAny_callSpecial?_slot (name:=Str.ofString "__next__") hit.typeIs K6
  (wpAny_call_entry K6 hit.typeIs a2S ?_ (a2U _))))
 unfold Builtin.«reversed.__next__»
 refine c8T (wpAny_of_eq (a:=(Value.ref it,[])) rfl ?_)
 try dsimp only
 refine c8T (wpAny_field ho hd (x:=.ref l) rfl ?_)
 refine c8T (wpAny_field ho hd (x:=rawInt (-1)) rfl ?_)
 show wpAny _ _ (if (-1:Int)<0 then _ else _) _ _ s
 rw[if_pos (by decide)]
 refine c8T (wpAny_rule ?_)
 refine c8T ?_
 wp_delta
 refine c8T (wpAny_setField ho hd (by simp) ?_)
 have g1:=c9E (Obj.mapFields (·.setIfInBounds 1 (rawInt (-1)))) ho (Obj.isFreed_of_fields (Obj.data_mapFields hd _))
 have d1:(Obj.mapFields (·.setIfInBounds 1 (rawInt (-1))) o).data = .fields (#[Value.ref l,rawInt (-1)].setIfInBounds 1 (rawInt (-1))):=Obj.data_mapFields hd _
 refine wpAny_setField g1 d1 (by simp) ?_
 refine c8T ?_
 show wpAny _ _ (newExc (.type "StopIteration") [] >>= _) _ _ _
 refine c8T ?_
 simp only[newExc,newTuple]
 refine c8T (wpAny_newObj_type ?_ (by size_fits))
 refine c8T (m:=firstArgMember _ _) (wpAny_of_eq (a:=Value.none) (by first|rfl|(simp only[firstArgMember];rfl)) ?_)
 refine wpAny_newObj_type ?_ (by size_fits)
 simp only[raiseNew]
 refine c8T (wpAny_handled ?_)
 rw[show A.in1.handled=none from hh]
 refine c8T (c84 (wpAny_throw ?_))
 refine c8T (wpAny_isInstance (T := "StopIteration") (b:=true) ⟨_,c86 _ rfl,rfl⟩ isSubtype_stop ?_)
 refine c84 (hQ _ ((Heap.ExtBut.push (Heap.ExtBut.push ?_ _) _)))
 exact fun b o hb e=>by
  rw[c9v _ _ (Ne.symm hb),c9v _ _ (Ne.symm hb)];exact e
theorem a9t{it l:Addr}{i:Int}{Q:Value→Shared→Prop}(hit:P6 s.heap it l i)(h:Q (.ref it) s):wpAny (model prog w) A (pyIter (.ref it)) Q E s:=by
 refine wpAny_pyIter_slot hit.typeIs a2M (wpAny_call_entry a2M hit.typeIs a9x ?_ (a9K _))
 show wpAny _ _ (ret (.ref it)) _ _ s
 exact c84 ⟨_,rfl, "reversed",_,hit.typeIs,K6.lookup,h⟩
theorem b6k{it l:Addr}{items:Array Value}{Q:Bool→Shared→Prop}(hit:P6 s.heap it l ((items.size:Int) - 1))(hl:IsTup s.heap l items)(hz:items.size≤sizeLine)(h:∀ t,Q (decide ((items.size:Int)≠0)) { s with toks:=t }):wpAny (model prog w) A (Builtin.List.listLengthHint (.ref it)) Q E s:=by
 have hT:=hit.typeIs
 obtain⟨o,ho,hc,hd⟩:=id hit
 unfold Builtin.List.listLengthHint
 refine c8T (wpAny_specialOf hT b2T ?_)
 show wpAny _ A (specialOf (Value.ref it) (Str.ofString "__length_hint__") >>= _) Q E s
 refine c8T (wpAny_specialOf hT a9W ?_)
 generalize hv:("reversed.__length_hint__" : String)=nm
 wp_delta
 rw[show splitId nm=some ("reversed","__length_hint__")by subst hv;decide +kernel]
 subst hv
 refine c8T (wpAny_isInstance (T := "reversed") (b:=true) hT (by rw[isSubtype_type];kernel_rfl) ?_)
 refine wpAny_ite_split (fun z=>absurd z (by decide)) (fun _=>?_)
 have hzl:(items.size:Int)<2 ^ 63:=by
  have:sizeLine<2 ^ 62:=by decide
  omega
 refine wpAny_ite_split (fun z=>absurd z (by decide +kernel)) (fun _=>?_)
 refine c8T (wpAny_rule ?_)
 refine c8T (wpAny_of_eq (a2N.bind _) ?_)
 try dsimp only
 refine c8T (wpAny_attempt (wpAny_call_entry a2N hT a9y ?_ (a9L _)))
 unfold Builtin.«reversed.__length_hint__»
 refine c8T (wpAny_of_eq (a:=Value.ref it) rfl ?_)
 try dsimp only
 refine c8T (wpAny_field ho hd (x:=.ref l) rfl ?_)
 try dsimp only
 rw[if_neg (show ¬ (Value.ref l == Value.none)=true from c9n)]
 refine c8T (len_tuple hl hzl ?_)
 refine c8T (wpAny_of_eq (a:=some (items.size:Int)) rfl ?_)
 try dsimp only
 refine c8T (wpAny_field ho hd (x:=rawInt ((items.size:Int) - 1)) rfl ?_)
 try dsimp only
 show wpAny _ _ (if (items.size:Int)<((items.size:Int) - 1)+1 then _ else _) _ _ _
 rw[if_neg (by omega)]
 refine c8T (wpAny_mkInt (c84 ⟨_,rfl,?_⟩))
 refine c8T (wpAny_of_eq (a:=some ((items.size:Int) - 1+1)) rfl ?_)
 try dsimp only
 rw[show(items.size:Int) - 1+1=items.size by omega]
 rw[if_neg (by
  unfold Builtin.List.listFitsIndex
  rw[d15,decide_eq_true (show -(2 ^ 63:Int)≤(items.size:Int)by omega),decide_eq_true hzl];decide),if_neg (by omega),if_neg (by
  unfold Builtin.List.listTooLong
  rw[decide_eq_true_eq,c9X];omega)]
 refine c84 ?_
 have e:((items.size:Int) != 0)=decide ((items.size:Int)≠0):=by
  by_cases z:(items.size:Int)=0
  ·rw[z];rfl
  ·rw[decide_eq_true z,bne_iff_ne.mpr z]
 rw[e]
 exact h _
theorem b2I(hh:A.handled=none)(I l:Addr)(hne:l≠I)(items:Array Value)(hz:(items.size:Int)<2 ^ 63) :
  Walks prog w A I [I,l] [I] items.size (fun i v=>items[items.size - 1 - i]? = some v) (fun i h=>i≤items.size∧P6 h I l ((items.size:Int) - 1 - (i:Int))∧IsTup h l items) where
 sub:=fun b hb=>by simp at hb;simp[hb]
 frame:=fun _ _ _ x hk=>⟨x.1,x.2.1.at fun o e=>hk I (by simp) o e,let ⟨o,ho,r⟩:=x.2.2;⟨o,hk l (by simp) o ho,r⟩⟩
 item:=fun i s Q E hi x hQ=>by
  have e:(items.size:Int) - 1 - (i:Int)=((items.size - 1 - i:Nat):Int):=by omega
  have hit:=x.2.1
  rw[e]at hit
  have hx:items[items.size - 1 - i]? = some (items[items.size - 1 - i]'(by omega)):=Array.getElem?_eq_getElem (by omega)
  refine b5S hit x.2.2 hz hx fun h' t hit' hs'=>?_
  have e2:((items.size - 1 - i:Nat):Int) - 1=(items.size:Int) - 1 - ((i+1:Nat):Int):=by omega
  rw[e2]at hit'
  exact hQ _ h' t hx ⟨hi,hit',let ⟨o,ho,r⟩:=x.2.2;⟨o,(hs'.2 l hne).trans ho,r⟩⟩ fun b o hb eo=>hs'.extBut b o (fun h=>hb (by simp[h])) eo
 done:=fun s Q E x hQ=>by
  have e:(items.size:Int) - 1 - (items.size:Int) = -1:=by omega
  have hit:=x.2.1
  rw[e]at hit
  exact b4W hh hit fun h' he'=>hQ h' s.toks fun b o hb eo=>he' b o (fun h=>hb (by simp[h])) eo
 self:=fun _ _ _ _ x hQ=>a9t x.2.1 hQ
theorem a9X{R:Result→Shared→Prop}{it l S:Addr}{items:Array Value}{c₀:Nat}(hh:A.handled=none)(hit:P6 s.heap it l ((items.size:Int) - 1))(hl:IsTup s.heap l items)(hne:l≠it)(hi:S≠it)(hj:S≠l)(hz:items.size≤sizeLine)
  (hS:s.heap.get? S=some { cls:=.type "list",data:=.seq #[] c₀ })
  (fin:∀ h' tk acc c1,(∀ b o,b≠S→b≠it→s.heap.get? b=some o→h'.get? b=some o)→h'.get? S=some { cls:=.type "list",dict:=none,data:=.seq acc c1,slots:=#[] }→ItemsOf (a2V items) acc items.size→R (.ok (.ret .none)) { s with heap:=h',toks:=tk }) :
  wpAny (model prog w) A.in1 (Builtin.List.listExtendWith (.ref S) (.ref it) .none) (a9P prog w A R) (fun e s'=>R (.error e) s') s:=by
 have hz2:(items.size:Int)<2 ^ 63:=by
  have:sizeLine<2 ^ 62:=by decide
  omega
 have V:=(b2I (prog:=prog) (w:=w) (A:=A.in1) hh it l hne items hz2).toS
 have nf:S∉[it,l]:=fun q=>by
  rcases c9l.mp q with q|q
  ·exact hi q
  ·exact hj (c88.mp q)
 unfold Builtin.List.listExtendWith
 refine c8T (wpAny_typeOf hit.typeIs ?_)
 have n1:Builtin.List.listSameRef (.ref S) (.ref it)=false:=by simp[Builtin.List.listSameRef,hi]
 have n2:(Value.type "reversed" == Value.type "list")=false:=by decide
 have n3:(Value.type "reversed" == Value.type "tuple")=false:=by decide
 simp only[n1,n2,n3,Bool.or_false,c9U,if_false]
 refine c8T (a9t hit (c8T (wpAny_holding (b6k hit hl hz fun t=>?_))))
 have h0:((items.size:Int) - 1 - ((0:Nat):Int))=(items.size:Int) - 1:=by omega
 refine wpAny_ite_split (fun _=>?_) (fun _=>?_)
 ·refine c8T (wpAny_rule ?_)
  refine c8T ?_
  show wpAny _ A.in1 (updateSeq S (·.push .none) >>= fun _=>updateSeq S (·.pop)) _ _ _
  refine c8T (wpAny_updateSeq hS rfl ?_)
  have g2:=c9E (Obj.mapSeq (·.push Value.none)) hS rfl
  refine wpAny_updateSeq (hz:=by seq_fits) g2 rfl ?_
  have g3:=c9E (Obj.mapSeq (·.pop)) g2 rfl
  have oth:∀ b o,b≠S→s.heap.get? b=some o→((s.heap.update S (Obj.mapSeq (·.push Value.none))).update S (Obj.mapSeq (·.pop))).get? b=some o :=
   fun b o q1 q2=>(c9v _ _ (Ne.symm q1)).trans ((c9v _ _ (Ne.symm q1)).trans q2)
  refine c84 ⟨plainId_quiet F.plain_extend_loop _,?_⟩
  refine codeAny_extend_loopS V hz S nf .none items.size 0 _ #[] _ rfl (c9K _) ⟨c9K _,by rw[h0];exact hit.at fun o e=>oth it o (Ne.symm hi) e,let ⟨o,ho,r⟩:=hl;⟨o,oth l o (Ne.symm hj) ho,r⟩⟩ g3 (ItemsOf.nil _) fun s2 acc c1 mv g1 g2=>?_
  rw[Moved.eq_with mv]
  exact fin s2.heap s2.toks acc c1 (fun b o q1 q2 q3=>mv.heap b o (fun q=>(c9l.mp q).elim q1 fun q'=>q2 (c88.mp q')) (oth b o q1 q3)) g1 g2
 ·refine c84 ⟨plainId_quiet F.plain_extend_loop _,?_⟩
  refine codeAny_extend_loopS V hz S nf .none items.size 0 _ #[] c₀ rfl (c9K _) ⟨c9K _,by rw[h0];exact hit,hl⟩ hS (ItemsOf.nil _) fun s2 acc c1 mv g1 g2=>?_
  rw[Moved.eq_with mv]
  exact fin s2.heap s2.toks acc c1 (fun b o q1 q2 q3=>mv.heap b o (fun q=>(c9l.mp q).elim q1 fun q'=>q2 (c88.mp q')) q3) g1 g2
theorem b4P{R:Result→Shared→Prop}{it l S:Addr}{items:Array Value}(hh:A.handled=none)(hit:P6 s.heap it l ((items.size:Int) - 1))(hl:IsTup s.heap l items)(hne:l≠it)(hi:S≠it)(hj:S≠l)(hz:items.size≤sizeLine)
  (hS:s.heap.get? S=some { cls:=.type "list",data:=.seq #[] })
  (fin:∀ h' tk acc c1,(∀ b o,b≠S→b≠it→s.heap.get? b=some o→h'.get? b=some o)→h'.get? S=some { cls:=.type "list",dict:=none,data:=.seq acc c1,slots:=#[] }→ItemsOf (a2V items) acc items.size→R (.ok (.ret .none)) { s with heap:=h',toks:=tk }) :
  wpAny (model prog w) A.in1 (Builtin.«list.__init__» ⟨[.ref S,.ref it],[]⟩) (a9P prog w A R) (fun e s'=>R (.error e) s') s:=by
 show wpAny _ A.in1 (Builtin.List.listItems (.ref S) >>= fun was=>Builtin.List.listUpdate (.ref S) (fun _=>#[]) >>= fun _=>letGo was.toList.reverse >>= fun _=>Builtin.List.listExtendWith (.ref S) (.ref it) .none) (a9P prog w A R) (fun e s'=>R (.error e) s') s
 unfold Builtin.List.listItems
 refine c8T (c8T (wpAny_seqItems hS rfl (c84 ?_)))
 show wpAny _ A.in1 (updateSeq S (fun _=>#[]) >>= fun _=>letGo (#[]:Array Value).toList.reverse >>= fun _=>Builtin.List.listExtendWith (.ref S) (.ref it) .none) (a9P prog w A R) (fun e s'=>R (.error e) s') s
 refine c8T (wpAny_updateSeq hS rfl (c8T (wpAny_letGo ?_)))
 have g:=c9E (Obj.mapSeq fun _=>(#[]:Array Value)) hS rfl
 have oth:∀ b o,b≠S→s.heap.get? b=some o→(s.heap.update S (Obj.mapSeq fun _=>(#[]:Array Value))).get? b=some o:=fun b o q1 q2=>(c9v _ _ (Ne.symm q1)).trans q2
 refine a9X hh (hit.at fun o e=>oth it o (Ne.symm hi) e) (let ⟨o,ho,r⟩:=hl;⟨o,oth l o (Ne.symm hj) ho,r⟩) hne hi hj hz g fun h' tk acc c1 q1 q2 q3=>?_
 exact fin h' tk acc c1 (fun b o b1 b2 e=>q1 b o b1 b2 (oth b o b1 e)) q2 q3
theorem a5C{it l:Addr}{items:Array Value}{Q:Value→Shared→Prop}(hh:A.handled=none)(hit:P6 s.heap it l ((items.size:Int) - 1))(hl:IsTup s.heap l items)(hne:l≠it)(hz:items.size≤sizeLine)
  (fin:∀ h' tk acc c1,(∀ b o,b≠it→s.heap.get? b=some o→h'.get? b=some o)→h'.get? s.heap.objs.size=some { cls:=.type "list",dict:=none,data:=.seq acc c1,slots:=#[] }→ItemsOf (a2V items) acc items.size→Q (.ref s.heap.objs.size) { s with heap:=h',toks:=tk }) :
  wpAny (model prog w) A (call (.type "list") [.ref it]) Q E s:=by
 obtain⟨oi,hoi,_⟩:=id hit
 obtain⟨ol,hol,_⟩:=id hl
 have i1:s.heap.objs.size≠it:=c92 (c89 hoi)
 have i2:s.heap.objs.size≠l:=c92 (c89 hol)
 let h1:=s.heap.push { cls:=.type "list",data:=.seq #[] }
 have up:∀ b o,s.heap.get? b=some o→h1.get? b=some o:=fun b o e=>c8X _ e
 have gS:h1.get? s.heap.objs.size=some { cls:=.type "list",data:=.seq #[] }:=c86 _ rfl
 refine callType_codes (Q₁:=fun x s1=>x = .ref s.heap.objs.size∧s1 = { s with heap:=h1 }) F.called_list (F.typeCall_list_1 _) F.entry_list_init (code_list_new _ ⟨rfl,rfl⟩) ?_
 rintro x s1 ⟨rfl,rfl⟩
 refine⟨⟨_,gS,rfl⟩,F.args_list_init_2 _ _,b4P (A:=A.in1) hh (hit.at fun o e=>up it o e) (let ⟨o,ho,r⟩:=hl;⟨o,up l o ho,r⟩) hne i1 i2 hz gS fun h' tk acc c1 q1 q2 q3=>?_⟩
 exact⟨rfl,fin h' tk acc c1 (fun b o b1 e=>q1 b o (c9y (c89 e)) b1 (up b o e)) q2 q3⟩
end
end L2
namespace L2
open PySem PySem.Spec PyProof.Rows
section
variable {X:Cx}
noncomputable def rvO(k:Bool)(a:Addr)(n:Nat):Obj:=if k=true then revObj a ((n:Int) - 1)else a6M a ((n:Int) - 1)
noncomputable def rvφ(k:Bool)(p a:Addr)(n:Nat):Heap→Prop:=fun h=>h.get? p=some (rvO k a n)
theorem a7W:D7 X (.type "reversed") (fun xs H Q=>∃ a k ys,xs=[.ref a]∧SqK X.K k H a ys∧∀ p,H p=none→p≠a→X.s₀.heap.objs.size≤p→Q (.ref p) (upd H p (.ext (rvφ k p a ys.length)))):=by
 intro pins s σ H xs us Q I rv h
 obtain⟨a,k,ys,rfl,sq,q⟩:=h
 obtain⟨u,rfl,ru⟩:=rv.one
 cases ru
 cases k with
 | true =>
  obtain⟨its,r,ht,hz⟩:=I.list sq
  have hl:=r.length
  obtain⟨o,ho,_⟩:=id ht.isList
  refine call_reversed_list ht.isList ⟨.ref s.heap.objs.size,_,I.laid (t':=s.toks) (o:=.ext (rvφ true s.heap.objs.size a ys.length)) (fun b u e=>c8X _ e) (c9b _) ?_,rfl,q _ I.fresh (c92 (c89 ho)) I.sz⟩
  have e:(s.heap.push (revObj a ((its.toArray.size:Int) - 1))).get? s.heap.objs.size=some (rvO true a ys.length):=by
   rw[c86 _ rfl,hl];rfl
  exact⟨e,⟨_,e⟩,fun h1 h2 z k=>k _ z⟩
 | false =>
  obtain⟨its,r,ht,hz⟩:=I.tuple sq
  have hl:=r.length
  obtain⟨o,ho,_⟩:=id ht
  have hz2:((its.toArray.size:Nat):Int)<2 ^ 63:=by
   have:sizeLine<2 ^ 62:=by decide
   rw[c9c]
   omega
  refine b6R ht hz2 fun t=>⟨.ref s.heap.objs.size,_,I.laid (t':=t) (o:=.ext (rvφ false s.heap.objs.size a ys.length)) (fun b u e=>c8X _ e) (c9b _) ?_,rfl,q _ I.fresh (c92 (c89 ho)) I.sz⟩
  have e:(s.heap.push (a6M a ((its.toArray.size:Int) - 1))).get? s.heap.objs.size=some (rvO false a ys.length):=by
   rw[c86 _ rfl,hl];rfl
  exact⟨e,⟨_,e⟩,fun h1 h2 z k=>k _ z⟩
theorem a9C(hc:X.calm=true):D7 X (.type "list") (fun xs H Q=>∃ it a k ys,xs=[.ref it]∧H it=some (.ext (rvφ k it a ys.length))∧SqK X.K k H a ys∧a≠it∧X.s₀.heap.objs.size≤it∧∀ p,H p=none→Q (.ref p) (a4O (upd H p (.lst ys.reverse)) it)):=by
 intro pins s σ H xs us Q I rv h
 obtain⟨it,a,k,ys,rfl,hit,sq,hne,hge,q⟩:=h
 obtain⟨u,rfl,ru⟩:=rv.one
 cases ru
 have hob:s.heap.get? it=some (rvO k a ys.length):=(I.hok it _ hit).1
 obtain⟨its,r,hz,hcall⟩:∃ its:List Value,q9 ys its∧ys.length≤sizeLine∧∀(A:Around) (E:Value→Shared→Prop) (Q:Value→Shared→Prop),A.handled=none→(∀ h' tk acc c1,(∀ b o,b≠it→s.heap.get? b=some o→h'.get? b=some o)→h'.get? s.heap.objs.size=some { cls:=.type "list",dict:=none,data:=.seq acc c1,slots:=#[] }→ItemsOf (a2V its.toArray) acc its.toArray.size→Q (.ref s.heap.objs.size) { s with heap:=h',toks:=tk })→wpAny (model X.prog X.w) A (call (.type "list") [.ref it]) Q E s:=by
  cases k with
  | true =>
   obtain⟨its,r,ht,hz⟩:=I.list sq
   have hsz:its.toArray.size=ys.length:=by rw[c9c];exact r.length.symm
   exact⟨its,r,hz,fun A E Q hA fin=>a5D hA ⟨_,hob,rfl,by rw[hsz];rfl⟩ ht.isList hne (by rw[hsz];exact hz) fin⟩
  | false =>
   obtain⟨its,r,ht,hz⟩:=I.tuple sq
   have hsz:its.toArray.size=ys.length:=by rw[c9c];exact r.length.symm
   exact⟨its,r,hz,fun A E Q hA fin=>a5C hA ⟨_,hob,rfl,by rw[hsz];rfl⟩ ht hne (by rw[hsz];exact hz) fin⟩
 refine hcall _ _ _ (I.ok.hd hc) fun h' tk acc c1 k1 k2 k3=>?_
 have hacc:=b2Z k3
 have fr:=I.fresh
 have ex:∀{b o},s.heap.get? b=some o→b≠s.heap.objs.size:=fun e=>c9y (c89 e)
 have old:∀{b u},H b=some u→b≠s.heap.objs.size:=fun{b u} e z=>by rw[z,fr]at e;cases e
 have nit:∀{b u},H b=some u→u ≠ .ext (rvφ k it a ys.length)→b≠it:=fun{b u} e n z=>by
  rw[z,hit]at e;exact n (Option.some.inj e).symm
 have here:∀{b},b≠s.heap.objs.size→b≠it→a4O (upd H s.heap.objs.size (.lst ys.reverse)) it b=H b:=fun b1 b2=>by rw[a4N b2,j8 b1]
 have un:Un (frs X.stack) [it] H (a4O (upd H s.heap.objs.size (.lst ys.reverse)) it) s.heap h':={
  keep:=fun b o e n _ hx=>k1 b o (fun z=>hx (by simp[z])) e
  slot:=fun b o e n _ hx=>⟨o.slots,k1 b o (fun z=>hx (by simp[z])) e⟩
  free:=fun b o e n hx=>by rw[here (ex e) (fun z=>hx (by simp[z]))];exact n
  there:=fun b o e hx=>⟨o,k1 b o (fun z=>hx (by simp[z])) e⟩
  tups:=fun b xs e=>by rw[here (old e) (nit e (by simp))];exact e
  frzs:=fun b o u e=>by rw[here (old e) (nit e (by simp))];exact e
  tbls:=fun b ps e=>⟨#[],by rw[here (old e) (nit e (by simp))];simpa using e⟩ }
 have ok:HOk X.prog X.w (a4O (upd H s.heap.objs.size (.lst ys.reverse)) it) h':=fun b u e=>by
  have b2:b≠it:=fun z=>by rw[z,a4M]at e;cases e
  rw[a4N b2]at e
  by_cases b1:b=s.heap.objs.size
  ·subst b1
   rw[j6]at e
   cases e
   exact⟨by rw[c9w];exact hz,acc.toList,c1,by rw[hacc];exact r.reverse,k2⟩
  ·rw[j8 b1]at e
   refine(I.hok b u e).stay (fun c v hcv z=>k1 c v ?_ z) (fun c z=>?_) fun c xs z=>?_
   ·rcases hcv with z2|z2
    ·rw[z2];exact b2
    ·exact nit z2 (by simp)
   ·rw[here (old z) (nit z (by simp))];exact z
   ·rw[here (old z) (nit z (by simp))];exact z
 refine⟨.ref s.heap.objs.size,_,I.call (g':=s.gens) (d':=s.drawn) (t':=tk) un ok I.bare (fun b hb=>?_),rfl,q _ fr⟩
 obtain rfl:b=it:=by simpa using hb
 refine⟨.inr hge,fun z=>?_,fun x c e z=>?_,fun p hp z=>?_⟩
 ·rw[z,I.free]at hit;cases hit
 ·rw[← z,I.freeC x c e]at hit;cases hit
 ·rw[← z,(I.pin p hp).2.1]at hit;cases hit
end
end L2
namespace L2
open PySem PySem.Spec PyProof.Rows
section
variable {prog:Program} {w:World} {A:Around} {E:Value→Shared→Prop} {s:Shared}
theorem b2c{h h2:Heap}{a b:Addr}{its:Array Value}(x:h.IsList a its)(hs:Heap.ExtBut b h h2)(ne:a≠b):h2.IsList a its:=x.at fun o e=>hs a o ne e
theorem a9z{it l:Addr}{its:Array Value}(hne:l≠it):∀(n i:Nat) (s:Shared) (Q:List Value→Shared→Prop),s.heap.IsListIter it l i→s.heap.IsList l its→i+n≤its.size →
  (∀ h2,h2.IsListIter it l (i+n)→Heap.SameBut it s.heap h2→Q ((its.toList.drop i).take n) { s with heap:=h2 })→wpAny (model prog w) A (draw (.ref it) n) Q E s
 | 0,i,s,Q,hi,_,_,k=>by
  show wpAny _ _ (pure []) Q E s
  refine c84 ?_
  simpa using k s.heap hi (Heap.SameBut.refl ..)
 | n+1,i,s,Q,hi,hl,hle,k=>by
  have lt:i<its.size:=by omega
  show wpAny _ _ (pyNext (.ref it) >>= _) Q E s
  refine c8T (wpAny_pyNext_list_item hi hl (x:=its[i]) (by simp[lt]) fun h1 hi1 hs1=>c8T (wpAny_holding ?_))
  refine a9z hne n (i+1) _ _ hi1 (b2c hl hs1.extBut hne) (by omega) fun h2 hi2 hs2=>c84 ?_
  have e:its.toList.drop i=its[i] :: its.toList.drop (i+1):=by simp[List.drop_eq_getElem_cons,lt]
  have z:=k h2 (by rw[show i+(n+1)=i+1+n by omega];exact hi2) (hs1.trans hs2)
  rw[e,List.take_succ_cons]at z
  exact z
theorem a9T{l:Addr}{its:Array Value}{ts:List (Bool × (Value→Sem Unit))}{Q:Unit→Shared→Prop}(hh:A.handled=none)(hl:s.heap.IsList l its)(hn:ts.length=its.size)(hst:ts.findIdx? (·.1)=none)
  (k:∀ h2,Heap.ExtBut s.heap.objs.size s.heap h2→wpAny (model prog w) A (assignInOrder (ts.map (·.2)) its.toList) Q E { s with heap:=h2 }):wpAny (model prog w) A (unpack (.ref l) ts) Q E s:=by
 have ne:l≠s.heap.objs.size:=by obtain⟨o,ho,_⟩:=hl;exact c9y (c89 ho)
 unfold unpack
 rw[hn,hst]
 refine c8T (wpAny_holding ?_)
 unfold unpackItems
 refine c8T ?_
 unfold notIterableAtAll
 refine c8T (wpAny_specialOf hl.typeIs F.slot_list_iter.lookup (c84 ?_))
 simp only[c9U,if_false]
 refine c8T (wpAny_holding (wpAny_pyIter_list hl ?_))
 refine c8T (wpAny_holding (a9z ne its.size 0 _ _ ⟨_,c86 _ rfl,rfl,rfl⟩ (hl.at fun o e=>c8X _ e) (by omega) fun h1 hi1 hs1=>?_))
 have all:List.take its.size (List.drop 0 its.toList)=its.toList:=by
  rw[List.drop_zero];exact d0d (by simp)
 rw[all,if_neg (by simp)]
 have hl1:h1.IsList l its:=b2c (hl.at fun o e=>c8X _ e) hs1.extBut ne
 refine c8T (wpAny_holding (wpAny_pyNext_list_end hh hi1 hl1 (by simp) fun h2 he=>?_))
 simp only[Option.isSome_none,c9U,if_false]
 exact c84 (k h2 fun b o hb e=>he b o hb (hs1.extBut b o hb (c8X _ e)))
end
section
variable {X:Cx} {pos:Pos}
noncomputable def c2r(K:c8U)(n:Nat)(t:TGs):TG:=fun v σ H Q=>∃ a xs,v = .ref a∧SqL K H a xs∧xs.length=n∧t xs σ H Q
theorem b8D{es:List Expr}{k:Nat}{t:TGs}{n:Nat}(hc:X.calm=true)(h:PGs X es t)(hn:(assignEach es X.env).length=n:=by rfl)
  (hst:(assignEach es X.env).findIdx? (·.1)=none:=by rfl):PG X (.Tuple es k pos) (c2r X.K n t):=by
 intro pins s σ H v u Q I r hw
 obtain⟨a,xs,e1,hq,hl,hw⟩:=hw
 subst e1
 cases r
 obtain⟨its,rv,ht,hz⟩:=I.list hq
 rw[assign_Tuple]
 refine c8T (wpAny_standAt (a9T (I.ok.hd hc) ht.isList (by simp[hn,← hl,rv.length]) hst fun h2 hx=>?_))
 have I1:Inv X pins σ H { s with heap:=h2 }:=I.kept (t':=s.toks) fun b o e=>hx b o (c9y (c89 e)) e
 exact h pins _ σ H xs _ Q I1 (by simpa using rv) hw
end
end L2
namespace L2
open PySem PySem.Spec PyProof.Rows
noncomputable def Itb(K:c8U)(a:Addr)(n:Nat):It :=
 ⟨fun i H=>i<n∧∃ xs x,SqL K H a xs∧xs[n - 1 - i]? = some x,fun i H x H'=>H'=H∧∀ xs,SqL K H a xs→xs[n - 1 - i]? = some x,fun i _=>n≤i⟩
theorem b2Q{P:Program}{w:World}{K:c8U}{tg:Expr}(a it:Addr)(n:Nat):a73 P w K tg (Itb K a n) [it] it (fun i h=>i≤n∧h.IsRevIter it a ((n:Int) - 1 - (i:Int))) where
 mem:=by simp
 obj:=fun i h st b hb=>by
  obtain rfl:b=it:=by simpa using hb
  obtain⟨_,o,e,c,d⟩:=st
  exact⟨o,e,fun v z=>by rw[d]at z;cases z⟩
 keep:=fun i h h2 st k=>⟨st.1,st.2.at fun o e=>k it (by simp) o e⟩
 item:=by
  intro X hP hw hK hc i pins s σ H E I hf st hg
  subst hP hw hK
  obtain⟨hi,xs,x,hq,hx⟩:=hg
  obtain⟨its,rv,p,hz⟩:=I.list hq
  obtain⟨u,hu,ru⟩:=rv.get hx
  obtain⟨f0,f1,f2,f3,f4,f5⟩:=hf it (by simp)
  have e:(n:Int) - 1 - (i:Int)=((n - 1 - i:Nat):Int):=by omega
  have st2:=st.2
  rw[e]at st2
  refine wpAny_pyNext_rev_item st2 p.isList (x:=u) (by simpa using hu) fun h2 st3 sb=>?_
  have I1:Inv X pins σ H { s with heap:=h2 }:=I.turned (t':=s.toks) (fun b o hb e=>(sb.2 b hb).trans e) f0 f1 f3 f4 f5
  have e2:((n - 1 - i:Nat):Int) - 1=(n:Int) - 1 - ((i+1:Nat):Int):=by omega
  rw[e2]at st3
  obtain⟨o,e3,c,d⟩:=id st3
  exact⟨u,rfl,a9w (s:={ s with heap:=h2 }) e3 c d (by decide) ⟨x,H,I1,ru,⟨rfl,fun ys hy=>by rw[I.list_inj hy hq];exact hx⟩,⟨by omega,st3⟩,fun b hb=>(hf b hb).1⟩⟩
 done:=by
  intro X hP hw hK hc i pins s σ H E I hf st hg
  subst hP hw hK
  have hi:i=n:=Nat.le_antisymm st.1 hg
  obtain⟨f0,f1,f2,f3,f4,f5⟩:=hf it (by simp)
  have st2:=st.2
  rw[hi,show(n:Int) - 1 - (n:Int) = -1 by omega]at st2
  refine wpAny_pyNext_rev_end (I.ok.hd hc) st2 fun h2 he=>?_
  exact⟨rfl,I.turned (t':=s.toks) (fun b o hb e=>he b o hb e) f0 f1 f3 f4 f5⟩
 self:=fun A i s Q E st k=>wpAny_pyIter_revIter st.2 k
section
variable {X:Cx}
noncomputable def c4o(K:c8U)(ta:TA):TI:=fun σ H R=>ta σ H fun vs H1=>∃ a xs,vs=[.ref a]∧SqL K H1 a xs∧R (Itb K a xs.length) H1
theorem b8B{tg e:Expr}{ta:TA}{p pos:Pos}(hg:Gl X "reversed")(hm:X.mg "reversed" = none)(hv:bootBuiltins "reversed" = some (.type "reversed"))(ha:PA X [e] ta)
  (hs:starEach [e] X.env=[(false,eval e X.env)]:=by rfl):PI X tg (.Call (.Name "reversed" p) [e] [] pos) (c4o X.K ta):=by
 intro pins s σ H R I h
 refine Call_ (O1 I hg hm hv (PyProof.Rows.callWith_type1 (thn (ha pos pins s σ H _ I h) fun us s1 zz=>?_) hs rfl))
 ·obtain⟨vs,H1,I1,r1,a,xs,rfl,hq,q⟩:=zz
  obtain⟨u,rfl,ru⟩:=a0T r1
  cases ru
  obtain⟨its,rv,pl,hz⟩:=I1.list hq
  have hl:=rv.length
  refine call_reversed_list pl.isList ?_
  have I2:Inv X pins σ H1 { s1 with heap:=s1.heap.push (revObj a ((its.toArray.size:Int) - 1)) }:=I1.kept (t':=s1.toks) fun b o e=>c8X _ e
  have st:(s1.heap.push (revObj a ((its.toArray.size:Int) - 1))).IsRevIter s1.heap.objs.size a ((xs.length:Int) - 1 - ((0:Nat):Int)):=by
   refine⟨_,c86 _ rfl,rfl,?_⟩
   rw[c9c,← hl]
   show Data.fields _=_
   rw[show(xs.length:Int) - 1 - ((0:Nat):Int)=(xs.length:Int) - 1 by omega]
  refine wpAny_pyIter_revIter st ⟨s1.heap.objs.size,[s1.heap.objs.size],_,_,H1,rfl,I2,b2Q a _ xs.length,⟨c9K _,st⟩,fun b hb=>?_,q⟩
  obtain rfl:b=s1.heap.objs.size:=by simpa using hb
  exact I1.fpOk (c9b _) (I1.hok.fresh (c9b _))
end
end L2
namespace L2
open PySem PySem.Spec PyProof.Rows
section
variable {prog:Program} {w:World} {A:Around} {E:Value→Shared→Prop} {s:Shared}
end
end L2
namespace L2
open PySem
section
variable {prog:Program} {w:World} {A:Around} {E:Value→Shared→Prop} {s:Shared}
theorem b6x{k:Bool}{e p l:Addr}{n:Nat}{xs:Array Value}{v old:Value}{Q:Option Value→Shared→Prop}(ie:IsEnum s.heap e p n old)(g:SI k s.heap p l n)(m:SS k s.heap l xs)(hv:xs[n]? = some v)(hne:e≠p)
  (q:∀ h',IsEnumOut h' e p ((n:Int)+1) v s.heap.objs.size→SI k h' p l (n+1)→h'.get? s.heap.objs.size=some { cls:=.type "tuple",data:=.seq #[.int n s.toks,v] }→h'.objs.size=s.heap.objs.size+1 →
   (∀ b o,b≠e→b≠p→s.heap.get? b=some o→h'.get? b=some o)→Q (some (.ref s.heap.objs.size)) { s with heap:=h',toks:=s.toks+1 }):wpAny (model prog w) A (pyNext (.ref e)) Q E s:=by
 have ty:s.TypeIs (.ref e) "enumerate" := ⟨_,ie,rfl⟩
 unfold pyNext
 refine c8T (wpAny_attempt (wpAny_callSpecial?_slot (name:=Str.ofString "__next__") ty F.slot_enumerate_next (wpAny_call_entry F.slot_enumerate_next ty F.entry_enumerate_next ?_ (F.args_enumerate_next_1 _))))
 obtain⟨hp,gs,dr,tk,os⟩:=s
 show wpAny _ _ (field (.ref e) 2 >>= _) _ _ _
 refine c8T (wpAny_field ie rfl (x:=.ref p) rfl (c8T (a24 g m hv fun ha ga sa=>?_)))
 replace sa:Heap.SameBut p hp ha:=sa
 have ea:IsEnum ha e p n old:=(sa.2 e hne).trans ie
 show wpAny _ _ (field (.ref e) 3 >>= _) _ _ ⟨ha,gs,dr,tk,os⟩
 refine c8T (wpAny_field ea rfl (x:=rawInt n) rfl ?_)
 show wpAny _ _ (field (.ref e) 4 >>= _) _ _ ⟨ha,gs,dr,tk,os⟩
 refine c8T (wpAny_field ea rfl (x:=.none) rfl ?_)
 show wpAny _ _ (mkInt n >>= _) _ _ ⟨ha,gs,dr,tk,os⟩
 refine c8T (wpAny_mkInt ?_)
 show wpAny _ _ (setField (.ref e) 3 (rawInt ((n:Int)+1)) >>= _) _ _ ⟨ha,gs,dr,tk+1,os⟩
 refine c8T (wpAny_setField_rec ea (by simp) fun hb eb sb=>?_)
 replace sb:Heap.SameBut e ha hb:=sb
 replace eb:IsEnum hb e p ((n:Int)+1) old:=eb
 show wpAny _ _ (setField (.ref e) 4 .none >>= _) _ _ ⟨hb,gs,dr,tk+1,os⟩
 refine c8T (wpAny_setField_rec eb (by simp) fun hc ec sc=>?_)
 replace sc:Heap.SameBut e hb hc:=sc
 replace ec:IsEnum hc e p ((n:Int)+1) old:=ec
 show wpAny _ _ (newTuple [.int n tk,v] >>= _) _ _ ⟨hc,gs,dr,tk+1,os⟩
 refine c8T (wpAny_newTuple ?_)
 have zc:hc.objs.size=hp.objs.size:=by rw[sc.1,sb.1,sa.1]
 have ltE:e<hp.objs.size:=c89 ie
 obtain⟨hd,hhd⟩:∃ hd,hd=hc.push { cls:=.type "tuple",data:=.seq #[.int n tk,v] }:=⟨_,rfl⟩
 have ed:IsEnum hd e p ((n:Int)+1) old:=by rw[hhd];exact c8X _ ec
 have td:hd.get? hp.objs.size=some { cls:=.type "tuple",data:=.seq #[.int n tk,v] }:=by rw[hhd,← zc];exact c86 _ rfl
 have zd:hd.objs.size=hp.objs.size+1:=by rw[hhd,c9V,zc]
 have kd:∀ b o,b≠e→b≠p→hp.get? b=some o→hd.get? b=some o:=fun b o b1 b2 z=>by rw[hhd];exact c8X _ (sc.extBut b o b1 (sb.extBut b o b1 (sa.extBut b o b2 z)))
 have gd:SI k hd p l (n+1):=((ga.but sb.extBut (Ne.symm hne)).but sc.extBut (Ne.symm hne)).at fun o z=>by rw[hhd];exact c8X _ z
 show wpAny _ _ (Builtin.SmallTypes.ownedTupleIsFree (.ref e) >>= _) _ _ ⟨hc.push { cls:=.type "tuple",data:=.seq #[.int n tk,v] },gs,dr,tk+1,os⟩
 rw[← hhd,zc]
 refine c8T ?_;unfold Builtin.SmallTypes.ownedTupleIsFree
 refine c8T (wpAny_field ed rfl (x:=.none) rfl (c84 ?_));simp only[if_true]
 refine c8T (wpAny_rule (c8T (wpAny_field ed rfl (x:=old) rfl (c8T (wpAny_setField_rec ed (by simp) fun hf ef sf=>?_)))))
 replace sf:Heap.SameBut e hd hf:=sf
 replace ef:IsEnum hf e p ((n:Int)+1) v:=ef
 show wpAny _ _ (Builtin.SmallTypes.ownedTupleHandOut (.ref e) (.ref hp.objs.size) >>= _) _ _ ⟨hf,gs,dr,tk+1,os⟩
 refine c8T ?_;unfold Builtin.SmallTypes.ownedTupleHandOut
 refine c8T (wpAny_setField_rec ef (by simp) fun hg eg sg=>?_)
 replace sg:Heap.SameBut e hf hg:=sg
 replace eg:IsEnumOut hg e p ((n:Int)+1) v hp.objs.size:=eg
 refine wpAny_setField_rec eg (by simp) fun hh eh sh=>?_
 replace sh:Heap.SameBut e hg hh:=sh
 replace eh:IsEnumOut hh e p ((n:Int)+1) v hp.objs.size:=eh
 refine c8T (wpAny_letGo (c84 ⟨_,rfl,c84 (q hh eh ?_ ?_ ?_ ?_)⟩))
 ·exact((gd.but sf.extBut (Ne.symm hne)).but sg.extBut (Ne.symm hne)).but sh.extBut (Ne.symm hne)
 ·exact sh.extBut _ _ (c92 ltE) (sg.extBut _ _ (c92 ltE) (sf.extBut _ _ (c92 ltE) td))
 ·show hh.objs.size=hp.objs.size+1
  rw[sh.1,sg.1,sf.1,zd]
 ·exact fun b o b1 b2 z=>sh.extBut b o b1 (sg.extBut b o b1 (sf.extBut b o b1 (kd b o b1 b2 z)))
theorem b9l{k:Bool}{e p l:Addr}{n:Nat}{xs:Array Value}{old:Value}{Q:Option Value→Shared→Prop}(hA:A.handled=none)(ie:IsEnum s.heap e p n old)(g:SI k s.heap p l n)(m:SS k s.heap l xs)(hv:xs[n]? = none)
  (q:∀ h',Heap.ExtBut p s.heap h'→Q none { s with heap:=h' }):wpAny (model prog w) A (pyNext (.ref e)) Q E s:=by
 have ty:s.TypeIs (.ref e) "enumerate" := ⟨_,ie,rfl⟩
 unfold pyNext
 refine c8T (wpAny_attempt (wpAny_callSpecial?_slot (name:=Str.ofString "__next__") ty F.slot_enumerate_next (wpAny_call_entry F.slot_enumerate_next ty F.entry_enumerate_next ?_ (F.args_enumerate_next_1 _))))
 show wpAny _ _ (field (.ref e) 2 >>= _) _ _ _
 refine c8T (wpAny_field ie rfl (x:=.ref p) rfl (c8T (a95 hA g m hv fun h' x he' zz=>?_)))
 obtain⟨o,ho,hc⟩:=zz
 exact c8T (wpAny_isInstance (T := "StopIteration") (b:=true) ⟨o,ho,hc⟩ isSubtype_stop (c84 (q _ he')))
end
set_option maxHeartbeats 2000000 in
theorem b6y(l:Addr)(xs:Array Value)(n:Nat)(dct:Option Addr)(sl:Array (Option Value)) :
  Meets (Builtin.«enumerate.__new__» ⟨[.type "enumerate",.ref l],[]⟩) (fun _ R s=>s.heap.get? l=some { cls:=.type "tuple",dict:=dct,data:=.seq xs n,slots:=sl } ∧
   R (.ok (.ret (.ref (zA false s.heap l).objs.size))) { s with heap:=(zA false s.heap l).push { cls:=.type "enumerate",data:=.fields #[.none,.bool false,.ref s.heap.objs.size,rawInt 0,.none,.none] } }) :=
 .of_wp fun prog w A R s h=>by
  obtain⟨hp,g,d,tk,os⟩:=s
  obtain⟨hl,h⟩:=h
  have hsub:=sub_enumerate
  have hT:Heap.IsTuple (Shared.heap ⟨hp,g,d,tk,os⟩) l xs:=⟨_,hl,rfl,n,rfl⟩
  wp_walk using AutoSeq1.wpAny_loadPart' hl
  refine wpAny_stack_any fun st=>c84 ?_
  split
  ·rename_i c _ _ _ _ _
   cases(c == Value.type "enumerate")
   ·wp_walk using AutoSeq1.wpAny_loadPart' hl,wpAny_pyIter_tuple hT
    exact⟨_,rfl,h⟩
   ·wp_walk using AutoSeq1.wpAny_loadPart' hl,wpAny_pyIter_tuple hT
    exact⟨_,rfl,h⟩
  ·wp_walk using AutoSeq1.wpAny_loadPart' hl,wpAny_pyIter_tuple hT
   exact⟨_,rfl,h⟩
section
variable {prog:Program} {w:World} {A:Around} {E:Value→Shared→Prop} {s:Shared}
theorem b6T{k:Bool}{l:Addr}{xs:Array Value}{Q:Value→Shared→Prop}(m:SS k s.heap l xs)
  (q:∀ h',IsEnum h' (s.heap.objs.size+1) s.heap.objs.size 0 .none→SI k h' s.heap.objs.size l 0→h'.objs.size=s.heap.objs.size+2→(∀ b o,s.heap.get? b=some o→h'.get? b=some o)→Q (.ref (s.heap.objs.size+1)) { s with heap:=h' }) :
  wpAny (model prog w) A (call (.type "enumerate") [.ref l]) Q E s:=by
 cases k with
 | true=>exact call_enumerate_list m q
 | false =>
  obtain⟨⟨c,dct,dt,sl⟩,hl,hc,n,hd⟩:=m
  simp only at hc hd
  subst hc;subst hd
  refine callType_new F.called_enumerate (by decide) (F.typeCall_enumerate_1 _) (F.newCall_enumerate_1 _) (fun obj=>F.args_object_init_2 obj _) F.entry_enumerate_new (b6y l xs n dct sl) ⟨hl,?_⟩
  have s1:(zA false s.heap l).objs.size=s.heap.objs.size+1:=c9V ..
  have o1:((zA false s.heap l).push { cls:=.type "enumerate",data:=.fields #[.none,.bool false,.ref s.heap.objs.size,rawInt 0,.none,.none] }).get? (zA false s.heap l).objs.size=some _:=c86 _ rfl
  show _∧_
  rw[s1]at o1 ⊢
  exact⟨⟨_,o1,rfl⟩,q _ o1 ⟨_,c8X _ (c86 _ rfl),rfl,rfl⟩ (by rw[c9V,s1]) fun b o e=>c8X _ (c8X _ e)⟩
end
end L2
namespace L2
open PySem PySem.Spec PyProof.Rows
noncomputable def Ite(K:c8U)(k:Bool)(l:Addr):It :=
 ⟨fun i H=>∃ xs x,SqK K k H l xs∧xs[i]? = some x,
  fun i H v H'=>∃ T x,H T=none∧v = .ref T∧H'=upd H T (.tup [.int i,x])∧∀ xs,SqK K k H l xs→xs[i]? = some x,
  fun i H=>∃ xs,SqK K k H l xs∧xs.length≤i⟩
noncomputable def c2Q(k:Bool)(e p l:Addr)(i:Nat)(h:Heap):Prop:=(∃ old,IsEnum h e p i old)∧SI k h p l i
theorem b2O{P:Program}{w:World}{K:c8U}{elts:List Expr}{kx:Nat}{tp:Pos}{k:Bool}{e p l:Addr}(hne:e≠p):a73 P w K (.Tuple elts kx tp) (Ite K k l) [e,p] e (c2Q k e p l) where
 mem:=by simp
 obj:=fun i h ⟨⟨old,ie⟩,g⟩ c hc=>by
  simp only[c9l,c9u,or_false]at hc
  rcases hc with rfl|rfl
  ·exact⟨_,ie,fun v z=>by cases z⟩
  ·exact g.obj
 keep:=fun i h h' ⟨⟨old,ie⟩,g⟩ kk=>⟨⟨old,kk e (by simp) _ ie⟩,g.at fun o z=>kk p (by simp) o z⟩
 item:=by
  intro X hP hw hK hc i pins s σ H E I hf st hg
  subst hP hw hK
  obtain⟨⟨old,ie⟩,g⟩:=st
  obtain⟨xs,x,q1,hx⟩:=hg
  obtain⟨is1,r1,m1⟩:=I.sqk q1
  obtain⟨u1,hu1,ru1⟩:=r1.get hx
  refine b6x ie g m1 (v:=u1) (by simpa using hu1) hne fun h' a1 a2 a3 a4 kk=>?_
  refine⟨_,rfl,?_⟩
  refine wpAny_letOwnedTupleGo_enum (s:={ s with heap:=h',toks:=s.toks+1 }) a1 fun h2 b1 b2=>?_
  have lt:∀{c o},s.heap.get? c=some o→c≠s.heap.objs.size:=fun z=>c9y (c89 z)
  have I1:Inv X pins σ (upd H s.heap.objs.size (.tup [.int i,x])) { s with heap:=s.heap.push { cls:=.type "tuple",data:=.seq #[.int i s.toks,u1] },toks:=s.toks+1 } :=
   I.laid (o:=.tup [.int i,x]) (fun b ob q=>c8X _ q) (c9b _) ⟨(show 2≤sizeLine by decide),[.int i s.toks,u1],.cons ⟨_,rfl⟩ (.cons ru1 .nil),IsTup.new _ _⟩
  have nfp:∀ c∈[e,p],c≠s.heap.objs.size:=fun c hc=>by
   simp only[c9l,c9u,or_false]at hc
   rcases hc with rfl|rfl
   ·exact lt ie
   ·obtain⟨o,z,_⟩:=g.obj;exact lt z
  have hf':∀ c∈[e,p],a1r X pins (upd H s.heap.objs.size (.tup [.int i,x])) c:=fun c hc=>by
   obtain⟨f0,f1⟩:=hf c hc
   exact⟨by rw[j8 (nfp c hc)];exact f0,f1⟩
  have I2:Inv X pins σ (upd H s.heap.objs.size (.tup [.int i,x])) { s with heap:=h2,toks:=s.toks+1 }:=by
   refine Inv.turnedN (s:={ s with heap:=s.heap.push { cls:=.type "tuple",data:=.seq #[.int i s.toks,u1] },toks:=s.toks+1 }) (t':=s.toks+1) (h':=h2) (ch:=[e,p]) I1 (fun c o hcn z=>?_) hf'
   simp only[c9l,c9u,or_false,not_or]at hcn
   obtain⟨n1,n2⟩:=hcn
   refine b2.extBut c o n1 ?_
   have z':(s.heap.push { cls:=.type "tuple",data:=.seq #[.int i s.toks,u1] }).get? c=some o:=z
   by_cases hcs:c=s.heap.objs.size
   ·subst hcs
    rw[c86 _ rfl]at z'
    cases z'
    exact a3
   ·rw[d14 _ _ _ hcs]at z'
    exact kk c o n1 n2 z'
  refine⟨.ref s.heap.objs.size,_,I2,rfl,⟨_,x,I.hok.fresh (c9b _),rfl,rfl,fun zs hz=>by rw[I.sqk_inj hz q1];exact hx⟩,?_,fun c hc=>(hf' c hc).1⟩
  have ec:((i+1:Nat):Int)=(i:Int)+1:=by omega
  exact⟨⟨u1,by rw[ec];exact b1⟩,a2.at fun o z=>b2.extBut p o (Ne.symm hne) z⟩
 done:=by
  intro X hP hw hK hc i pins s σ H E I hf st hg
  subst hP hw hK
  obtain⟨⟨old,ie⟩,g⟩:=st
  obtain⟨xs,q1,hx⟩:=hg
  obtain⟨is1,r1,m1⟩:=I.sqk q1
  have e1:=r1.length
  refine b9l (I.ok.hd hc) ie g m1 (by simp;omega) fun h' kk=>⟨rfl,?_⟩
  refine I.turnedN (t':=s.toks) (ch:=[e,p]) (fun c o hcn z=>?_) hf
  simp only[c9l,c9u,or_false,not_or]at hcn
  exact kk c o hcn.2 z
 self:=fun _ _ _ _ _ st h=>let ⟨⟨_,ie⟩,_⟩:=st;wpAny_pyIter_enum ie h
noncomputable def c4n(K:c8U)(ta:TA):TI:=fun σ H R=>ta σ H fun vs H1=>∃ k l,vs=[.ref l]∧(∃ xs,SqK K k H1 l xs)∧R (Ite K k l) H1
theorem b8A{X:Cx}{elts:List Expr}{kx:Nat}{tp:Pos}{a:Expr}{ta:TA}{p pos:Pos}(hg:Gl X "enumerate")(hm:X.mg "enumerate" = none)(ha:PA X [a] ta)(hs:starEach [a] X.env=[(false,eval a X.env)]:=by rfl) :
  PI X (.Tuple elts kx tp) (.Call (.Name "enumerate" p) [a] [] pos) (c4n X.K ta):=by
 intro pins s σ H R I h
 refine Call_ (O1 I hg hm PyProof.Rows.boot_enumerate (PyProof.Rows.callWith_type1 (thn (ha pos pins s σ H _ I h) fun us s1 ⟨vs,H1,I1,r1,q1⟩=>?_) hs rfl))
 obtain⟨k,l,e,⟨xs,q2⟩,q⟩:=q1
 subst e
 cases r1 with
 | cons r rr =>
  cases rr
  cases r
  obtain⟨is1,_,m1⟩:=I1.sqk q2
  refine b6T m1 fun h' a1 a2 a3 kk=>?_
  refine wpAny_pyIter_enum (s:={ s1 with heap:=h' }) a1 ?_
  refine⟨s1.heap.objs.size+1,_,_,_,H1,rfl,I1.kept (t':=s1.toks) kk,b2O (Nat.succ_ne_self _),⟨⟨_,a1⟩,a2⟩,fun c hc=>?_,q⟩
  have hge:s1.heap.objs.size≤c:=by
   simp only[c9l,c9u,or_false]at hc
   rcases hc with rfl|rfl
   ·exact d0y _ _
   ·exact c9b _
  exact I1.fpOk hge (I1.hok.fresh hge)
end L2
namespace L2
open PySem
theorem PE.imp{X:Cx}{x:Expr}{t t':TE}(h:PE X x t)(i:∀ σ H Q,t' σ H Q→t σ H Q):PE X x t':=fun pins s σ H Q I q=>h pins s σ H Q I (i σ H Q q)
theorem PT.imp{X:Cx}{x:Expr}{t t':TT}(h:PT X x t)(i:∀ σ H Q,t' σ H Q→t σ H Q):PT X x t':=fun pins s σ H Q I q=>h pins s σ H Q I (i σ H Q q)
theorem PW.imp{X:Cx}{x:Expr}{t t':TT}(h:PW X x t)(i:∀ σ H Q,t' σ H Q→t σ H Q):PW X x t':=fun wh pins s σ H Q I q=>h wh pins s σ H Q I (i σ H Q q)
theorem PA.imp{X:Cx}{x:List Expr}{t t':TA}(h:PA X x t)(i:∀ σ H Q,t' σ H Q→t σ H Q):PA X x t':=fun pos pins s σ H Q I q=>h pos pins s σ H Q I (i σ H Q q)
theorem PS.imp{X:Cx}{x:Stmt}{t t':TS}(h:PS X x t)(i:∀ E σ H,t' E σ H→t E σ H):PS X x t':=fun pins s σ H D I q=>h pins s σ H D I (i D σ H q)
theorem PSs.imp{X:Cx}{x:List Stmt}{t t':TS}(h:PSs X x t)(i:∀ E σ H,t' E σ H→t E σ H):PSs X x t':=fun pins s σ H D I q=>h pins s σ H D I (i D σ H q)
theorem OpR.imp{X:Cx}{f:Value→Value→Sem Value}{r r':R2}(h:OpR X f r)(i:∀ x y H Q,r' x y H Q→r x y H Q):OpR X f r':=fun pins s σ H x y v u Q I rx ry q=>h pins s σ H x y v u Q I rx ry (i x y H Q q)
theorem IxR.imp{X:Cx}{r r':R2}(h:IxR X r)(i:∀ x y H Q,r' x y H Q→r x y H Q):IxR X r':=fun va sl pins s σ H x y v u Q I rx ry q=>h va sl pins s σ H x y v u Q I rx ry (i x y H Q q)
theorem PG.imp{X:Cx}{x:Expr}{t t':TG}(h:PG X x t)(i:∀ v σ H Q,t' v σ H Q→t v σ H Q):PG X x t':=fun pins s σ H v u Q I r q=>h pins s σ H v u Q I r (i v σ H Q q)
theorem PGs.imp{X:Cx}{x:List Expr}{t t':TGs}(h:PGs X x t)(i:∀ v σ H Q,t' v σ H Q→t v σ H Q):PGs X x t':=fun pins s σ H v u Q I r q=>h pins s σ H v u Q I r (i v σ H Q q)
end L2
namespace DL
open PySem PySem.Spec L2
open PyProof.Rows hiding St
inductive D where
 | non|bl (b:Bool)|int (i:Int)|str (x:Str)|ref (a:Addr)|tup (ds:List D)|vl (ds:List D)|ty (n:String)|dic
noncomputable def KL(K:c8U)(a:Addr)(xs:List V):Prop:=∀ H:Hp,SqL K H a xs
mutual
inductive Has (K:c8U) (H:Hp):V→D→Prop
 | non:Has K H .non .non
 | bl (b:Bool):Has K H (.bl b) (.bl b)
 | int (i:Int):Has K H (.int i) (.int i)
 | str (x:Str):Has K H (.str x) (.str x)
 | ref (a:Addr):Has K H (.ref a) (.ref a)
 | ty (n:String):Has K H (.ty n) (.ty n)
 | tup {a:Addr} {xs:List V} {ds:List D}:SqT K H a xs→HasL K H xs ds→Has K H (.ref a) (.tup ds)
 | vl {a:Addr} {xs:List V} {ds:List D}:((∃ o,H a=some (.frz o (.lst xs)))∨KL K a xs)→HasL K H xs ds→Has K H (.ref a) (.vl ds)
 | dic {a:Addr}:(∃ o:Obj,H a=some (.frz o (.own 0))∧o.cls = .type "dict")→Has K H (.ref a) .dic
inductive HasL (K:c8U) (H:Hp):List V→List D→Prop
 | nil:HasL K H [] []
 | cons {v:V} {d:D} {vs:List V} {ds:List D}:Has K H v d→HasL K H vs ds→HasL K H (v :: vs) (d :: ds)
end
structure KT0(H H':Hp):Prop where
 tp:∀ a xs,Rd H a (.tup xs)→Rd H' a (.tup xs)
 fz:∀ a o u,H a=some (.frz o u)→H' a=some (.frz o u)
structure KT(H H':Hp):Prop extends KT0 H H' where
 ex:∀ a φ,H a=some (.ext φ)→H' a=some (.ext φ)
theorem KT.refl(H:Hp):KT H H:=⟨⟨fun _ _ h=>h,fun _ _ _ h=>h⟩,fun _ _ h=>h⟩
theorem KT.trans{H H1 H2:Hp}(a:KT H H1)(b:KT H1 H2):KT H H2:=⟨⟨fun p xs h=>b.tp p xs (a.tp p xs h),fun p o xs h=>b.fz p o xs (a.fz p o xs h)⟩,fun p φ h=>b.ex p φ (a.ex p φ h)⟩
theorem KT0.sq{K:c8U}{H H':Hp}(k:KT0 H H'){a:Addr}{xs:List V}(h:SqT K H a xs):SqT K H' a xs:=h.elim (fun z=>.inl (k.tp a xs z)) .inr
theorem KT.sq{K:c8U}{H H':Hp}(k:KT H H'){a:Addr}{xs:List V}(h:SqT K H a xs):SqT K H' a xs:=k.toKT0.sq h
theorem KT0.at{H:Hp}{p:Addr}{o:HO}(h1:∀ xs,¬ Rd H p (.tup xs))(h2:∀ q u,H p≠some (.frz q u)):KT0 H (upd H p o) where
 tp:=fun a xs r=>by
  have hn:a≠p:=by intro e;subst e;exact h1 xs r
  rcases r with r|⟨q,r⟩
  ·exact .inl (by rw[j8 hn];exact r)
  ·exact .inr ⟨q,by rw[j8 hn];exact r⟩
 fz:=fun a q xs r=>by
  have hn:a≠p:=by intro e;subst e;exact h2 q xs r
  rw[j8 hn];exact r
theorem KT.at{H:Hp}{p:Addr}{o:HO}(h1:∀ xs,¬ Rd H p (.tup xs))(h2:∀ q u,H p≠some (.frz q u))(h3:∀ φ,H p≠some (.ext φ)):KT H (upd H p o):=⟨KT0.at h1 h2,fun a φ r=>by
  have hn:a≠p:=by intro e;subst e;exact h3 φ r
  rw[j8 hn];exact r⟩
theorem KT.alloc{H:Hp}{p:Addr}{o:HO}(h:H p=none):KT H (upd H p o):=KT.at (fun xs r=>by rcases r with r|⟨_,r⟩<;>(rw[h]at r;cases r)) (fun q xs r=>by rw[h]at r;cases r) fun φ r=>by rw[h]at r;cases r
theorem KT.any{H:Hp}{p:Addr}{xs:List V}{o:HO}(h:H p=some (.lst xs)):KT H (upd H p o):=KT.at (fun xs r=>by rcases r with r|⟨_,r⟩<;>(rw[h]at r;cases r)) (fun q xs r=>by rw[h]at r;cases r) fun φ r=>by rw[h]at r;cases r
theorem KT.write{H:Hp}{p:Addr}{xs ys:List V}(h:H p=some (.lst xs)):KT H (upd H p (.lst ys)):=KT.any h
theorem KT0.ext{H:Hp}{p:Addr}{φ:Heap→Prop}{o:HO}(h:H p=some (.ext φ)):KT0 H (upd H p o):=KT0.at (fun xs r=>by rcases r with r|⟨_,r⟩<;>(rw[h]at r;cases r)) fun q xs r=>by rw[h]at r;cases r
theorem KT.new{H H':Hp}{p:Addr}{o:HO}(k:KT H H')(h:H p=none):KT H (upd H' p o) where
 tp:=fun a xs r=>by
  have hn:a≠p:=by intro e;subst e;rcases r with r|⟨_,r⟩<;>(rw[h]at r;cases r)
  rcases k.tp a xs r with r|⟨q,r⟩
  ·exact .inl (by rw[j8 hn];exact r)
  ·exact .inr ⟨q,by rw[j8 hn];exact r⟩
 fz:=fun a q xs r=>by
  have hn:a≠p:=by intro e;subst e;rw[h]at r;cases r
  rw[j8 hn];exact k.fz a q xs r
 ex:=fun a φ r=>by
  have hn:a≠p:=by intro e;subst e;rw[h]at r;cases r
  rw[j8 hn];exact k.ex a φ r
mutual
theorem Has.mono0{K:c8U}{H H':Hp}(k:KT0 H H'):∀{v:V} {d:D},Has K H v d→Has K H' v d
 | _,_,.non=>.non
 | _,_,.bl b=>.bl b
 | _,_,.int i=>.int i
 | _,_,.str x=>.str x
 | _,_,.ref a=>.ref a
 | _,_,.ty n=>.ty n
 | _,_,.tup s l=>.tup (k.sq s) (HasL.mono0 k l)
 | _,_,.vl h l=>.vl (h.elim (fun⟨o,e⟩=>.inl ⟨o,k.fz _ _ _ e⟩) .inr) (HasL.mono0 k l)
 | _,_,.dic h=>.dic (let ⟨o,e,c⟩:=h;⟨o,k.fz _ _ _ e,c⟩)
theorem HasL.mono0{K:c8U}{H H':Hp}(k:KT0 H H'):∀{v:List V} {d:List D},HasL K H v d→HasL K H' v d
 | _,_,.nil=>.nil
 | _,_,.cons a b=>.cons (Has.mono0 k a) (HasL.mono0 k b)
end
theorem Has.mono{K:c8U}{H H':Hp}(k:KT H H'){v:V}{d:D}(h:Has K H v d):Has K H' v d:=h.mono0 k.toKT0
theorem HasL.mono{K:c8U}{H H':Hp}(k:KT H H'){v:List V}{d:List D}(h:HasL K H v d):HasL K H' v d:=h.mono0 k.toKT0
section
variable {K:c8U} {H H':Hp}
theorem HasL.length:∀{vs:List V} {ds:List D},HasL K H vs ds→vs.length=ds.length
 | _,_,.nil=>rfl
 | _,_,.cons _ b=>congrArg Nat.succ (HasL.length b)
theorem HasL.get:∀{vs:List V} {ds:List D} {i:Nat} {d:D},HasL K H vs ds→ds[i]? = some d→∃ v,vs[i]? = some v∧Has K H v d
 | _,_,_,_,.nil,e=>by simp at e
 | _,_,0,_,.cons a _,e=>by simp at e;subst e;exact⟨_,rfl,a⟩
 | _,_,i+1,d,.cons _ b,e=>by
  obtain⟨v,h1,h2⟩:=HasL.get (i:=i) (d:=d) b (by simpa using e)
  exact⟨v,by simpa using h1,h2⟩
theorem HasL.getV:∀{vs:List V} {ds:List D} {i:Nat} {v:V},HasL K H vs ds→vs[i]? = some v→∃ d,ds[i]? = some d∧Has K H v d
 | _,_,_,_,.nil,e=>by simp at e
 | _,_,0,_,.cons a _,e=>by simp at e;subst e;exact⟨_,rfl,a⟩
 | _,_,i+1,d,.cons _ b,e=>by
  obtain⟨v,h1,h2⟩:=HasL.getV (i:=i) (v:=d) b (by simpa using e)
  exact⟨v,by simpa using h1,h2⟩
theorem HasL.set{v:V}{d:D}(r:Has K H v d):∀{vs:List V} {ds:List D} (i:Nat),HasL K H vs ds→HasL K H (vs.set i v) (ds.set i d)
 | _,_,_,.nil=>.nil
 | _,_,0,.cons _ t=>.cons r t
 | _,_,i+1,.cons q t=>.cons q (HasL.set r i t)
theorem HasL.append:∀{xs ys:List V} {us ws:List D},HasL K H xs us→HasL K H ys ws→HasL K H (xs++ys) (us++ws)
 | _,_,_,_,.nil,s=>s
 | _,_,_,_,.cons r t,s=>.cons r (HasL.append t s)
theorem HasL.take:∀{xs:List V} {us:List D} (n:Nat),HasL K H xs us→HasL K H (xs.take n) (us.take n)
 | _,_,0,_=>.nil
 | _,_,_+1,.nil=>.nil
 | _,_,n+1,.cons r t=>.cons r (HasL.take n t)
theorem HasL.drop:∀{xs:List V} {us:List D} (n:Nat),HasL K H xs us→HasL K H (xs.drop n) (us.drop n)
 | _,_,0,r=>r
 | _,_,_+1,.nil=>.nil
 | _,_,n+1,.cons _ t=>HasL.drop n t
theorem HasL.ints:∀(ns:List Int),HasL K H (ns.map V.int) (ns.map D.int)
 | []=>.nil
 | n :: r=>.cons (.int n) (HasL.ints r)
end
inductive MO where
 | lst (ds:List D)
noncomputable abbrev Mem:=Addr→Option MO
noncomputable def B9(M:Mem)(a:Addr)(o:MO):Mem:=fun b=>if b=a then some o else M b
theorem h8{M:Mem}{a:Addr}{o:MO}:B9 M a o a=some o:=by unfold B9;rw[if_pos rfl]
theorem A0{M:Mem}{a b:Addr}{o:MO}(h:b≠a):B9 M a o b=M b:=by unfold B9;rw[if_neg h]
theorem Y4{M:Mem}{a:Addr}{o u:MO}:B9 (B9 M a o) a u=B9 M a u:=by
 funext b;unfold B9;by_cases h:b=a<;>simp[h]
noncomputable def MOk(K:c8U)(H:Hp)(a:Addr):MO→Prop
 | .lst ds=>∃ xs,H a=some (.lst xs)∧HasL K H xs ds
noncomputable def v7(K:c8U)(H:Hp)(M:Mem):Prop:=∀ a o,M a=some o→MOk K H a o
section
variable {K:c8U} {H H':Hp} {M:Mem}
theorem v7.fresh(h:v7 K H M){p:Addr}(e:H p=none):M p=none:=by
 cases q:M p with
 | none=>rfl
 | some o =>
  cases o with
  | lst ds=>obtain⟨xs,z,_⟩:=h p _ q;rw[e]at z;cases z
theorem v7.alloc(h:v7 K H M){p:Addr}{u:HO}(e:H p=none):v7 K (upd H p u) M:=fun a o m=>by
 have k:KT H (upd H p u):=KT.alloc e
 cases o with
 | lst ds =>
  obtain⟨xs,z,l⟩:=h a _ m
  have hn:a≠p:=J4 z e
  exact⟨xs,by rw[j8 hn];exact z,l.mono k⟩
theorem v7.new(h:v7 K H M){p:Addr}{xs:List V}{ds:List D}(e:H p=none)(l:HasL K H xs ds):v7 K (upd H p (.lst xs)) (B9 M p (.lst ds)):=fun a o m=>by
 by_cases q:a=p
 ·subst q
  rw[h8]at m;cases m
  exact⟨xs,j6,l.mono (KT.alloc e)⟩
 ·rw[A0 q]at m
  exact h.alloc e a o m
theorem v7.write(h:v7 K H M){p:Addr}{xs ys:List V}{ds:List D}(e:H p=some (.lst xs))(l:HasL K H ys ds):v7 K (upd H p (.lst ys)) (B9 M p (.lst ds)):=fun a o m=>by
 have k:KT H (upd H p (.lst ys)):=KT.write e
 by_cases q:a=p
 ·subst q
  rw[h8]at m;cases m
  exact⟨ys,j6,l.mono k⟩
 ·rw[A0 q]at m
  cases o with
  | lst es =>
   obtain⟨zs,z,l⟩:=h a _ m
   exact⟨zs,by rw[j8 q];exact z,l.mono k⟩
theorem v7.lst(h:v7 K H M){a:Addr}{ds:List D}(m:M a=some (.lst ds)):∃ xs,H a=some (.lst xs)∧HasL K H xs ds:=h a _ m
end
noncomputable abbrev Ev:=List (Option D)
structure B8(K:c8U)(H:Hp)(σ:St)(e:Ev):Prop where
 len:σ.length=e.length
 has:∀(i:Nat) (d:D),e[i]? = some (some d)→∃ v,σ[i]? = some (some v)∧Has K H v d
section
variable {K:c8U} {H H':Hp} {σ:St} {e:Ev}
theorem B8.mono(k:KT H H')(h:B8 K H σ e):B8 K H' σ e:=⟨h.len,fun i d z=>let ⟨v,a,b⟩:=h.has i d z;⟨v,a,b.mono k⟩⟩
theorem B8.set(h:B8 K H σ e){v:V}{d:D}(r:Has K H v d)(i:Nat):B8 K H (σ.set i (some v)) (e.set i (some d)):=by
 refine⟨by simp[h.len],fun j x z=>?_⟩
 rw[d16]at z ⊢
 by_cases q:i=j
 ·subst q
  rw[if_pos rfl]at z ⊢
  by_cases l:i<e.length
  ·rw[if_pos l]at z
   rw[if_pos (by rw[h.len];exact l)]
   cases z
   exact⟨v,rfl,r⟩
  ·rw[if_neg l]at z;cases z
 ·rw[if_neg q]at z ⊢
  exact h.has j x z
end
noncomputable def a1m(N:List Str)(ds:List D):Ev:=ds.map some++d0m (N.length - ds.length) none
theorem B8.start0{K:c8U}{H:Hp}{N:List Str}{vs:List V}{ds:List D}(h:HasL K H vs ds):B8 K H (L2.start N vs) (a1m N ds):=by
 have hl:=h.length
 refine⟨by simp[L2.start,a1m,hl],fun i d z=>?_⟩
 unfold a1m at z
 unfold L2.start
 rw[d0Q]at z ⊢
 simp only[c8Y]at z ⊢
 rw[hl]
 by_cases q:i<ds.length
 ·rw[if_pos q]at z ⊢
  rw[c83]at z ⊢
  cases e:ds[i]? with
  | none=>rw[e]at z;cases z
  | some x =>
   rw[e]at z
   have z':x=d:=by simpa using z
   subst z'
   obtain⟨v,a,b⟩:=h.get e
   exact⟨v,by rw[a];rfl,b⟩
 ·rw[if_neg q]at z
  rw[d0b]at z
  split at z<;>cases z
noncomputable abbrev DK:=D→Mem→Prop
noncomputable abbrev DTE:=Ev→Mem→DK→Prop
noncomputable abbrev DTT:=Ev→Mem→(Bool→Mem→Prop)→Prop
noncomputable abbrev DTA:=Ev→Mem→(List D→Mem→Prop)→Prop
structure a2b where
 nx:Ev→Mem→Prop
 rt:DK
 bk:Ev→Mem→Prop:=fun _ _=>False
 ct:Ev→Mem→Prop:=fun _ _=>False
noncomputable abbrev DTS:=a2b→Ev→Mem→Prop
noncomputable def a4Q(K:c8U)(H:Hp)(R:DK)(Q:VK):Prop:=∀ d M',R d M'→∀ v H',KT H H'→v7 K H' M'→Has K H' v d→Q v H'
noncomputable def b7f(K:c8U)(H:Hp)(R:Bool→Mem→Prop)(Q:Bool→Hp→Prop):Prop:=∀ b M',R b M'→∀ H',KT H H'→v7 K H' M'→Q b H'
noncomputable def b9w(K:c8U)(H:Hp)(R:List D→Mem→Prop)(Q:List V→Hp→Prop):Prop:=∀ ds M',R ds M'→∀ vs H',KT H H'→v7 K H' M'→HasL K H' vs ds→Q vs H'
noncomputable def a9O(K:c8U)(H:Hp)(R:Ev→Mem→Prop)(Q:St→Hp→Prop):Prop:=∀ e M',R e M'→∀ σ H',KT H H'→v7 K H' M'→B8 K H' σ e→Q σ H'
structure Fit(K:c8U)(H:Hp)(F:a2b)(E:a9Q):Prop where
 nx:a9O K H F.nx E.nx
 rt:a4Q K H F.rt E.rt
 bk:a9O K H F.bk E.bk
 ct:a9O K H F.ct E.ct
section
variable {K:c8U} {H H':Hp}
theorem a4Q.mono{R:DK}{Q:VK}(h:a4Q K H R Q)(k:KT H H'):a4Q K H' R Q:=fun d M r v H2 k2 a b=>h d M r v H2 (k.trans k2) a b
theorem b7f.mono{R:Bool→Mem→Prop}{Q:Bool→Hp→Prop}(h:b7f K H R Q)(k:KT H H'):b7f K H' R Q:=fun d M r H2 k2 a=>h d M r H2 (k.trans k2) a
theorem b9w.mono{R:List D→Mem→Prop}{Q:List V→Hp→Prop}(h:b9w K H R Q)(k:KT H H'):b9w K H' R Q:=fun d M r v H2 k2 a b=>h d M r v H2 (k.trans k2) a b
theorem a9O.mono{R:Ev→Mem→Prop}{Q:St→Hp→Prop}(h:a9O K H R Q)(k:KT H H'):a9O K H' R Q:=fun d M r v H2 k2 a b=>h d M r v H2 (k.trans k2) a b
theorem Fit.mono{F:a2b}{E:a9Q}(h:Fit K H F E)(k:KT H H'):Fit K H' F E:=⟨h.nx.mono k,h.rt.mono k,h.bk.mono k,h.ct.mono k⟩
end
noncomputable def up(K:c8U)(t:DTE):TE:=fun σ H Q=>∃ e M R,B8 K H σ e∧v7 K H M∧t e M R∧a4Q K H R Q
noncomputable def upT(K:c8U)(t:DTT):TT:=fun σ H Q=>∃ e M R,B8 K H σ e∧v7 K H M∧t e M R∧b7f K H R Q
noncomputable def upA(K:c8U)(t:DTA):TA:=fun σ H Q=>∃ e M R,B8 K H σ e∧v7 K H M∧t e M R∧b9w K H R Q
noncomputable def upS(K:c8U)(t:DTS):TS:=fun E σ H=>∃ e M F,B8 K H σ e∧v7 K H M∧t F e M∧Fit K H F E
noncomputable abbrev DPE(X:Cx)(x:Expr)(t:DTE):Prop:=PE X x (up X.K t)
noncomputable abbrev DPT(X:Cx)(x:Expr)(t:DTT):Prop:=PT X x (upT X.K t)
noncomputable abbrev DPW(X:Cx)(x:Expr)(t:DTT):Prop:=PW X x (upT X.K t)
noncomputable abbrev DPA(X:Cx)(x:List Expr)(t:DTA):Prop:=PA X x (upA X.K t)
noncomputable abbrev DPS(X:Cx)(x:Stmt)(t:DTS):Prop:=PS X x (upS X.K t)
noncomputable abbrev c5R(X:Cx)(x:List Stmt)(t:DTS):Prop:=PSs X x (upS X.K t)
structure JE(X:Cx)(x:Expr)(t:DTE):Prop where
 out:DPE X x t
structure JT(X:Cx)(x:Expr)(t:DTT):Prop where
 out:DPT X x t
structure JW(X:Cx)(x:Expr)(t:DTT):Prop where
 out:DPW X x t
structure JA(X:Cx)(x:List Expr)(t:DTA):Prop where
 out:DPA X x t
structure JS(X:Cx)(x:Stmt)(t:DTS):Prop where
 out:DPS X x t
structure JSs(X:Cx)(x:List Stmt)(t:DTS):Prop where
 out:c5R X x t
section
variable {X:Cx} {a b c:Expr} {ta tb tc:DTE} {pos:Pos}
noncomputable def a0R(i:Nat):DTE:=fun e M R=>∃ d,e[i]? = some (some d)∧R d M
noncomputable def dC(d:D):DTE:=fun _ M R=>R d M
theorem a8(i:Nat){x:Str}{pos:Pos}(hN:X.N[i]? = some x:=by rfl)(hv:Vis X.env.scope x:=by first|exact Or.inl rfl|exact Or.inr (Or.inl rfl)|exact Or.inr (Or.inr rfl))(hd:(x == ("__debug__" : Str))=false:=by decide)
  (hcd:(x == ("__classdict__" : Str))=false:=by decide):JE X (.Name x pos) (a0R i):=⟨(b5B hN hv hd hcd).imp (by
  rintro σ H Q ⟨e,M,R,ok,am,⟨d,z,r⟩,f⟩
  obtain⟨v,h1,h2⟩:=ok.has i d z
  exact⟨v,h1,f d M r v H (KT.refl H) am h2⟩)⟩
theorem a0L{v:V}{d:D}(h:PE X a (tC v))(r:∀ H,Has X.K H v d):DPE X a (dC d) :=
 h.imp (by rintro σ H Q ⟨e,M,R,ok,am,z,f⟩;exact f d M z v H (KT.refl H) am (r H))
theorem d3{i j pos}:JE X (.Constant (.int i) j pos) (dC (.int i)):=⟨a0L c1I fun _=>.int i⟩
theorem A4{b j pos}:JE X (.Constant (.bool b) j pos) (dC (.bl b)):=⟨a0L c3U fun _=>.bl b⟩
theorem D8{j pos}:JE X (.Constant .none j pos) (dC .non):=⟨a0L c1H fun _=>.non⟩
theorem i3{x j pos}:JE X (.Constant (.str x) j pos) (dC (.str x)):=⟨a0L c1E fun _=>.str x⟩
noncomputable def c4Y(K:c8U)(v:V)(d:D):Prop:=∀ H,Has K H v d
theorem c2y{x:Str}{v:V}{d:D}{u:Value}{pos:Pos}(hg:Gl X x)(hm:X.mg x=some u)(r:u6 v u)(hk:c4Y X.K v d)(hd:(x == ("__debug__" : Str))=false:=by decide):DPE X (.Name x pos) (dC d) :=
 a0L (b8G hg hm r hd) hk
noncomputable abbrev DR2:=D→D→Mem→DK→Prop
noncomputable def upR(K:c8U)(g:DR2):R2:=fun x y H Q=>∃ dx dy M R,Has K H x dx∧Has K H y dy∧v7 K H M∧g dx dy M R∧a4Q K H R Q
noncomputable def DOp(X:Cx)(f:Value→Value→Sem Value)(g:DR2):Prop:=OpR X f (upR X.K g)
noncomputable def dOp(g:DR2)(ta tb:DTE):DTE:=fun e M R=>ta e M fun x M1=>tb e M1 fun y M2=>g x y M2 R
theorem a6L{ta tb:DTE}{g:DR2}{σ:St}{H:Hp}{Q:VK}(h:up X.K (dOp g ta tb) σ H Q):tOp (upR X.K g) (up X.K ta) (up X.K tb) σ H Q:=by
 obtain⟨e,M,R,ok,am,t,f⟩:=h
 refine⟨e,M,_,ok,am,t,fun x M1 h1 v H1 k1 a1 r1=>?_⟩
 refine⟨e,M1,_,ok.mono k1,a1,h1,fun y M2 h2 u H2 k2 a2 r2=>?_⟩
 exact⟨x,y,M2,R,r1.mono k2,r2,a2,h2,f.mono (k1.trans k2)⟩
theorem g6{op:Operator}{g:DR2}(ho:DOp X (binaryOp op) g)(ha:JE X a ta)(hb:JE X b tb):JE X (.BinOp a op b pos) (dOp g ta tb):=⟨have ha:=ha.out;have hb:=hb.out;(c0i ho ha hb).imp fun _ _ _ h=>a6L h⟩
theorem c2h{op:CmpOp}{g:DR2}(ho:DOp X (compareOp op) g)(ha:JE X a ta)(hb:JE X b tb)(hm:behindInMarks op b=false):JE X (.Compare a [op] [b] pos) (dOp g ta tb):=⟨have ha:=ha.out;have hb:=hb.out;(b8I ho ha hb hm).imp fun _ _ _ h=>a6L h⟩
noncomputable def b2y(t:DTE):DTT:=fun e M R=>t e M fun x M'=>∃ k,x = .bl k∧R k M'
theorem a8K{K:c8U}{H:Hp}{R:Bool→Mem→Prop}{Q:Bool→Hp→Prop}(f:b7f K H R Q):a4Q K H (fun x M'=>∃ k,x = .bl k∧R k M') (fun x H'=>∃ k,x = .bl k∧Q k H'):=by
 rintro d M' ⟨k,rfl,r⟩ v H' kt am h
 cases h
 exact⟨k,rfl,f k M' r H' kt am⟩
theorem b84{op:CmpOp}{g:DR2}(ho:DOp X (compareOp op) g)(ha:JE X a ta)(hb:JE X b tb)(hm:behindInMarks op b=false):JT X (.Compare a [op] [b] pos) (b2y (dOp g ta tb)):=⟨have ha:=ha.out;have hb:=hb.out;(b8t ho ha hb hm).imp (by rintro σ H Q ⟨e,M,R,ok,am,t,f⟩;exact a6L (Q:=fun x H'=>∃ k,x = .bl k∧Q k H') ⟨e,M,_,ok,am,t,a8K f⟩)⟩
theorem u0{x:Expr}{t:DTE}(h:JE X x t)(he:∀ whole,isTrue x X.env whole=(do let v ← whole;standAt x.pos;holding [v] (truthy v)):=by intro _;rfl):JT X x (b2y t):=⟨have h:=h.out;(c1r h he).imp (by rintro σ H Q ⟨e,M,R,ok,am,t,f⟩;exact⟨e,M,_,ok,am,t,a8K f⟩)⟩
noncomputable def fI(f:Int→Int→D):D→D→Option D
 | .int i,.int j=>some (f i j)
 | _,_=>none
noncomputable def gF(f:D→D→Option D):DR2:=fun x y M R=>∃ z,f x y=some z∧R z M
noncomputable def gI(C:Int→Int→Prop)(f:Int→Int→D):DR2:=fun x y M R=>∃ i j,x = .int i∧y = .int j∧C i j∧R (f i j) M
theorem a7T{f:Int→Int→D}{x y z:D}(h:fI f x y=some z):∃ i j,x = .int i∧y = .int j∧z=f i j:=by
 cases x with
 | int i =>
  cases y with
  | int j=>exact⟨i,j,rfl,rfl,(Option.some.inj h).symm⟩
  | _=>cases h
 | _=>cases h
theorem b2u{f:Value→Value→Sem Value}{C:Int→Int→Prop}{g:Int→Int→V}{g':Int→Int→D}(h:OpR X f (rI C g))(hg:∀ i j H,Has X.K H (g i j) (g' i j)):DOp X f (gI C g') :=
 OpR.imp h (by
  rintro x y H Q ⟨dx,dy,M,R,hx,hy,am,⟨i,j,e1,e2,hc,r⟩,f⟩
  subst e1;subst e2
  cases hx;cases hy
  exact⟨i,j,rfl,rfl,hc,f _ M r _ H (KT.refl H) am (hg i j H)⟩)
theorem a2z{f:Value→Value→Sem Value}{g:Int→Int→V}{g':Int→Int→D}(h:OpR X f (rI0 g))(hg:∀ i j H,Has X.K H (g i j) (g' i j)):DOp X f (gF (fI g')) :=
 OpR.imp h (by
  rintro x y H Q ⟨dx,dy,M,R,hx,hy,am,⟨z,e,r⟩,f⟩
  obtain⟨i,j,e1,e2,e3⟩:=a7T e
  subst e1;subst e2;subst e3
  cases hx;cases hy
  exact⟨i,j,rfl,rfl,f _ M r _ H (KT.refl H) am (hg i j H)⟩)
theorem F1:DOp X (binaryOp .Add) (gF (fI fun i j=>.int (i+j))):=a2z c1P fun _ _ _=>.int _
theorem a1Z:DOp X (binaryOp .Sub) (gF (fI fun i j=>.int (i - j))):=a2z c1M fun _ _ _=>.int _
theorem a0P:DOp X (compareOp .Lt) (gF (fI fun i j=>.bl (decide (i<j)))):=a2z c3X fun _ _ _=>.bl _
theorem c5y:DOp X (compareOp .LtE) (gF (fI fun i j=>.bl (decide (i≤j)))):=a2z c3Y fun _ _ _=>.bl _
theorem a5y:DOp X (compareOp .Gt) (gF (fI fun i j=>.bl (decide (j<i)))):=a2z c3Z fun _ _ _=>.bl _
theorem c5z:DOp X (compareOp .GtE) (gF (fI fun i j=>.bl (decide (j≤i)))):=a2z c4a fun _ _ _=>.bl _
theorem a4C:DOp X (binaryOp .Mod) (gI (fun _ j=>0<j) fun i j=>.int (i % j)):=b2u c1O fun _ _ _=>.int _
theorem a0V:DOp X (binaryOp .Pow) (gI a9R fun i j=>.int (i ^ j.toNat)):=b2u c1N fun _ _ _=>.int _
noncomputable def gU(f:Int→D):D→Mem→DK→Prop:=fun x M R=>∃ i,x = .int i∧R (f i) M
noncomputable def dUn(g:D→Mem→DK→Prop)(ta:DTE):DTE:=fun e M R=>ta e M fun x M1=>g x M1 R
theorem A9(ha:JE X a ta):JE X (.UnaryOp .USub a pos) (dUn (gU fun i=>.int (-i)) ta):=⟨have ha:=ha.out;(c3Q c03 ha).imp (by rintro σ H Q ⟨e,M,R,ok,am,t,f⟩;exact⟨e,M,_,ok,am,t,fun x M1 ⟨i,z,r⟩ v H1 k1 a1 r1=>by
  subst z;cases r1;exact⟨i,rfl,f _ M1 r _ H1 k1 a1 (.int _)⟩⟩)⟩
variable {tA tB':DTT} {D4:List Expr}
noncomputable def c4M(t u:DTT):DTT:=fun e M R=>t e M fun c M1=>if c=true then u e M1 R else R false M1
noncomputable def dOr(t u:DTT):DTT:=fun e M R=>t e M fun c M1=>if c=true then R true M1 else u e M1 R
noncomputable def c4F(t:DTT):DTT:=fun e M R=>t e M fun c M1=>R (!c) M1
theorem a3p(ha:JT X a tA):JW X (.BoolOp .And [a] pos) tA:=⟨have ha:=ha.out;b8s ha⟩
theorem B6(ha:JT X a tA):JW X (.BoolOp .Or [a] pos) tA:=⟨have ha:=ha.out;c1o ha⟩
theorem a7O(ha:JT X a tA)(hb:JW X (.BoolOp .And (b :: D4) pos) tB'):JW X (.BoolOp .And (a :: b :: D4) pos) (c4M tA tB'):=⟨have ha:=ha.out;have hb:=hb.out;(c1p ha hb).imp (by rintro σ H Q ⟨e,M,R,ok,am,t,f⟩;exact⟨e,M,_,ok,am,t,fun k M1 h1 H1 k1 a1=>by
  cases k with
  | true=>exact⟨e,M1,R,ok.mono k1,a1,h1,f.mono k1⟩
  | false=>exact f false M1 h1 H1 k1 a1⟩)⟩
theorem C8(ha:JT X a tA)(hb:JW X (.BoolOp .Or (b :: D4) pos) tB'):JW X (.BoolOp .Or (a :: b :: D4) pos) (dOr tA tB'):=⟨have ha:=ha.out;have hb:=hb.out;(c3O ha hb).imp (by rintro σ H Q ⟨e,M,R,ok,am,t,f⟩;exact⟨e,M,_,ok,am,t,fun k M1 h1 H1 k1 a1=>by
  cases k with
  | true=>exact f true M1 h1 H1 k1 a1
  | false=>exact⟨e,M1,R,ok.mono k1,a1,h1,f.mono k1⟩⟩)⟩
theorem C3(ha:JT X a tA):JT X (.UnaryOp .Not a pos) (c4F tA):=⟨have ha:=ha.out;(c1s ha).imp (by rintro σ H Q ⟨e,M,R,ok,am,t,f⟩;exact⟨e,M,_,ok,am,t,fun k M1 h1 H1 k1 a1=>f (!k) M1 h1 H1 k1 a1⟩)⟩
theorem D6{x:Expr}{t:DTT}(h:JW X x t):JT X x t:=⟨have h:=h.out;PW.pt h⟩
noncomputable def c0F(ta tb:DTE):DTE:=fun e M R=>ta e M fun x M1=>∃ c,x = .bl c∧if c=true then tb e M1 R else R (.bl false) M1
noncomputable def c4E(ta tb:DTE):DTE:=fun e M R=>ta e M fun x M1=>∃ c,x = .bl c∧if c=true then R (.bl true) M1 else tb e M1 R
noncomputable def c0z(ta:DTE):DTE:=fun e M R=>ta e M fun x M1=>∃ c,x = .bl c∧R (.bl (!c)) M1
theorem D2{op}{t:DTE}(h:JE X a t):JE X (.BoolOp op [a] pos) t:=⟨have h:=h.out;c1F h⟩
theorem E1(ha:JE X a ta)(hb:JE X (.BoolOp .And (b :: D4) pos) tb):JE X (.BoolOp .And (a :: b :: D4) pos) (c0F ta tb):=⟨have ha:=ha.out;have hb:=hb.out;(c1K ha hb).imp (by rintro σ H Q ⟨e,M,R,ok,am,t,f⟩;exact⟨e,M,_,ok,am,t,fun x M1 ⟨k,z,h1⟩ v H1 k1 a1 r1=>by
  subst z;cases r1
  refine⟨k,rfl,?_⟩
  cases k with
  | true=>exact⟨e,M1,R,ok.mono k1,a1,h1,f.mono k1⟩
  | false=>exact f _ M1 h1 _ H1 k1 a1 (.bl _)⟩)⟩
theorem c2g(ha:JE X a ta)(hb:JE X (.BoolOp .Or (b :: D4) pos) tb):JE X (.BoolOp .Or (a :: b :: D4) pos) (c4E ta tb):=⟨have ha:=ha.out;have hb:=hb.out;(c3R ha hb).imp (by rintro σ H Q ⟨e,M,R,ok,am,t,f⟩;exact⟨e,M,_,ok,am,t,fun x M1 ⟨k,z,h1⟩ v H1 k1 a1 r1=>by
  subst z;cases r1
  refine⟨k,rfl,?_⟩
  cases k with
  | true=>exact f _ M1 h1 _ H1 k1 a1 (.bl _)
  | false=>exact⟨e,M1,R,ok.mono k1,a1,h1,f.mono k1⟩⟩)⟩
theorem W3(ha:JE X a ta):JE X (.UnaryOp .Not a pos) (c0z ta):=⟨have ha:=ha.out;(c1G ha).imp (by rintro σ H Q ⟨e,M,R,ok,am,t,f⟩;exact⟨e,M,_,ok,am,t,fun x M1 ⟨k,z,h1⟩ v H1 k1 a1 r1=>by
  subst z;cases r1
  exact⟨k,rfl,f _ M1 h1 _ H1 k1 a1 (.bl _)⟩⟩)⟩
noncomputable def dIf(t:DTT)(ta tb:DTE):DTE:=fun e M R=>t e M fun c M1=>if c=true then ta e M1 R else tb e M1 R
theorem a11(hc:JT X c tA)(ha:JE X a ta)(hb:JE X b tb):JE X (.IfExp c a b pos) (dIf tA ta tb):=⟨have hc:=hc.out;have ha:=ha.out;have hb:=hb.out;(b5E hc ha hb).imp (by rintro σ H Q ⟨e,M,R,ok,am,t,f⟩;exact⟨e,M,_,ok,am,t,fun k M1 h1 H1 k1 a1=>by
  cases k with
  | true=>exact⟨e,M1,R,ok.mono k1,a1,h1,f.mono k1⟩
  | false=>exact⟨e,M1,R,ok.mono k1,a1,h1,f.mono k1⟩⟩)⟩
noncomputable def c4G:DTA:=fun _ M R=>R [] M
noncomputable def c0D(ta:DTE)(tr:DTA):DTA:=fun e M R=>ta e M fun x M1=>tr e M1 fun xs M2=>R (x :: xs) M2
variable {es:List Expr} {tr:DTA}
theorem a9:JA X [] c4G:=⟨a7v.imp (by rintro σ H Q ⟨e,M,R,ok,am,t,f⟩;exact f [] M t [] H (KT.refl H) am .nil)⟩
theorem a7(ha:JE X a ta)(hr:JA X es tr)(hs:starEach (a :: es) X.env=(false,eval a X.env) :: starEach es X.env:=by rfl):JA X (a :: es) (c0D ta tr):=⟨have ha:=ha.out;have hr:=hr.out;(a3n ha hr hs).imp (by rintro σ H Q ⟨e,M,R,ok,am,t,f⟩;exact⟨e,M,_,ok,am,t,fun x M1 h1 v H1 k1 a1 r1 =>
  ⟨e,M1,_,ok.mono k1,a1,h1,fun xs M2 h2 vs H2 k2 a2 r2=>f _ M2 h2 _ H2 (k1.trans k2) a2 (.cons (r1.mono k2) r2)⟩⟩)⟩
noncomputable def c4z(t:DTA):DTE:=fun e M R=>t e M fun ds M1=>ds.length≤sizeLine∧R (.tup ds) M1
noncomputable def c4H(t:DTA):DTE:=fun e M R=>t e M fun ds M1=>ds.length≤sizeLine∧∀ p,M1 p=none→R (.ref p) (B9 M1 p (.lst ds))
theorem e9{x1}(h:JA X es tr):JE X (.Tuple es x1 pos) (c4z tr):=⟨have h:=h.out;(c1D h).imp (by rintro σ H Q ⟨e,M,R,ok,am,t,f⟩;exact⟨e,M,_,ok,am,t,fun ds M1 ⟨hz,h1⟩ vs H1 k1 a1 r1=>by
  refine⟨by rw[r1.length];exact hz,fun p hp=>?_⟩
  have k2:KT H1 (upd H1 p (.tup vs)):=KT.alloc hp
  exact f _ M1 h1 _ _ (k1.trans k2) (a1.alloc hp) (.tup (SqT.of j6) (r1.mono k2))⟩)⟩
theorem W4(h:JA X es tr):JE X (.List es pos) (c4H tr):=⟨have h:=h.out;(b5D h).imp (by rintro σ H Q ⟨e,M,R,ok,am,t,f⟩;exact⟨e,M,_,ok,am,t,fun ds M1 ⟨hz,h1⟩ vs H1 k1 a1 r1=>by
  refine⟨by rw[r1.length];exact hz,fun p hp=>?_⟩
  have k2:KT H1 (upd H1 p (.lst vs)):=KT.alloc hp
  exact f _ _ (h1 p (a1.fresh hp)) _ _ (k1.trans k2) (a1.new hp r1) (.ref p)⟩)⟩
theorem HasL.at{K:c8U}{H:Hp}{vs:List V}{ds:List D}(h:HasL K H vs ds){i:Int}{z:D}(e:atI ds i=some z):∃ v,atI vs i=some v∧Has K H v z:=by
 unfold atI at e ⊢
 rw[h.length]
 cases q:ixN ds.length i with
 | none=>rw[q]at e;cases e
 | some j =>
  rw[q]at e
  exact h.get e
noncomputable def DIx(X:Cx)(g:DR2):Prop:=IxR X (upR X.K g)
theorem c4i{g:DR2}(hr:DIx X g)(ha:JE X a ta)(hb:JE X b tb)(hs:a74 b):JE X (.Subscript a b pos) (dOp g ta tb):=⟨have ha:=ha.out;have hb:=hb.out;(c3S hr ha hb hs).imp fun _ _ _ h=>a6L h⟩
noncomputable abbrev DXK:=Value→Mem→Prop
noncomputable abbrev DSp:=List D→Mem→DK→DXK→Prop
noncomputable def c2N(K:c8U)(H:Hp)(Y:DXK)(E:XK):Prop:=∀ c M',Y c M'→∀ o H',KT H H'→v7 K H' M'→E c o H'
noncomputable def a8I(K:c8U)(sp:DSp):Sp:=fun vs H Q E=>∃ ds M R Y,HasL K H vs ds∧v7 K H M∧sp ds M R Y∧a4Q K H R Q∧c2N K H Y E
noncomputable def b2A(sp:DSp)(dds:List D)(Y:DXK)(t:DTA):DTE:=fun e M R=>t e M fun ds M1=>sp (ds++dds) M1 R Y
end
section
variable {X:Cx} {CX:CXT} {k:Nat} {f C:Addr} {fd:FuncData} {ps:List Str} {sp:DSp} {dvs:List V} {dds:List D} {ds:List Value} {E:XK} {Y:DXK} {x m:Str} {p pos apos:Pos} {e o:Expr} {es:List Expr} {t:DTA}
theorem c2z(F:X8 X.prog X.w X.K X.mg X.base CX k f fd ps (a8I X.K sp))(hr:L6 k X.A)(hg:Gl X x)(hm:X.mg x=some (.ref f))(hk:PySem.W.keepIn X.K (.ref f)=true)(hb:a4S X.K fd ps ds)(hd:q9 dvs ds)(hdd:∀ H,HasL X.K H dvs dds)(hx:a75 CX X E)(hY:∀ H,c2N X.K H Y E)
  (ha:DPA X (e :: es) t) (hdb:(x == ("__debug__" : Str))=false:=by decide) (he:starEach (e :: es) X.env=(false,eval e X.env) :: starEach es X.env:=by rfl) (hpl:(backTo pos (starEach es X.env)).any (·.1)=false:=by rfl) :
  DPE X (.Call (.Name x p) (e :: es) [] pos) (b2A sp dds Y t) :=
 (b8J F hr hg hm hk hb hd hx ha hdb he hpl).imp (by rintro σ H Q ⟨e,M,R,ok,am,t,f⟩;exact⟨e,M,_,ok,am,t,fun xs M1 h1 vs H1 k1 a1 r1 =>
  ⟨xs++dds,M1,R,Y,r1.append (hdd H1),a1,h1,f.mono k1,hY H1⟩⟩)
end
section
variable {X:Cx} {st:Stmt} {D4:List Stmt} {t u:DTS} {e:Expr} {te:DTE} {pos:Pos}
noncomputable def c0A:DTS:=fun F e M=>F.nx e M
noncomputable def c4B(t u:DTS):DTS:=fun F e M=>t { F with nx:=u F } e M
theorem f7:JSs X [] c0A:=⟨b8v.imp (by rintro E σ H ⟨e,M,F,ok,am,t,f⟩;exact f.nx e M t σ H (KT.refl H) am ok)⟩
theorem d4(h1:JS X st t)(h2:JSs X D4 u):JSs X (st :: D4) (c4B t u):=⟨have h1:=h1.out;have h2:=h2.out;(a88 h1 h2).imp (by rintro E σ H ⟨e,M,F,ok,am,t,f⟩;exact⟨e,M,{ F with nx:=u F },ok,am,t,⟨fun e' M' h σ' H' k a o=>⟨e',M',F,o,a,h,f.mono k⟩,f.rt,f.bk,f.ct⟩⟩)⟩
theorem d5(h1:JS X st t):JSs X [st] t:=⟨have h1:=h1.out;b8u h1⟩
noncomputable def c0C(te:DTE):DTS:=fun F e M=>te e M fun _ M1=>F.nx e M1
theorem C2(he:JE X e te)(hs:swapsWith e none pos.line X.env=pure false:=by rfl):JS X (.Expr e pos) (c0C te):=⟨have he:=he.out;(b8w he hs).imp (by rintro E σ H ⟨e,M,F,ok,am,t,f⟩;exact⟨e,M,_,ok,am,t,fun d M1 h1 v H1 k1 a1 r1=>f.nx e M1 h1 σ H1 k1 a1 (ok.mono k1)⟩)⟩
noncomputable def c4C(te:DTE):DTS:=fun F e M=>te e M F.rt
theorem d7(he:JE X e te):JS X (.Return (some e) pos) (c4C te):=⟨have he:=he.out;(c1u he).imp (by rintro E σ H ⟨e,M,F,ok,am,t,f⟩;exact⟨e,M,_,ok,am,t,f.rt⟩)⟩
noncomputable def c4I(c:DTT)(t u:DTS):DTS:=fun F e M=>c e M fun b M1=>if b=true then t F e M1 else u F e M1
theorem g7{c:Expr}{a b:List Stmt}{tc:DTT}(hc:JT X c tc)(ha:JSs X a t)(hb:JSs X b u):JS X (.If c a b pos) (c4I tc t u):=⟨have hc:=hc.out;have ha:=ha.out;have hb:=hb.out;(c3P hc ha hb).imp (by rintro E σ H ⟨e,M,F,ok,am,t,f⟩;exact⟨e,M,_,ok,am,t,fun k M1 h1 H1 k1 a1=>by
  cases k with
  | true=>exact⟨e,M1,F,ok.mono k1,a1,h1,f.mono k1⟩
  | false=>exact⟨e,M1,F,ok.mono k1,a1,h1,f.mono k1⟩⟩)⟩
noncomputable def b6I:DTS:=fun _ _ _=>False
theorem a6y:JS X st b6I:=⟨b5v.imp (by rintro E σ H ⟨_,_,_,_,_,t,_⟩;exact t)⟩
noncomputable abbrev DTG:=D→Ev→Mem→(Ev→Mem→Prop)→Prop
noncomputable abbrev a0m:=List D→Ev→Mem→(Ev→Mem→Prop)→Prop
noncomputable def upG(K:c8U)(g:DTG):TG:=fun v σ H Q=>∃ d e M R,Has K H v d∧B8 K H σ e∧v7 K H M∧g d e M R∧a9O K H R Q
noncomputable def c5e(K:c8U)(g:a0m):TGs:=fun vs σ H Q=>∃ ds e M R,HasL K H vs ds∧B8 K H σ e∧v7 K H M∧g ds e M R∧a9O K H R Q
noncomputable abbrev DPG(X:Cx)(x:Expr)(g:DTG):Prop:=PG X x (upG X.K g)
noncomputable abbrev c5S(X:Cx)(x:List Expr)(g:a0m):Prop:=PGs X x (c5e X.K g)
structure JG(X:Cx)(x:Expr)(g:DTG):Prop where
 out:DPG X x g
structure JGs(X:Cx)(x:List Expr)(g:a0m):Prop where
 out:c5S X x g
noncomputable def a1n(i:Nat):DTG:=fun d e M R=>R (e.set i (some d)) M
theorem b6e{i:Nat}{x:Str}(hN:X.N.Nodup)(hi:X.N[i]? = some x)(hx:Loc X.env.scope x)(hf:X.fn x=true∨X.env.scope.names.lookup x=some .local:=by first|exact .inl rfl|exact .inr rfl|assumption):JG X (.Name x pos) (a1n i):=⟨PG.imp (b8E hN hi hx hf) (by rintro v σ H Q ⟨d,e,M,R,r,ok,am,g,f⟩;exact f _ M g _ H (KT.refl H) am (ok.set r i))⟩
noncomputable def c0v:a0m:=fun ds e M R=>ds=[]∧R e M
noncomputable def b6F(t:DTG)(u:a0m):a0m:=fun ds e M R=>∃ d r,ds=d :: r∧t d e M fun e' M'=>u r e' M' R
theorem g9:JGs X [] c0v:=⟨PGs.imp b8C (by
 rintro v σ H Q ⟨ds,e,M,R,r,ok,am,⟨z,g⟩,f⟩
 subst z;cases r;exact⟨rfl,f e M g σ H (KT.refl H) am ok⟩)⟩
end
end DL
namespace DL
open PySem PySem.Spec L2
open PyProof.Rows hiding St
section
variable {X:Cx} {st:Stmt} {D4:List Stmt} {t u:DTS} {e:Expr} {te:DTE} {pos:Pos}
theorem d6{x:Expr}{xs:List Expr}{t:DTG}{u:a0m}(h1:JG X x t)(h2:JGs X xs u)
  (hs:(assignEach (x :: xs) X.env).map (·.2)=assign x X.env :: (assignEach xs X.env).map (·.2):=by rfl):JGs X (x :: xs) (b6F t u):=⟨have h1:=h1.out;have h2:=h2.out;PGs.imp (b5A h1 h2 hs) (by
  rintro vs σ H Q ⟨ds,e,M,R,r,ok,am,⟨d,dr,z,g⟩,f⟩
  subst z
  cases r with
  | cons r rr=>exact⟨_,_,rfl,d,e,M,_,r,ok,am,g,fun e1 M1 h1 σ1 H1 k1 a1 ok1=>⟨dr,e1,M1,R,rr.mono k1,ok1,a1,h1,f.mono k1⟩⟩)⟩
noncomputable def a9A(n:Nat)(t:a0m):DTG:=fun d e M R=>∃ ds,d = .tup ds∧ds.length=n∧t ds e M R
theorem i0{xs:List Expr}{k:Nat}{t:a0m}{n:Nat}(hc:X.calm=true)(h:JGs X xs t)
  (hn:(assignEach xs X.env).length=n:=by rfl) (hst:(assignEach xs X.env).findIdx? (·.1)=none:=by rfl):JG X (.Tuple xs k pos) (a9A n t):=⟨have h:=h.out;PG.imp (c1B hc h hn hst) (by
  rintro v σ H Q ⟨d,e,M,R,r,ok,am,⟨ds,z,hl,g⟩,f⟩
  subst z
  cases r with
  | tup s l=>exact⟨_,_,rfl,s,by rw[l.length];exact hl,ds,e,M,R,l,ok,am,g,f⟩)⟩
noncomputable abbrev b7h:=D→D→D→Mem→(Mem→Prop)→Prop
noncomputable def c4q:b7h:=fun o i v M R=>∃ p ds k j,o = .ref p∧i = .int k∧M p=some (.lst ds)∧ixN ds.length k=some j∧R (B9 M p (.lst (ds.set j v)))
noncomputable def c0u(to ti:DTE)(t:b7h):DTG:=fun d e M R=>to e M fun o M1=>ti e M1 fun i M2=>t o i d M2 fun M3=>R e M3
theorem b2f{o i:Expr}{to ti:DTE}(ho:JE X o to)(hi:JE X i ti)
  (ha:∀ v,assign (.Subscript o i pos) X.env v=(do
   let ov ← holding [v] (eval o X.env)
   let iv ← holding [v,ov] (eval i X.env)
   standAt pos
   holding [v,ov,iv] (setItem ov iv v)
   release [v,ov,iv] []):=by intro _;rfl):JG X (.Subscript o i pos) (c0u to ti c4q):=⟨have ho:=ho.out;have hi:=hi.out;PG.imp (c1C ho hi b4Y ha) fun v σ H Q ⟨d,e,M,R,r,ok,am,g,f⟩ =>
  ⟨e,M,_,ok,am,g,fun x M1 h1 vo H1 k1 a1 r1=>⟨e,M1,_,ok.mono k1,a1,h1,fun y M2 ⟨p,ds,k,j,e1,e2,e3,e4,h2⟩ vi H2 k2 a2 r2=>by
   subst e1;subst e2
   cases r1;cases r2
   obtain⟨xs,hx,l⟩:=a2.lst e3
   have kt:KT H H2:=k1.trans k2
   have kw:KT H2 (upd H2 p (.lst (xs.set j v))):=KT.write hx
   exact⟨p,xs,k,j,rfl,rfl,hx,by rw[l.length];exact e4,f e _ h2 σ _ (kt.trans kw) (a2.write hx (l.set (r.mono kt) j)) ((ok.mono kt).mono kw)⟩⟩⟩⟩
noncomputable def b3z(te:DTE)(g:DTG):DTS:=fun F e M=>te e M fun x M1=>g x e M1 F.nx
theorem p9{tg x:Expr}{tx:DTE}{g:DTG}(he:JE X x tx)(hg:JG X tg g)(hs:swapsWithSole [tg] x pos.line X.env=pure false:=by rfl)(hw:swappedStores [tg] x X.env=pure none:=by rfl)
  (h1:(assignEach [tg] X.env).map (·.2)=[assign tg X.env]:=by rfl):JS X (.Assign [tg] x pos) (b3z tx g):=⟨have he:=he.out;have hg:=hg.out;(c1x he hg hs hw h1).imp (by rintro E σ H ⟨e,M,F,ok,am,t,f⟩;exact⟨e,M,_,ok,am,t,fun d M1 h1 v H1 k1 a1 r1=>⟨d,e,M1,F.nx,r1,ok.mono k1,a1,h1,f.nx.mono k1⟩⟩)⟩
theorem b83{i:Nat}{x:Str}{tx:DTE}{pos':Pos}(hN:X.N.Nodup)(hi:X.N[i]? = some x)(hx:Loc X.env.scope x)(he:JE X e tx)(hs:swapsWith e (some (.Name x pos')) pos.line X.env=pure false:=by rfl)(hf:X.fn x=true∨X.env.scope.names.lookup x=some .local:=by first|exact .inl rfl|exact .inr rfl|assumption):JS X (.Assign [.Name x pos'] e pos) (b3z tx (a1n i)):=⟨have he:=he.out;(c1t hN hi hx he hs hf).imp (by rintro E σ H ⟨e,M,F,ok,am,t,f⟩;exact⟨e,M,_,ok,am,t,fun d M1 h1 v H1 k1 a1 r1=>f.nx _ M1 h1 _ H1 k1 a1 ((ok.mono k1).set r1 i)⟩)⟩
noncomputable def c4D(i j:Nat)(ta:DTA):DTS:=fun F e M=>ta e M fun ds M1=>∃ x y,ds=[x,y]∧F.nx ((e.set i (some x)).set j (some y)) M1
theorem a7M{i j:Nat}{x y:Str}{a b:Expr}{ta:DTA}{px py pt:Pos}{kt k2 pt2}(hc:X.calm=true)(hN:X.N.Nodup)(hi:X.N[i]? = some x)(hj:X.N[j]? = some y)(hij:i≠j)
  (hx:X.env.scope.names.lookup x=some .local) (hy:X.env.scope.names.lookup y=some .local) (ha:JA X [a,b] ta)
  (hw:swappedStores [.Tuple [.Name x px,.Name y py] kt pt] (.Tuple [a,b] k2 pt2) X.env=pure (some [x,y]):=by rfl)
  (hs:swapsWithSole [.Tuple [.Name x px,.Name y py] kt pt] (.Tuple [a,b] k2 pt2) pos.line X.env=pure false:=by rfl):JS X (.Assign [.Tuple [.Name x px,.Name y py] kt pt] (.Tuple [a,b] k2 pt2) pos) (c4D i j ta):=⟨have ha:=ha.out;(c1v hc hN hi hj hij hx hy ha hw hs).imp (by rintro E σ H ⟨e,M,F,ok,am,t,f⟩;exact⟨e,M,_,ok,am,t,fun ds M1 ⟨x,y,z,h1⟩ vs H1 k1 a1 r1=>by
  subst z
  cases r1 with
  | cons r1 rr =>
   cases rr with
   | cons r2 rr =>
    cases rr
    exact⟨_,_,rfl,f.nx _ M1 h1 _ H1 k1 a1 (((ok.mono k1).set r1 i).set r2 j)⟩⟩)⟩
noncomputable def b6H(c:DTT)(tb:DTS):DTS:=fun F e M=>∃ W:Nat→Ev→Mem→Prop,(∃ m,W m e M)∧∀ m e M,W m e M →
 c e M fun b M1=>if b=true then tb { F with nx:=fun e' M'=>∃ m',m'<m∧W m' e' M',ct:=fun e' M'=>∃ m',m'<m∧W m' e' M',bk:=F.nx } e M1 else F.nx e M1
theorem a2w{c:Expr}{body:List Stmt}{tc:DTT}{tb:DTS}(hp:PassesOwn (model X.prog X.w) X.A X.env X.xe)(hc:JT X c tc)(hb:JSs X body tb):JS X (.While c body [] pos) (b6H tc tb):=⟨have hc:=hc.out;have hb:=hb.out;(b5u hp hc hb).imp (by
  rintro E σ H ⟨e,M,F,ok,am,⟨W,⟨m0,w0⟩,turn⟩,f⟩
  refine⟨fun m σ' H'=>∃ e' M',KT H H'∧B8 X.K H' σ' e'∧v7 X.K H' M'∧W m e' M',⟨m0,e,M,KT.refl H,ok,am,w0⟩,?_⟩
  rintro m σ1 H1 ⟨e1,M1,k1,ok1,a1,w1⟩
  refine⟨e1,M1,_,ok1,a1,turn m e1 M1 w1,fun b M2 h2 H2 k2 a2=>?_⟩
  cases b with
  | false=>exact f.nx e1 M2 h2 σ1 H2 (k1.trans k2) a2 (ok1.mono k2)
  | true =>
   refine⟨fun σ' H'=>∃ m',m'<m∧∃ e' M',KT H H'∧B8 X.K H' σ' e'∧v7 X.K H' M'∧W m' e' M',fun σ' H' h=>h,e1,M2,_,ok1.mono k2,a2,h2,?_⟩
   have kk:=k1.trans k2
   exact⟨fun e' M' ⟨m',l,w⟩ σ' H' k' a' o'=>⟨m',l,e',M',kk.trans k',o',a',w⟩,f.rt.mono kk,f.nx.mono kk,fun e' M' ⟨m',l,w⟩ σ' H' k' a' o'=>⟨m',l,e',M',kk.trans k',o',a',w⟩⟩)⟩
noncomputable abbrev DTI:=Ev→Mem→(List D→(Mem→Prop)→Mem→Prop)→Prop
noncomputable def c4K(ti:DTI)(g:DTG)(tb:DTS):DTS:=fun F e M=>ti e M fun ds stay M1=>∃ W:Nat→Ev→Mem→Prop,W 0 e M1∧(∀ i e M,i≤ds.length→W i e M→stay M) ∧
 (∀(i:Nat) (d:D) e M,ds[i]? = some d→W i e M→g d e M fun e2 M2=>tb { F with nx:=W (i+1),ct:=W (i+1),bk:=F.nx } e2 M2)∧∀ e M,W ds.length e M→F.nx e M
noncomputable def W1(lo:Int)(n:Nat):List D:=(c9H n).map fun(i:Nat)=>D.int (lo+(i:Int))
theorem p7(lo:Int)(n:Nat):(W1 lo n).length=n:=by simp[W1]
theorem a4p{lo:Int}{n i:Nat}(h:i<n):(W1 lo n)[i]? = some (D.int (lo+(i:Int))):=by simp[W1,h]
theorem a2p{lo:Int}{n i:Nat}{d:D}(h:(W1 lo n)[i]? = some d):i<n∧d=D.int (lo+(i:Int)):=by
 have hl:i<n:=by
  have:=(c8W.mp h).1
  rw[p7]at this;exact this
 rw[a4p hl]at h
 exact⟨hl,(Option.some.inj h).symm⟩
noncomputable def c0t(ta:DTA):DTI:=fun e M R=>ta e M fun ds M1=>∃ j:Int,ds=[.int j]∧-(2 ^ 62)≤j∧j<2 ^ 62∧R (W1 0 j.toNat) (fun _=>True) M1
theorem b6t{K:c8U}{H H1 H2:Hp}{F:a2b}{E:a9Q}{W:Nat→Ev→Mem→Prop}{g:DTG}{tb:DTS}{i:Nat}{x:V}{d:D}{σ2:St}{e2:Ev}{M2:Mem}(f:Fit K H F E)(k1:KT H H1)(k2:KT H1 H2)(ok2:B8 K H2 σ2 e2)(a2:v7 K H2 M2)(r:Has K H2 x d)
  (h:g d e2 M2 fun e3 M3=>tb { F with nx:=W (i+1),ct:=W (i+1),bk:=F.nx } e3 M3) :
  upG K g x σ2 H2 fun σ3 H3=>upS K tb { E with nx:=fun σ' H'=>∃ e' M',KT H1 H'∧B8 K H' σ' e'∧v7 K H' M'∧W (i+1) e' M',ct:=fun σ' H'=>∃ e' M',KT H1 H'∧B8 K H' σ' e'∧v7 K H' M'∧W (i+1) e' M',bk:=E.nx } σ3 H3:=by
 refine⟨d,e2,M2,_,r,ok2,a2,h,fun e3 M3 h3 σ3 H3 k3 a3 ok3=>⟨e3,M3,_,ok3,a3,h3,?_⟩⟩
 have kk:KT H H3:=k1.trans (k2.trans k3)
 exact⟨fun e' M' w σ' H' k' a' o'=>⟨e',M',k2.trans (k3.trans k'),o',a',w⟩,f.rt.mono kk,f.nx.mono kk,fun e' M' w σ' H' k' a' o'=>⟨e',M',k2.trans (k3.trans k'),o',a',w⟩⟩
variable {tg iter:Expr} {body:List Stmt} {ti:DTE} {ta:DTA} {g:DTG} {tb:DTS}
theorem Has.il{K:c8U}{H:Hp}{v:V}{ds:List D}(h:Has K H v (.vl ds)):∃ a xs,v = .ref a∧SqL K H a xs∧HasL K H xs ds:=by
 cases h with
 | vl h l=>exact⟨_,_,rfl,h.elim (fun⟨o,e⟩=>.inl (.inr ⟨o,e⟩)) (fun k=>k H),l⟩
end
section
variable {P:Program} {w:World} {K:c8U} {mg:Str→Option Value} {base:Heap}
end
section
variable {X:Cx} {x:Str} {p pos:Pos} {e:Expr} {es:List Expr} {t:DTA} {id T:String}
noncomputable abbrev DRC:=List D→Mem→DK→Prop
noncomputable def upC(K:c8U)(g:DRC):List V→Hp→VK→Prop:=fun xs H Q=>∃ ds M R,HasL K H xs ds∧v7 K H M∧g ds M R∧a4Q K H R Q
noncomputable def a2c(X:Cx)(f:Value)(g:DRC):Prop:=D7 X f (upC X.K g)
noncomputable def dCB(g:DRC)(t:DTA):DTE:=fun e M R=>t e M fun ds M1=>g ds M1 R
theorem c0H{g:DRC}{σ:St}{H:Hp}{Q:VK}(h:up X.K (dCB g t) σ H Q):tCB (upC X.K g) (upA X.K t) σ H Q:=by
 obtain⟨e,M,R,ok,am,t,f⟩:=h
 exact⟨e,M,_,ok,am,t,fun ds M1 h1 vs H1 k1 a1 r1=>⟨ds,M1,R,r1,a1,h1,f.mono k1⟩⟩
theorem D7.imp{f:Value}{r r':List V→Hp→VK→Prop}(h:D7 X f r)(i:∀ xs H Q,r' xs H Q→r xs H Q):D7 X f r':=fun pins s σ H xs us Q I rv q=>h pins s σ H xs us Q I rv (i xs H Q q)
theorem HasL.one{K:c8U}{H:Hp}{vs:List V}{d:D}(h:HasL K H vs [d]):∃ v,vs=[v]∧Has K H v d:=by
 cases h with
 | cons r rr=>cases rr;exact⟨_,rfl,r⟩
theorem HasL.two{K:c8U}{H:Hp}{vs:List V}{d d':D}(h:HasL K H vs [d,d']):∃ v v',vs=[v,v']∧Has K H v d∧Has K H v' d':=by
 cases h with
 | cons r rr=>cases rr with|cons r2 rr=>cases rr;exact⟨_,_,rfl,r,r2⟩
noncomputable def c4v:DRC:=fun ds M R=>∃ i:Int,ds=[.int i]∧R (.int (i.natAbs:Int)) M
theorem a0Z:a2c X (.builtin "abs") c4v:=D7.imp b6S (by
 rintro xs H Q ⟨ds,M,R,hl,am,⟨i,z,r⟩,f⟩
 subst z
 obtain⟨v,rfl,h⟩:=hl.one
 cases h
 have e:(if i<0 then -i else i)=(i.natAbs:Int):=by split<;>omega
 exact⟨i,rfl,by rw[e];exact f _ M r _ H (KT.refl H) am (.int _)⟩)
noncomputable def c4r:DRC:=fun ds M R=>∃ i j:Int,ds=[.int i,.int j]∧R (.int (max i j)) M
theorem c0I(hc:X.calm=true):a2c X (.builtin "max") c4r:=D7.imp (b3B hc) (by
 rintro xs H Q ⟨ds,M,R,hl,am,⟨i,j,z,r⟩,f⟩
 subst z
 obtain⟨v,v',rfl,h,h'⟩:=hl.two
 cases h;cases h'
 have e:(if j > i then j else i)=max i j:=by
  rw[Int.max_def];split<;>split<;>omega
 exact⟨i,j,rfl,by rw[e];exact f _ M r _ H (KT.refl H) am (.int _)⟩)
noncomputable def b5X(M:Mem):D→Option Nat
 | .tup ds=>some ds.length
 | .ref p=>match M p with
  | some (.lst ds)=>some ds.length
  | _=>none
 | .vl ds=>some ds.length
 | _=>none
noncomputable def b3t:DRC:=fun ds M R=>∃ d n,ds=[d]∧b5X M d=some n∧R (.int (n:Int)) M
theorem F3:a2c X (.builtin "len") b3t:=D7.imp a7Z (by
 rintro xs H Q ⟨ds,M,R,hl,am,⟨d,n,z,hn,r⟩,f⟩
 subst z
 obtain⟨v,rfl,h⟩:=hl.one
 cases d with
 | tup es =>
  cases h with
  | tup s l =>
   cases hn
   exact⟨_,_,rfl,.inr s,by rw[l.length];exact f _ M r _ H (KT.refl H) am (.int _)⟩
 | ref p =>
  cases h
  unfold b5X at hn
  cases q:M p with
  | none=>simp[q]at hn
  | some o =>
   cases o with
   | lst es =>
    simp only[q]at hn
    cases hn
    obtain⟨ys,hy,l⟩:=am.lst q
    exact⟨p,ys,rfl,.inl (SqL.of hy),by rw[l.length];exact f _ M r _ H (KT.refl H) am (.int _)⟩
 | vl es =>
  cases hn
  obtain⟨a,xs,rfl,sq,l⟩:=h.il
  exact⟨a,_,rfl,.inl sq,by rw[l.length];exact f _ M r _ H (KT.refl H) am (.int _)⟩
 | _=>cases hn)
end
end DL
namespace DL
open PySem PySem.Spec L2
open PyProof.Rows hiding St
theorem R0:bootBuiltins "abs" = some (.builtin "abs"):=by decide +kernel
theorem b6W:bootBuiltins "max" = some (.builtin "max"):=by decide +kernel
theorem b6V:bootBuiltins "min" = some (.builtin "min"):=by decide +kernel
theorem B7:bootBuiltins "len" = some (.builtin "len"):=by decide +kernel
theorem u9:bootBuiltins "isinstance" = some (.builtin "isinstance"):=by decide +kernel
theorem b0X:bootBuiltins "int" = some (.type "int"):=by decide +kernel
theorem a70:bootBuiltins "bool" = some (.type "bool"):=by decide +kernel
theorem S2:bootBuiltins "tuple" = some (.type "tuple"):=by decide +kernel
theorem a3s:bootBuiltins "list" = some (.type "list"):=by decide +kernel
theorem a0k:bootBuiltins "reversed" = some (.type "reversed"):=by decide +kernel
section
variable {X:Cx} {a b c:Expr} {ta tb tc:DTE} {pos:Pos}
theorem b8N:OpR X (binaryOp .Mult) (rI IntMulOk fun i j=>.int (i*j)):=opI fun _ _ _ _ _ _ _ hc q=>mul_int q hc
noncomputable def CFd(i j:Int):Prop:=j≠0∧j.natAbs.log2<9000
theorem b5H:OpR X (binaryOp .FloorDiv) (rI CFd fun i j=>.int (i.fdiv j)):=opI fun _ _ _ _ _ _ _ hc q=>floordiv_int hc.1 q (.inl (PyProof.noPylong_of_log2 hc.2))
theorem o6:DOp X (binaryOp .Mult) (gI IntMulOk fun i j=>.int (i*j)):=b2u b8N fun _ _ _=>.int _
theorem E9:DOp X (binaryOp .FloorDiv) (gI CFd fun i j=>.int (i.fdiv j)):=b2u b5H fun _ _ _=>.int _
noncomputable def ixD(M:Mem):D→D→Option D
 | .tup ds,.int i=>atI ds i
 | .ref p,.int i=>match M p with
  | some (.lst ds)=>atI ds i
  | _=>none
 | .vl ds,.int i=>atI ds i
 | _,_=>none
noncomputable def gIx:DR2:=fun x y M R=>∃ z,ixD M x y=some z∧R z M
theorem IxR.or'{r r':R2}(h:IxR X r)(h':IxR X r'){g:R2}(i:∀ x y H Q,g x y H Q→r x y H Q∨r' x y H Q):IxR X g:=IxR.imp (IxR.or h h') i
theorem c4l:DIx X gIx:=IxR.or' c2i b86 (by
 rintro x y H Q ⟨dx,dy,M,R,hx,hy,am,⟨z,e,r⟩,f⟩
 cases dy with
 | int i =>
  cases hy
  cases dx with
  | tup ds =>
   cases hx with
   | tup s l =>
    obtain⟨v,h1,h2⟩:=l.at (show atI ds i=some z from e)
    exact .inl ⟨_,_,i,v,rfl,rfl,s,h1,f z M r v H (KT.refl H) am h2⟩
  | ref p =>
   cases hx
   unfold ixD at e
   cases q:M p with
   | none=>simp[q]at e
   | some o =>
    cases o with
    | lst ds =>
     simp only[q]at e
     obtain⟨xs,h1,h2⟩:=am.lst q
     obtain⟨v,h3,h4⟩:=h2.at e
     exact .inr ⟨_,_,i,v,rfl,rfl,SqL.of h1,h3,f z M r v H (KT.refl H) am h4⟩
  | vl ds =>
   obtain⟨a,xs,rfl,sq,l⟩:=hx.il
   obtain⟨v,h1,h2⟩:=l.at (show atI ds i=some z from e)
   exact .inr ⟨_,_,i,v,rfl,rfl,sq,h1,f z M r v H (KT.refl H) am h2⟩
  | _=>simp[ixD]at e
 | _=>cases dx<;>simp[ixD]at e)
theorem a0I{M:Mem}{p:Addr}{ds:List D}{i:Int}{z:D}(m:M p=some (.lst ds))(h:atI ds i=some z):ixD M (.ref p) (.int i)=some z:=by
 unfold ixD;simp only[m];exact h
noncomputable def isD:D→D→Option Bool
 | .bl a,.bl b=>some (a == b)
 | .non,.non=>some true
 | .bl _,.non=>some false
 | .int _,.non=>some false
 | .str _,.non=>some false
 | .ref _,.non=>some false
 | .tup _,.non=>some false
 | .vl _,.non=>some false
 | _,_=>none
theorem a6C{x y:D}{b:Bool}(h:isD x y=some b):(∃ p q,x = .bl p∧y = .bl q∧b=(p == q))∨(y = .non∧((x = .non∧b=true)∨(x ≠ .non∧b=false))):=by
 cases x<;>cases y<;>simp[isD]at h<;>simp[h]
theorem b2j{K:c8U}{H:Hp}{v:V}{x:D}(h:Has K H v x)(n:x ≠ .non):v ≠ .non:=by
 intro e;subst e;cases h;exact n rfl
noncomputable def gIs(neg:Bool):DR2:=fun x y M R=>∃ b,isD x y=some b∧R (.bl (neg.xor b)) M
theorem c1S:DOp X (compareOp .Is) (gIs false):=by
 intro pins s σ H x y v u Q I rx ry h
 obtain⟨dx,dy,M,R,hx,hy,am,⟨b,e,r⟩,f⟩:=h
 have fin:EP X pins σ Q (.bool b) s:=⟨.bl b,H,I,rfl,by have:=f _ M r (.bl b) H (KT.refl H) am (by simpa using Has.bl (K:=X.K) (H:=H) b);exact this⟩
 rcases a6C e with⟨p,q,rfl,rfl,rfl⟩|⟨rfl,hx'⟩
 ·cases hx;cases hy;cases rx;cases ry
  exact is_bool fin
 ·cases hy;cases ry
  refine is_none_gen ?_
  rw[u6.none_iff rx]
  rcases hx' with⟨rfl,rfl⟩|⟨n,rfl⟩
  ·cases hx;exact fin
  ·rw[decide_eq_false (b2j hx n)];exact fin
theorem a0F:DOp X (compareOp .IsNot) (gIs true):=by
 intro pins s σ H x y v u Q I rx ry h
 obtain⟨dx,dy,M,R,hx,hy,am,⟨b,e,r⟩,f⟩:=h
 have fin:EP X pins σ Q (.bool (!b)) s:=⟨.bl (!b),H,I,rfl,by have:=f _ M r (.bl (!b)) H (KT.refl H) am (by simpa using Has.bl (K:=X.K) (H:=H) (!b));exact this⟩
 rcases a6C e with⟨p,q,rfl,rfl,rfl⟩|⟨rfl,hx'⟩
 ·cases hx;cases hy;cases rx;cases ry
  exact isnot_bool fin
 ·cases hy;cases ry
  refine isnot_none_gen ?_
  rw[u6.none_iff rx]
  rcases hx' with⟨rfl,rfl⟩|⟨n,rfl⟩
  ·cases hx;exact fin
  ·rw[decide_eq_false (b2j hx n)];exact fin
mutual
inductive PyR (M:Mem):D→PyData→Prop
 | non:PyR M .non .none
 | bl (b:Bool):PyR M (.bl b) (.bool b)
 | int (i:Int):PyR M (.int i) (.int i)
 | str (x:Str):PyR M (.str x) (.str x)
 | tup {ds:List D} {ps:List PyData}:PyRL M ds ps→PyR M (.tup ds) (.tuple ps)
 | lst {p:Addr} {ds:List D} {ps:List PyData}:M p=some (.lst ds)→PyRL M ds ps→PyR M (.ref p) (.list ps)
 | vl {ds:List D} {ps:List PyData}:PyRL M ds ps→PyR M (.vl ds) (.list ps)
inductive PyRL (M:Mem):List D→List PyData→Prop
 | nil:PyRL M [] []
 | cons {d:D} {p:PyData} {ds:List D} {ps:List PyData}:PyR M d p→PyRL M ds ps→PyRL M (d :: ds) (p :: ps)
end
mutual
theorem a0e{pins:List (Addr × Obj)}{s:Shared}{σ:St}{H:Hp}{M:Mem}(I:Inv X pins σ H s)(am:v7 X.K H M):∀{d:D} {p:PyData},PyR M d p→∀{v:V} {u:Value},Has X.K H v d→u6 v u→∃ as,Reads s.heap u p as
 | _,_,.non,_,_,h,r=>by cases h;cases r;exact⟨_,.none⟩
 | _,_,.bl b,_,_,h,r=>by cases h;cases r;exact⟨_,.bool b⟩
 | _,_,.int i,_,_,h,r=>by cases h;obtain⟨t,rfl⟩:=r;exact⟨_,.int i t⟩
 | _,_,.str x,_,_,h,r=>by cases h;obtain⟨t,rfl⟩:=r;exact⟨_,.str x t⟩
 | _,_,.tup l,_,_,h,r=>by
  cases h with
  | tup s' hl =>
   cases r
   obtain⟨its,rv,⟨o,e,hc,n,hd⟩,_⟩:=I.tuple s'
   obtain⟨as,ra⟩:=readsL_of I am l hl rv
   exact⟨as,.tuple e hc hd (by simpa using ra)⟩
 | _,_,.lst m l,_,_,h,r=>by
  cases h
  cases r
  obtain⟨xs,hx,hl⟩:=am.lst m
  obtain⟨its,rv,⟨o,n,e,hc,_,hd⟩,_⟩:=I.list (SqL.of hx)
  obtain⟨as,ra⟩:=readsL_of I am l hl rv
  exact⟨_,.list e hc hd (by simpa using ra)⟩
 | _,_,.vl l,_,_,h,r=>by
  obtain⟨a,xs,rfl,sq,hl⟩:=h.il
  cases r
  obtain⟨its,rv,⟨o,n,e,hc,_,hd⟩,_⟩:=I.list sq
  obtain⟨as,ra⟩:=readsL_of I am l hl rv
  exact⟨_,.list e hc hd (by simpa using ra)⟩
theorem readsL_of{pins:List (Addr × Obj)}{s:Shared}{σ:St}{H:Hp}{M:Mem}(I:Inv X pins σ H s)(am:v7 X.K H M):∀{ds:List D} {ps:List PyData},PyRL M ds ps→∀{vs:List V} {us:List Value},HasL X.K H vs ds→q9 vs us→∃ as,ReadsAll s.heap us ps as
 | _,_,.nil,_,_,h,r=>by cases h;cases r;exact⟨_,.nil⟩
 | _,_,.cons a l,_,_,h,r=>by
  cases h with
  | cons h hl =>
   cases r with
   | cons r rl =>
    obtain⟨as,q⟩:=a0e I am a h r
    obtain⟨bs,q2⟩:=readsL_of I am l hl rl
    exact⟨_,.cons q q2⟩
end
noncomputable def gEq(neg:Bool):DR2:=fun x y M R=>∃ px py,PyR M x px∧PyR M y py∧SeqAt.shaped px=true∧SeqAt.shaped py=true∧R (.bl (neg.xor (PyData.eqv px py))) M
theorem c5A(hu:X.A.units+64<cLine):DOp X (compareOp .Eq) (gEq false):=by
 intro pins s σ H x y v u Q I rx ry h
 obtain⟨dx,dy,M,R,hx,hy,am,⟨px,py,p1,p2,s1,s2,r⟩,f⟩:=h
 obtain⟨as,r1⟩:=a0e I am p1 hx rx
 obtain⟨bs,r2⟩:=a0e I am p2 hy ry
 exact eq_dataH r1 r2 s1 s2 hu ⟨.bl _,H,I,rfl,by have:=f _ M r _ H (KT.refl H) am (.bl _);simpa using this⟩
theorem c5x(hu:X.A.units+64<cLine):DOp X (compareOp .NotEq) (gEq true):=by
 intro pins s σ H x y v u Q I rx ry h
 obtain⟨dx,dy,M,R,hx,hy,am,⟨px,py,p1,p2,s1,s2,r⟩,f⟩:=h
 obtain⟨as,r1⟩:=a0e I am p1 hx rx
 obtain⟨bs,r2⟩:=a0e I am p2 hy ry
 exact ne_dataH r1 r2 s1 s2 hu ⟨.bl _,H,I,rfl,by have:=f _ M r _ H (KT.refl H) am (.bl _);simpa using this⟩
mutual
noncomputable def pyD:D→PyData
 | .int i=>.int i
 | .str x=>.str x
 | .bl b=>.bool b
 | .tup ds=>.tuple (pyDL ds)
 | .vl ds=>.list (pyDL ds)
 | _=>.none
noncomputable def pyDL:List D→List PyData
 | []=>[]
 | d :: r=>pyD d :: pyDL r
end
mutual
noncomputable def cl:Nat→D→Bool
 | _,.int _=>true
 | _,.non=>true
 | _,.str x=>PyData.canLay0 (.str x)
 | k+1,.tup ds=>clL k ds
 | k+1,.vl ds=>clL k ds
 | _,_=>false
noncomputable def clL:Nat→List D→Bool
 | _,[]=>true
 | k,d :: r=>cl k d && clL k r
end
mutual
theorem b6O{M:Mem}:∀{k:Nat} {d:D},cl k d=true→PyR M d (pyD d)∧(pyD d).canLay0=true∧(pyD d).depth≤k
 | _,.int i,_=>⟨.int i,rfl,c9K _⟩
 | _,.non,_=>⟨.non,rfl,c9K _⟩
 | 0,.tup ds,h=>by simp[cl]at h
 | k+1,.tup ds,h=>by
  obtain⟨a,b,c⟩:=clL_py (M:=M) (k:=k) (ds:=ds) (by simpa[cl]using h)
  exact⟨.tup a,by simpa[pyD,PyData.canLay0]using b,by simp only[pyD,PyData.depth];omega⟩
 | _,.str x,h=>⟨.str x,by simpa[cl,pyD]using h,c9K _⟩
 | _,.bl _,h=>by simp[cl]at h
 | _,.ref _,h=>by simp[cl]at h
 | 0,.vl ds,h=>by simp[cl]at h
 | k+1,.vl ds,h=>by
  obtain⟨a,b,c⟩:=clL_py (M:=M) (k:=k) (ds:=ds) (by simpa[cl]using h)
  exact⟨.vl a,by simpa[pyD,PyData.canLay0]using b,by simp only[pyD,PyData.depth];omega⟩
 | _,.ty _,h=>by simp[cl]at h
theorem clL_py{M:Mem}:∀{k:Nat} {ds:List D},clL k ds=true→PyRL M ds (pyDL ds)∧PyData.canLayAll0 (pyDL ds)=true∧PyData.depthAll (pyDL ds)≤k
 | _,[],_=>⟨.nil,rfl,c9K _⟩
 | k,d :: r,h=>by
  have h':cl k d=true∧clL k r=true:=by simpa[clL]using h
  obtain⟨a,b,c⟩:=b6O (M:=M) h'.1
  obtain⟨a2,b2,c2⟩:=clL_py (M:=M) h'.2
  exact⟨.cons a a2,by simp[pyDL,PyData.canLayAll0,b,b2],by simp only[pyDL,PyData.depthAll];omega⟩
end
mutual
theorem b6Q:∀{k j:Nat} {x y:D},cl k x=true→cl j y=true→(PyData.eqv (pyD x) (pyD y)=true↔x=y)
 | _,_,.int i,.int j,_,_=>by simp[pyD,PyData.eqv]
 | _,_,.int i,.non,_,_=>by simp[pyD,PyData.eqv]
 | _,_,.non,.int i,_,_=>by simp[pyD,PyData.eqv]
 | _,_,.non,.non,_,_=>by simp[pyD,PyData.eqv]
 | _,_,.int i,.tup ds,_,_=>by simp[pyD,PyData.eqv]
 | _,_,.non,.tup ds,_,_=>by simp[pyD,PyData.eqv]
 | _,_,.tup ds,.int i,_,_=>by simp[pyD,PyData.eqv]
 | _,_,.tup ds,.non,_,_=>by simp[pyD,PyData.eqv]
 | k+1,j+1,.tup ds,.tup es,h,h'=>by
  have:=clL_eqv (k:=k) (j:=j) (xs:=ds) (ys:=es) (by simpa[cl]using h) (by simpa[cl]using h')
  simp only[pyD,PyData.eqv,D.tup.injEq]
  exact this
 | 0,_,.tup ds,.tup es,h,_=>by simp[cl]at h
 | _,0,.tup ds,.tup es,_,h=>by simp[cl]at h
 | _,_,.str x,.str y,_,_=>by simp[pyD,PyData.eqv]
 | _,_,.str x,.int i,_,_=>by simp[pyD,PyData.eqv]
 | _,_,.str x,.non,_,_=>by simp[pyD,PyData.eqv]
 | _,_,.str x,.tup ds,_,_=>by simp[pyD,PyData.eqv]
 | _,_,.int i,.str x,_,_=>by simp[pyD,PyData.eqv]
 | _,_,.non,.str x,_,_=>by simp[pyD,PyData.eqv]
 | _,_,.tup ds,.str x,_,_=>by simp[pyD,PyData.eqv]
 | k+1,j+1,.vl ds,.vl es,h,h'=>by
  have:=clL_eqv (k:=k) (j:=j) (xs:=ds) (ys:=es) (by simpa[cl]using h) (by simpa[cl]using h')
  simp only[pyD,PyData.eqv,D.vl.injEq]
  exact this
 | 0,_,.vl ds,.vl es,h,_=>by simp[cl]at h
 | _,0,.vl ds,.vl es,_,h=>by simp[cl]at h
 | _,_,.vl ds,.int i,_,_=>by simp[pyD,PyData.eqv]
 | _,_,.vl ds,.non,_,_=>by simp[pyD,PyData.eqv]
 | _,_,.vl ds,.str x,_,_=>by simp[pyD,PyData.eqv]
 | _,_,.vl ds,.tup es,_,_=>by simp[pyD,PyData.eqv]
 | _,_,.int i,.vl ds,_,_=>by simp[pyD,PyData.eqv]
 | _,_,.non,.vl ds,_,_=>by simp[pyD,PyData.eqv]
 | _,_,.str x,.vl ds,_,_=>by simp[pyD,PyData.eqv]
 | _,_,.tup es,.vl ds,_,_=>by simp[pyD,PyData.eqv]
 | _,_,.bl _,_,h,_=>by simp[cl]at h
 | _,_,.ref _,_,h,_=>by simp[cl]at h
 | _,_,.ty _,_,h,_=>by simp[cl]at h
 | _,_,_,.bl _,_,h=>by simp[cl]at h
 | _,_,_,.ref _,_,h=>by simp[cl]at h
 | _,_,_,.ty _,_,h=>by simp[cl]at h
theorem clL_eqv:∀{k j:Nat} {xs ys:List D},clL k xs=true→clL j ys=true→(PyData.eqvAll (pyDL xs) (pyDL ys)=true↔xs=ys)
 | _,_,[],[],_,_=>by simp[pyDL,PyData.eqvAll]
 | _,_,[],_ :: _,_,_=>by simp[pyDL,PyData.eqvAll]
 | _,_,_ :: _,[],_,_=>by simp[pyDL,PyData.eqvAll]
 | k,j,x :: xs,y :: ys,h,h'=>by
  have h1:cl k x=true∧clL k xs=true:=by simpa[clL]using h
  have h2:cl j y=true∧clL j ys=true:=by simpa[clL]using h'
  have e1:=b6Q h1.1 h2.1
  have e2:=clL_eqv h1.2 h2.2
  simp only[pyDL,PyData.eqvAll,d0M,e1,e2,List.cons.injEq]
end
open Classical in
theorem b6s{neg:Bool}{x y:D}{M:Mem}{R:DK}(h:R (.bl (neg.xor (decide (x=y)))) M)(hx:cl 60 x=true:=by rfl)(hy:cl 60 y=true:=by rfl):gEq neg x y M R:=by
 obtain⟨a,b,c⟩:=b6O (M:=M) hx
 obtain⟨a2,b2,c2⟩:=b6O (M:=M) hy
 refine⟨_,_,a,a2,?_,?_,?_⟩
 ·simp only[SeqAt.shaped,b,d1h];exact decide_eq_true (by omega)
 ·simp only[SeqAt.shaped,b2,d1h];exact decide_eq_true (by omega)
 ·have e:PyData.eqv (pyD x) (pyD y)=decide (x=y):=by
   have:=b6Q hx hy
   by_cases q:x=y
   ·rw[decide_eq_true q];exact this.mpr q
   ·rw[decide_eq_false q]
    cases z:PyData.eqv (pyD x) (pyD y)with
    | false=>rfl
    | true=>exact absurd (this.mp z) q
  rw[e];exact h
noncomputable def tyD(M:Mem):D→Option String
 | .non=>some "NoneType"
 | .bl _=>some "bool"
 | .int _=>some "int"
 | .str _=>some "str"
 | .tup _=>some "tuple"
 | .ref p=>match M p with
  | some (.lst _)=>some "list"
  | _=>none
 | .vl _=>some "list"
 | .ty _=>none
 | .dic=>some "dict"
noncomputable def b8d(t T:String):Option Bool:=if t=T then some true else
 match t,T with
 | "bool","int" => some true
 | _,_=>if (t∈["NoneType","bool","int","str","tuple","list","dict"])∧(T∈["bool","int","str","tuple","list"])then some false else none
noncomputable def b7c(K:c8U):Prop:=∀ t T b,b8d t T=some b→PySem.W.kitOne K (.type t) (.type T)=some b
theorem a0g{x:Str}{n:String}(hg:Gl X x)(hm:X.mg x=none)(hv:bootBuiltins x=some (.type n))(hn:x ≠ "__name__" := by decide)(hd:(x == ("__debug__" : Str))=false:=by decide):JE X (.Name x pos) (dC (.ty n)):=⟨a0L (v:=.ty n) (b8K hg hm hv rfl hn hd) fun _=>.ty n⟩
noncomputable def D3:DRC:=fun ds M R=>∃ d t T b,ds=[d,.ty T]∧tyD M d=some t∧b8d t T=some b∧R (.bl b) M
theorem a0j(hk:b7c X.K):a2c X (.builtin "isinstance") D3:=by
 intro pins s σ H xs us Q I rv h
 obtain⟨ds,M,R,hl,am,⟨d,t,T,b,rfl,ht,hb,r⟩,f⟩:=h
 obtain⟨v,v',rfl,h1,h2⟩:=hl.two
 cases h2
 obtain⟨u,w',rfl,r1,r2⟩:=b4L rv
 cases(show w'=Value.type T from r2)
 have e:=hk t T b hb
 have fin:∀ tk,EP X pins σ Q (.bool b) { s with toks:=tk }:=fun tk=>⟨.bl b,H,I.tok tk,rfl,f _ M r _ H (KT.refl H) am (.bl b)⟩
 cases h1 with
 | non=>cases ht;exact R9 I r1 .non e fin
 | bl q=>cases ht;exact R9 I r1 (.bl q) e fin
 | int q=>cases ht;exact R9 I r1 (.int q) e fin
 | str q=>cases ht;exact R9 I r1 (.str q) e fin
 | ty q=>cases ht
 | ref p =>
  unfold tyD at ht
  cases q:M p with
  | none=>simp[q]at ht
  | some o =>
   cases o with
   | lst es =>
    simp only[q]at ht
    cases ht
    obtain⟨ys,hy,_⟩:=am.lst q
    exact R9 I r1 (.lst hy) e fin
 | tup s' l =>
  cases ht
  cases(show u=Value.ref _ from r1)
  obtain⟨its,_,⟨o,h1,h2,_⟩,_⟩:=I.tuple s'
  exact PySem.W.kia_one PySem.W.kitx_tuple I.kIn ⟨o,h1,h2⟩ e (fun z=>nomatch z) fin
 | vl hq hl' =>
  cases ht
  cases(show u=Value.ref _ from r1)
  obtain⟨_,_,ea,sq,_⟩:=Has.il (.vl hq hl')
  cases ea
  obtain⟨its,_,⟨o,n,h1,h2,_⟩,_⟩:=I.list sq
  exact PySem.W.kia_one PySem.W.kitx_list I.kIn ⟨o,h1,h2⟩ e (fun z=>nomatch z) fin
 | dic hq =>
  cases ht
  cases(show u=Value.ref _ from r1)
  obtain⟨o,g1,g2⟩:=hq
  exact PySem.W.kia_one PySem.W.kitx_dict I.kIn ⟨o,(I.hok _ _ g1).1,g2⟩ e (fun z=>nomatch z) fin
theorem b8Z:MtR X "int.bit_length" (fun x xs H Q=>∃ i,x = .int i∧xs=[]∧Q (.int (Builtin.Int.intBits i:Nat)) H):=by
 intro pins s σ H x xs v us Q I rx rv h
 obtain⟨i,rfl,rfl,q⟩:=h
 cases rv
 obtain⟨t,rfl⟩:=rx
 exact call_int_bit_length ⟨.int _,H,I.tok _,⟨_,rfl⟩,q⟩
end
end DL
namespace DL
open PySem PySem.Spec L2
open PyProof.Rows hiding St
section
variable {X:Cx} {a b c:Expr} {ta tb tc:DTE} {pos:Pos}
noncomputable def Y0:DXK:=fun _ _=>False
theorem c5L{K:c8U}{H:Hp}{E:XK}:c2N K H Y0 E:=fun _ _ h=>h.elim
structure b9v(K:c8U)(x:Str)(st:Stmt)(f:Addr)(fd:FuncData):Prop where
 ex:∃(oc:Value) (od:Option Addr) (dV kV doc pm:Value) (an:Option Addr) (cdv ct:Value) (osl:Array (Option Value)),
  fd=PySem.W.fnOf x x (X0 st) (M0 st) (e8 st) dV kV doc pm an cdv ct∧K.lookup f=some ⟨oc,od,.func fd,osl⟩∧PySem.W.codeIn K cdv x=true
 kp:PySem.W.keepIn K (.ref f)=true
structure Df(K:c8U)(mg:Str→Option Value)(x:Str)(st:Stmt)(ps:List Str):Prop where
 ex:∃(f:Addr) (fd:FuncData),b9v K x st f fd∧mg x=some (.ref f)∧a4S K fd ps []
structure DfL(K:c8U)(mg:Str→Option Value)(x:Str)(st:Stmt)(ps:List Str):Prop where
 ex:∃(f:Addr) (fd:FuncData),b9v K x st f fd∧mg x=some (.ref f)∧∀ us:List Value,us.length=ps.length→bindArgs fd ⟨us,[]⟩=pure (ps.zip us)
structure Fn(P:Program)(w:World)(K:c8U)(mg:Str→Option Value)(base:Heap)(x:Str)(k:Nat)(ps:List Str)(sp:DSp):Prop where
 ex:∃(f:Addr) (fd:FuncData),X8 P w K mg base CX0 k f fd ps (a8I K sp)∧mg x=some (.ref f)∧PySem.W.keepIn K (.ref f)=true∧a4S K fd ps []
theorem b6g{x:Str}{j:Nat}{ps:List Str}{sp:DSp}{p:Pos}{e:Expr}{es:List Expr}{t:DTA}(G:Fn X.prog X.w X.K X.mg X.base x j ps sp)(hr:L6 j X.A)(hg:Gl X x)(ha:JA X (e :: es) t)
  (hdb:(x == ("__debug__" : Str))=false:=by decide) (he:starEach (e :: es) X.env=(false,eval e X.env) :: starEach es X.env:=by rfl) (hpl:(backTo pos (starEach es X.env)).any (·.1)=false:=by rfl):JE X (.Call (.Name x p) (e :: es) [] pos) (b2A sp [] Y0 t):=⟨have ha:=ha.out;by
 obtain⟨f,fd,F,hm,hk,hb⟩:=G.ex
 exact c2z F hr hg hm hk hb .nil (fun _=>.nil) c3V (fun _=>c5L) ha hdb he hpl⟩
end
section
variable {P:Program} {w:World} {K:c8U} {mg:Str→Option Value} {base:Heap}
theorem c0q{x:Str}{st:Stmt}{f:Addr}{fd:FuncData}{N ps:List Str}{k:Nat}{sp:DSp}(F:b9v K x st f fd)(S:f8 N ps (e8 st))(len:∀ ds M R Y,sp ds M R Y→ds.length=ps.length)
  (hbody:∀(cdv:Value) (A:Around) (outer:List Env) (s:Shared) (H:Hp) (E:XK) (ds:List D) (M:Mem) (R:DK) (Y:DXK),L6 k (A.deeper (envOfC x (e8 st) s.heap.objs.size f cdv))→sp ds M R Y →
   ∃ t,JSs (b0U CX0 P w K mg base N x (e8 st) f cdv A outer s H E).nox (M0 st) t∧t { nx:=fun _ M'=>R .non M',rt:=R } (a1m N ds) M):X8 P w K mg base CX0 (k+1) f fd ps (a8I K sp):=by
 obtain⟨oc,od,dV,kV,doc,pm,an,cdv,ct,osl,rfl,lk,hcd⟩:=F.ex
 refine c4w lk hcd S (fun vs H Q E ⟨ds,M,R,Y,hl,_,hs,_,_⟩=>by rw[hl.length];exact len ds M R Y hs) fun A outer s H vs Q E hr zz=>?_
 obtain⟨ds,M,R,Y,hl,am,hs,fv,fx⟩:=zz
 obtain⟨t,h1,h2⟩:=hbody cdv A outer s H E ds M R Y hr hs
 refine⟨_,h1.out.nox,a1m N ds,M,_,B8.start0 hl,am,h2,⟨?_,fv,fun _ _ h=>h.elim,fun _ _ h=>h.elim⟩⟩
 exact fun e M' h σ' H' kt a o=>fv .non M' h .non H' kt a .non
theorem i4{x:Str}{st:Stmt}{N ps:List Str}{k:Nat}{sp:DSp}(d:Df K mg x st ps)(S:f8 N ps (e8 st))(len:∀ ds M R Y,sp ds M R Y→ds.length=ps.length)
  (hbody:∀(f:Addr) (cdv:Value) (A:Around) (outer:List Env) (s:Shared) (H:Hp) (E:XK) (ds:List D) (M:Mem) (R:DK) (Y:DXK),L6 k (A.deeper (envOfC x (e8 st) s.heap.objs.size f cdv))→sp ds M R Y →
   ∃ t,JSs (b0U CX0 P w K mg base N x (e8 st) f cdv A outer s H E).nox (M0 st) t∧t { nx:=fun _ M'=>R .non M',rt:=R } (a1m N ds) M):Fn P w K mg base x (k+1) ps sp:=by
 obtain⟨f,fd,F,hm,hb⟩:=d.ex
 exact⟨f,fd,c0q F S len (hbody f),hm,F.kp,hb⟩
theorem i9{x:Str}{st:Stmt}{ps:List Str}{h:Heap}{f:Addr}{oc:Value}{od an:Option Addr}{osl:Array (Option Value)}{dV kV doc pm cdv ct:Value}(X:K.In h)(G:h.Ns mainGlobals mg)
  (n:PySem.W.nsIn K mainGlobals x=some (some (.ref f)))
  (l:K.lookup f=some ⟨oc,od,.func (PySem.W.fnOf x x (X0 st) (M0 st) (e8 st) dV kV doc pm an cdv ct),osl⟩)
  (c:PySem.W.codeIn K cdv x=true) (k:PySem.W.keepIn K (.ref f)=true)
  (hb:∀ us:List Value,us.length=ps.length→bindArgs (PySem.W.fnOf x x (X0 st) (M0 st) (e8 st) dV kV doc pm an cdv ct) ⟨us,[]⟩=pure (ps.zip us)):Df K mg x st ps :=
 ⟨f,_,⟨⟨oc,od,dV,kV,doc,pm,an,cdv,ct,osl,rfl,l,c⟩,k⟩,PySem.W.mg_of X G n,.all hb⟩
theorem c2v{x:Str}{st:Stmt}{ps:List Str}{h:Heap}{f:Addr}{oc:Value}{od an:Option Addr}{osl:Array (Option Value)}{dV kV doc pm cdv ct:Value}(X:K.In h)(G:h.Ns mainGlobals mg)
  (n:PySem.W.nsIn K mainGlobals x=some (some (.ref f)))
  (l:K.lookup f=some ⟨oc,od,.func (PySem.W.fnOf x x (X0 st) (M0 st) (e8 st) dV kV doc pm an cdv ct),osl⟩)
  (c:PySem.W.codeIn K cdv x=true) (k:PySem.W.keepIn K (.ref f)=true)
  (hb:∀ us:List Value,us.length=ps.length→bindArgs (PySem.W.fnOf x x (X0 st) (M0 st) (e8 st) dV kV doc pm an cdv ct) ⟨us,[]⟩=pure (ps.zip us)):DfL K mg x st ps :=
 ⟨f,_,⟨⟨oc,od,dV,kV,doc,pm,an,cdv,ct,osl,rfl,l,c⟩,k⟩,PySem.W.mg_of X G n,hb⟩
theorem c2w{x:Str}{st:Stmt}{ps:List Str}{h:Heap}{f:Addr}{oc:Value}{od an:Option Addr}{osl:Array (Option Value)}{dV kV doc pm cdv ct:Value}(X:K.In h)(G:h.Ns mainGlobals mg)
  (n:PySem.W.nsIn K mainGlobals x=some (some (.ref f)))
  (l:K.lookup f=some ⟨oc,od,.func (PySem.W.fnOf x x (X0 st) (M0 st) (e8 st) dV kV doc pm an cdv ct),osl⟩)
  (c:PySem.W.codeIn K cdv x=true) (k:PySem.W.keepIn K (.ref f)=true)
  (hb:∀ us:List Value,us.length=ps.length→∀ S,PySem.W.peek K S (bindArgs (PySem.W.fnOf x x (X0 st) (M0 st) (e8 st) dV kV doc pm an cdv ct) ⟨us,[]⟩)=some (ps.zip us)):Df K mg x st ps :=
 ⟨f,_,⟨⟨oc,od,dV,kV,doc,pm,an,cdv,ct,osl,rfl,l,c⟩,k⟩,PySem.W.mg_of X G n,fun s us X' hl=>by rw[c9M]at hl ⊢;exact PySem.W.kp_binds X' (hb us hl)⟩
end
section
variable {X:Cx} {x:Str} {p pos:Pos} {e:Expr} {es:List Expr} {t:DTA} {id T:String} {o:Expr} {to:DTE} {a b c:Expr} {ta tb tc:DTE}
theorem p0{g:DRC}(hc:a2c X (.builtin id) g)(hg:Gl X x)(hm:X.mg x=none)(hv:bootBuiltins x=some (.builtin id))(ha:JA X (e :: es) t)
  (hn:x ≠ "__name__" := by decide) (hdb:(x == ("__debug__" : Str))=false:=by decide) (he:starEach (e :: es) X.env=(false,eval e X.env) :: starEach es X.env:=by rfl) (hpl:(backTo pos (starEach es X.env)).any (·.1)=false:=by rfl):JE X (.Call (.Name x p) (e :: es) [] pos) (dCB g t):=⟨have ha:=ha.out;(b5F hc hg hm hv ha hn hdb he hpl).imp fun _ _ _ h=>c0H h⟩
theorem b2h{g:DRC}(hc:a2c X (.type T) g)(hg:Gl X x)(hm:X.mg x=none)(hv:bootBuiltins x=some (.type T))(ha:JA X (e :: es) t)
  (hn:x ≠ "__name__" := by decide) (hdb:(x == ("__debug__" : Str))=false:=by decide) (he:starEach (e :: es) X.env=(false,eval e X.env) :: starEach es X.env:=by rfl) (hpl:(backTo pos (starEach es X.env)).any (·.1)=false:=by rfl):JE X (.Call (.Name x p) (e :: es) [] pos) (dCB g t):=⟨have ha:=ha.out;(R4 hc hg hm hv ha hn hdb he hpl).imp fun _ _ _ h=>c0H h⟩
noncomputable def c4t:D→Mem→DK→Prop:=fun x M R=>∃ i,x = .int i∧R (.int (Builtin.Int.intBits i:Nat)) M
theorem b85{apos cpos:Pos}(ho:JE X o to)(hbase:attributeBase o "bit_length" X.env (eval o X.env)=eval o X.env:=by rfl)(hline:(apos.endLine == cpos.line)=true:=by rfl):JE X (.Call (.Attribute o "bit_length" apos) [] [] cpos) (dUn c4t to):=⟨have ho:=ho.out;(c1J PySem.F.plainAttrs_int PySem.F.slot_int_bit_length PySem.F.type_int_bit_length b8Z ho hbase hline).imp (by rintro σ H Q ⟨e,M,R,ok,am,t,f⟩;exact⟨e,M,_,ok,am,t,fun x M1 ⟨i,z,r⟩ v H1 k1 a1 r1=>by
  subst z;cases r1;exact⟨rfl,i,rfl,rfl,f _ M1 r _ H1 k1 a1 (.int _)⟩⟩)⟩
theorem b8O:OpR X (binaryOp .Add) (fun x y H Q=>∃ l b xs zs,x = .ref l∧y = .ref b∧SqL X.K H l xs∧SqL X.K H b zs∧xs.length+zs.length≤sizeLine∧∀ p,H p=none→Q (.ref p) (upd H p (.lst (xs++zs)))):=by
 intro pins s σ H x y v u Q I rx ry h
 obtain⟨l,b,xs,zs,rfl,rfl,hH,hB,hz,q⟩:=h
 cases rx
 cases ry
 obtain⟨its,r,pl,z1⟩:=I.list hH
 obtain⟨its2,r2,pl2,z2⟩:=I.list hB
 have hl:=r.length
 have hl2:=r2.length
 obtain⟨⟨cls,dd,data,sl⟩,ho,hc,n,hd⟩:=pl.isList
 obtain⟨⟨cls2,dd2,data2,sl2⟩,ho2,hc2,n2,hd2⟩:=pl2.isList
 simp only at hc hd hc2 hd2
 subst hc hd hc2 hd2
 have ea:its.toArray++its2.toArray=(its++its2).toArray:=by simp
 refine concat_meets ⟨_,ho,rfl⟩ ⟨_,ho2,rfl⟩ noFill_list_add seq_list_add PySem.F.slot_list_add PySem.F.entry_list_add (PySem.F.args_list_add_2 _ _) (list_addW l b its.toArray its2.toArray n n2 dd dd2 sl sl2 (by simp only[c9c];omega)) ⟨ho,ho2,?_⟩
 rw[ea]
 exact⟨.ref _,_,I.lnew (t':=s.toks) (r.append r2) (by rw[c9h];omega),rfl,q _ I.fresh⟩
noncomputable def W5(M:Mem):D→Option (List D)
 | .ref p=>match M p with
  | some (.lst ds)=>some ds
  | _=>none
 | .vl ds=>some ds
 | _=>none
theorem F9{K:c8U}{H:Hp}{M:Mem}{v:V}{d:D}{ds:List D}(am:v7 K H M)(h:Has K H v d)(e:W5 M d=some ds):∃ a xs,v = .ref a∧SqL K H a xs∧HasL K H xs ds:=by
 cases h with
 | ref p =>
  unfold W5 at e
  cases q:M p with
  | none=>simp[q]at e
  | some o =>
   cases o with
   | lst es =>
    simp only[q]at e
    cases e
    obtain⟨xs,hx,l⟩:=am.lst q
    exact⟨p,xs,rfl,SqL.of hx,l⟩
 | vl hq hl =>
  cases e
  exact Has.il (.vl hq hl)
 | _=>cases e
end
end DL
namespace DL
open PySem PySem.Spec L2
open PyProof.Rows hiding St
end DL
namespace DL
open PySem PySem.Spec L2
open PyProof.Rows hiding St
theorem sl(n:Nat)(h:n≤1000:=by decide):n≤sizeLine:=c85 h (by decide)
section
variable {X:Cx}
open Classical in
noncomputable def c2s(neg:Bool):DR2:=fun x y M R=>cl 60 x=true∧cl 60 y=true∧R (.bl (neg.xor (decide (x=y)))) M
theorem E4(hu:X.A.units+64<cLine):DOp X (compareOp .Eq) (c2s false):=OpR.imp (c5A hu) (by rintro _ _ _ _ ⟨dx,dy,M,R,hx,hy,am,⟨h1,h2,h3⟩,f⟩;exact⟨dx,dy,M,R,hx,hy,am,b6s h3 h1 h2,f⟩)
theorem b1Z(hu:X.A.units+64<cLine):DOp X (compareOp .NotEq) (c2s true):=OpR.imp (c5x hu) (by rintro _ _ _ _ ⟨dx,dy,M,R,hx,hy,am,⟨h1,h2,h3⟩,f⟩;exact⟨dx,dy,M,R,hx,hy,am,b6s h3 h1 h2,f⟩)
theorem R5:DOp X (compareOp .Eq) (gF (fI fun i j=>.bl (decide (i=j)))):=OpR.imp c0k (by
 rintro x y H Q ⟨dx,dy,M,R,hx,hy,am,⟨z,e,r⟩,f⟩
 obtain⟨i,j,e1,e2,e3⟩:=a7T e
 subst e1;subst e2;subst e3
 cases hx;cases hy
 refine⟨rfl,?_⟩
 have e:decide (V.int i=V.int j)=decide (i=j):=by simp
 rw[e]
 exact f _ M r _ H (KT.refl H) am (.bl _))
theorem a4B:DOp X (compareOp .NotEq) (gF (fI fun i j=>.bl (!decide (i=j)))):=OpR.imp c0j (by
 rintro x y H Q ⟨dx,dy,M,R,hx,hy,am,⟨z,e,r⟩,f⟩
 obtain⟨i,j,e1,e2,e3⟩:=a7T e
 subst e1;subst e2;subst e3
 cases hx;cases hy
 refine⟨rfl,?_⟩
 have e:decide (V.int i=V.int j)=decide (i=j):=by simp
 rw[e]
 exact f _ M r _ H (KT.refl H) am (.bl _))
end
theorem b3o{c:Prop}[Decidable c]{A B:Prop}(h1:c→A)(h2:¬ c→B):if decide c=true then A else B:=by
 by_cases h:c
 ·rw[if_pos (decide_eq_true h)];exact h1 h
 ·rw[if_neg (by rw[decide_eq_false h];exact c9n)];exact h2 h
theorem b6h{c:Prop}[Decidable c]{A B:Prop}(h1:¬ c→A)(h2:c→B):if (!decide c)=true then A else B:=by
 by_cases h:c
 ·rw[decide_eq_true h];rw[if_neg (by decide)];exact h2 h
 ·rw[decide_eq_false h];rw[if_pos (by decide)];exact h1 h
theorem F0{n k:Nat}(h:n<2 ^ k)(hk:0<k):n.log2<k:=by
 rcases d0o n with h0|h0
 ·subst h0;rw[Nat.log2_zero];exact hk
 ·exact(d1f (d1K.mp h0)).mpr h
theorem u5{a b:Int}(m n:Nat)(ha:a.natAbs<2 ^ m)(hb:b.natAbs<2 ^ n)(h:m+n≤100000):IntMulOk a b:=by
 have hx:∀(x:Int) (k:Nat),x.natAbs<2 ^ k→Builtin.Int.intBits x≤k:=fun x k hx=>by
  unfold Builtin.Int.intBits
  split
  ·exact c9K _
  ·rename_i h0
   have:x.natAbs≠0:=by
    intro z;apply h0
    first|exact(by simpa using Int.natAbs_eq_zero.mp z)|(simp;omega)
   have:=(d1f this).mpr hx
   omega
 exact PySem.IntMulOk.of_le (hx a m ha) (hx b n hb) (by omega)
end DL
namespace DL
open PySem PySem.Spec L2
open PyProof.Rows hiding St
noncomputable def c5C(t T:String):Option Bool:=if PySem.W.kitMeta T=true then(fastBuiltinMro t).map (·.contains (.type T))else none
theorem c3I(K:c8U):b7c K:=by
 intro t T b h
 unfold b8d at h
 by_cases e:t=T
 ·subst e
  rw[if_pos rfl]at h
  cases h
  unfold PySem.W.kitOne
  rw[if_pos (beq_self_eq_true _)]
 ·rw[if_neg e]at h
  have hne:¬ (Value.type t == Value.type T)=true:=fun z=>e (by have:=eq_of_beq z;injection this)
  unfold PySem.W.kitOne
  rw[if_neg hne]
  show c5C t T=some b
  split at h
  ·cases h;decide +kernel
  ·split at h
   ·rename_i hh
    obtain⟨ht,hT⟩:=hh
    simp only[c9l,c9u,or_false]at ht hT
    cases h
    rcases ht with rfl|rfl|rfl|rfl|rfl|rfl|rfl<;>rcases hT with rfl|rfl|rfl|rfl|rfl<;>first|exact absurd rfl e|decide +kernel|(exfalso;simp_all)
   ·cases h
theorem b0P{K:c8U}{H:Hp}{a:Addr}{ns:List Int}(hO:b3J H)(hS:SqL K H a (ns.map V.int)):Has K H (.ref a) (.vl (ns.map D.int)):=by
 rcases hS with(h|⟨o,h⟩)|h
 ·rcases hO a with z|⟨o,xs,z⟩
  ·rw[z]at h;cases h
  ·rw[z]at h;cases h
 ·exact .vl (.inl ⟨o,h⟩) (HasL.ints ns)
 ·exact .vl (.inr fun _=>.inr h) (HasL.ints ns)
theorem c2a{K:c8U}{H:Hp}{a:Addr}{ns:List Int}{sp:DSp}(hO:b3J H)(hS:SqL K H a (ns.map V.int))(h:sp [.vl (ns.map D.int)] (fun _=>none) (fun d _=>d = .bl true) Y0) :
  a8I K sp [.ref a] H (fun v _=>v = .bl true) (fun _ _ _=>False) :=
 ⟨[.vl (ns.map D.int)],fun _=>none,fun d _=>d = .bl true,Y0,.cons (b0P hO hS) .nil,fun _ _ z=>(by cases z),h,fun d M' e v H' _ _ hv=>by subst e;cases hv;rfl,fun _ _ z=>z.elim⟩
end DL
namespace DL
open PySem PySem.Spec L2
open PyProof.Rows hiding St
section
variable {X:Cx} {o e:Expr} {es:List Expr} {to:DTE} {t:DTA} {name:Str} {apos cpos:Pos} {id:String}
noncomputable abbrev DRM:=D→List D→Mem→DK→Prop
noncomputable def upM(K:c8U)(g:DRM):V→List V→Hp→VK→Prop:=fun x xs H Q=>∃ dx ds M R,Has K H x dx∧HasL K H xs ds∧v7 K H M∧g dx ds M R∧a4Q K H R Q
noncomputable def DMt(X:Cx)(id:String)(g:DRM):Prop:=MtR X id (upM X.K g)
theorem MtR.imp{r r':V→List V→Hp→VK→Prop}(h:MtR X id r)(i:∀ x xs H Q,r' x xs H Q→r x xs H Q):MtR X id r':=fun pins s σ H x xs v us Q I rx rv q=>h pins s σ H x xs v us Q I rx rv (i x xs H Q q)
noncomputable def dLM(g:DRM)(to:DTE)(t:DTA):DTE:=fun e M R=>to e M fun x M1=>(∃ l ds,x = .ref l∧M1 l=some (.lst ds))∧t e M1 fun xs M2=>g x xs M2 R
theorem R8{g:DRM}(slot:Slot "list" name id)(hty:typeOf (.builtin id)=pure (.type "method_descriptor"))(hm:DMt X id g)(ho:JE X o to)(ha:JA X (e :: es) t)
  (hbase:attributeBase o name X.env (eval o X.env)=eval o X.env:=by rfl)
  (hfew:((backTo cpos (starEach (e :: es) X.env)).all (fun x=>!x.1) && (backToKw cpos (keywordEach [] X.env)).all (fun x=>x.1.isSome)
   && decide ((e :: es).length+([]:List Keyword).length+(if ([]:List Keyword).isEmpty then 0 else 1)<30))=true:=by rfl)
  (hline:(apos.endLine == cpos.line)=true:=by rfl) (hs:starEach (e :: es) X.env=(false,eval e X.env) :: starEach es X.env:=by rfl) (hplain:(backTo cpos (starEach es X.env)).any (·.1)=false:=by rfl):JE X (.Call (.Attribute o name apos) (e :: es) [] cpos) (dLM g to t):=⟨have ho:=ho.out;have ha:=ha.out;(c3T PySem.F.plainAttrs_list slot hty hm ho ha hbase hfew hline hs hplain).imp (by rintro σ H Q ⟨e,M,R,ok,am,t,f⟩;exact⟨e,M,_,ok,am,t,fun x M1 ⟨⟨l,ds,z,hM⟩,h1⟩ v H1 k1 a1 r1=>by
  subst z
  have r1':=r1
  cases r1
  obtain⟨xs,hx,_⟩:=a1.lst hM
  refine⟨.inl ⟨rfl,xs,SqL.of hx⟩,e,M1,_,ok.mono k1,a1,h1,fun zs M2 h2 vs H2 k2 a2 r2=>?_⟩
  exact⟨_,zs,M2,R,r1'.mono k2,r2,a2,h2,f.mono (k1.trans k2)⟩⟩)⟩
theorem a3X:∀{bs:List Bool} {us:List Value},q9 (bs.map V.bl) us→us=bs.map Value.bool
 | [],_,r=>by cases r;rfl
 | b :: bs,_,r=>by
  cases r with
  | cons r rr =>
   cases(show _=Value.bool b from r)
   rw[a3X rr];rfl
theorem HasL.bools{K:c8U}{H:Hp}:∀{bs:List Bool} {vs:List V},HasL K H vs (bs.map D.bl)→vs=bs.map V.bl
 | [],_,r=>by cases r;rfl
 | b :: bs,_,r=>by
  cases r with
  | cons r rr=>cases r;rw[HasL.bools rr];rfl
noncomputable def fB(f:Bool→Bool→D):D→D→Option D
 | .bl i,.bl j=>some (f i j)
 | _,_=>none
end
end DL
namespace DL
open PySem PySem.Spec L2
open PyProof.Rows hiding St
section
variable {X:Cx}
noncomputable def c0n:DRC:=fun ds M R=>∃ x ys,ds=[x]∧W5 M x=some ys∧R (.tup ys) M
theorem c2B:a2c X (.type "tuple") c0n:=D7.imp a5A (by
 rintro xs H Q ⟨ds,M,R,hl,am,⟨x,ys,z,e,r⟩,f⟩
 subst z
 obtain⟨v,rfl,hv⟩:=hl.one
 obtain⟨a,vs,rfl,s,l⟩:=F9 am hv e
 exact⟨a,vs,rfl,.inl ⟨s,fun p hp=>f _ M r _ _ (KT.alloc hp) (am.alloc hp) (.tup (SqT.of j6) (l.mono (KT.alloc hp)))⟩⟩)
end
end DL
namespace DL
open PySem PySem.Spec L2
open PyProof.Rows hiding St
section
variable {X:Cx} {st:Stmt} {D4:List Stmt} {t u:DTS}
noncomputable def c0w(t u:DTS):DTS:=fun F e M=>∃ P:Ev→Mem→Prop,t { F with nx:=P } e M∧∀ e' M',P e' M'→u F e' M'
theorem J6(h1:JS X st t)(h2:JSs X D4 u):JSs X (st :: D4) (c0w t u):=⟨have h1:=h1.out;have h2:=h2.out;(a88 h1 h2).imp (by rintro E σ H ⟨e,M,F,ok,am,⟨P,t,hP⟩,f⟩;exact⟨e,M,{ F with nx:=P },ok,am,t,⟨fun e' M' h σ' H' k a o=>⟨e',M',F,o,a,hP e' M' h,f.mono k⟩,f.rt,f.bk,f.ct⟩⟩)⟩
end
section
variable {X:Cx}
theorem b3a(bs:List Bool):(c9H bs.length).all (fun i=>bs.getD i true)=bs.all id:=by
 have:(c9H bs.length).map (fun i=>bs.getD i true)=bs:=by
  apply d0z (by simp)
  intro i h1 h2
  simp[c9D,h2]
 conv=>rhs;rw[← this]
 rw[List.all_map];rfl
theorem a8J{prog:Program}{w:World}{A:Around}(bs:List Bool):TruthOf prog w A (fun i v=>(bs.map Value.bool).toArray[i]? = some v) (fun i=>bs.getD i true):=by
 intro i v s Q E h q
 have h':(bs.map Value.bool)[i]? = some v:=by simpa using h
 rw[c83]at h'
 cases e:bs[i]? with
 | none=>rw[e]at h';cases h'
 | some b =>
  rw[e]at h'
  cases h'
  have q':Q b s:=by simpa[c9D,e]using q
  exact wpAny_truthy_bool q'
theorem b3C(hc:X.calm=true):D7 X (.builtin "all") (fun xs H Q=>∃(l:Addr) (bs:List Bool),xs=[.ref l]∧SqL X.K H l (bs.map V.bl)∧Q (.bl (bs.all id)) H):=by
 intro pins s σ H xs us Q I r h
 obtain⟨l,bs,rfl,hS,q⟩:=h
 obtain⟨u,rfl,ru⟩:=a0T r
 cases ru
 obtain⟨its,rv,p,_⟩:=I.list hS
 have hb:=a3X rv
 subst hb
 have hl:s.heap.IsList l (bs.map Value.bool).toArray:=p.isList
 have hne:l≠s.heap.objs.size:=by
  obtain⟨o,e,_⟩:=id hl
  exact c9y (c89 e)
 refine call_all_walk (wpAny_pyIter_list hl ?_)
 refine⟨s.heap.objs.size,_,_,_,_,_,fun i=>bs.getD i true,rfl,Walks.list (A:=X.A.in1) (I.ok.hd hc) s.heap.objs.size l hne (bs.map Value.bool).toArray,⟨⟨_,c86 _ rfl,rfl,rfl⟩,hl.at fun o e=>c8X _ e⟩,a8J bs,fun h' tk kk=>?_⟩
 have e:(c9H (bs.map Value.bool).toArray.size).all (fun i=>bs.getD i true)=bs.all id:=by
  rw[show(bs.map Value.bool).toArray.size=bs.length by simp];exact b3a bs
 rw[e]
 exact⟨.bl (bs.all id),H,I.kept fun b o z=>kk b o (by simp;exact c9y (c89 z)) (c8X _ z),rfl,q⟩
noncomputable def c4u:DRC:=fun ds M R=>∃(d:D) (bs:List Bool),ds=[d]∧W5 M d=some (bs.map D.bl)∧R (.bl (bs.all id)) M
theorem c4P(hc:X.calm=true):a2c X (.builtin "all") c4u:=D7.imp (b3C hc) (by
 rintro xs H Q ⟨ds,M,R,hl,am,⟨d,bs,z,hM,r⟩,f⟩
 subst z
 obtain⟨v,rfl,hv⟩:=hl.one
 obtain⟨a,vs,rfl,s,l⟩:=F9 am hv hM
 rw[l.bools]at s
 exact⟨a,bs,rfl,s,f _ M r _ H (KT.refl H) am (.bl _)⟩)
end
theorem c2C:bootBuiltins "all" = some (.builtin "all"):=by decide +kernel
structure GlD(K:c8U)(mg:Str→Option Value)(x:Str)(d:D):Prop where
 ex:∃(v:V) (u:Value),mg x=some u∧u6 v u∧c4Y K v d
theorem o8{X:Cx}{x:Str}{d:D}{pos:Pos}(hg:Gl X x)(g:GlD X.K X.mg x d)(hd:(x == ("__debug__" : Str))=false:=by decide):JE X (.Name x pos) (dC d):=⟨by
 obtain⟨v,u,h1,h2,h3⟩:=g.ex
 exact c2y hg h1 h2 h3 hd⟩
theorem a3q{K:c8U}{mg:Str→Option Value}{h:Heap}{x:Str}{a:Addr}{od:Option Addr}{osl:Array (Option Value)}{i j:Int}{t u:Tok}{cap:Nat}(X:K.In h)(G:h.Ns mainGlobals mg)
  (n:PySem.W.nsIn K mainGlobals x=some (some (.ref a))) (l:K.lookup a=some ⟨.type "tuple",od,.seq #[.int i t,.int j u] cap,osl⟩):GlD K mg x (.tup [.int i,.int j]) :=
 ⟨.ref a,.ref a,PySem.W.mg_of X G n,rfl,fun H=>.tup (xs:=[.int i,.int j]) (.inr ⟨_,_,_,l,rfl,rfl,(show 2≤sizeLine by decide),.cons (show u6 (.int i) (.int i t)from⟨t,rfl⟩) (.cons (show u6 (.int j) (.int j u)from⟨u,rfl⟩) .nil)⟩) (.cons (.int i) (.cons (.int j) .nil))⟩
noncomputable def fS(f:Str→Str→D):D→D→Option D
 | .str i,.str j=>some (f i j)
 | _,_=>none
theorem b2t{f:Str→Str→D}{x y z:D}(h:fS f x y=some z):∃ i j,x = .str i∧y = .str j∧z=f i j:=by
 cases x with
 | str i =>
  cases y with
  | str j=>exact⟨i,j,rfl,rfl,(Option.some.inj h).symm⟩
  | _=>cases h
 | _=>cases h
section
variable {X:Cx}
theorem B2:DOp X (compareOp .Eq) (gF (fS fun i j=>.bl (decide (i=j)))):=OpR.imp c0k (by
 rintro x y H Q ⟨dx,dy,M,R,hx,hy,am,⟨z,e,r⟩,f⟩
 obtain⟨i,j,e1,e2,e3⟩:=b2t e
 subst e1;subst e2;subst e3
 cases hx;cases hy
 refine⟨rfl,?_⟩
 have e:decide (V.str i=V.str j)=decide (i=j):=by simp
 rw[e]
 exact f _ M r _ H (KT.refl H) am (.bl _))
theorem a2R:DOp X (compareOp .NotEq) (gF (fS fun i j=>.bl (!decide (i=j)))):=OpR.imp c0j (by
 rintro x y H Q ⟨dx,dy,M,R,hx,hy,am,⟨z,e,r⟩,f⟩
 obtain⟨i,j,e1,e2,e3⟩:=b2t e
 subst e1;subst e2;subst e3
 cases hx;cases hy
 refine⟨rfl,?_⟩
 have e:decide (V.str i=V.str j)=decide (i=j):=by simp
 rw[e]
 exact f _ M r _ H (KT.refl H) am (.bl _))
end
end DL
namespace DL
open PySem PySem.Spec L2
open PyProof.Rows hiding St
structure a5E(K:c8U)(H1:Hp)(J:It)(ds:List D)(stay:Mem→Prop):Prop where
 go:∀ i H' M',i<ds.length→KT H1 H'→v7 K H' M'→stay M'→J.go i H'
 yld:∀ i H' M' x H'',i<ds.length→KT H1 H'→v7 K H' M'→stay M'→J.yld i H' x H''→∃ d,ds[i]? = some d∧KT H' H''∧v7 K H'' M'∧Has K H'' x d
 stop:∀ i H' M',ds.length≤i→KT H1 H'→v7 K H' M'→stay M'→J.stop i H'
 up:∀ M' p o,stay M'→M' p=none→stay (B9 M' p o)
noncomputable def upI(K:c8U)(ti:DTI):TI:=fun σ H R=>∃ e M R',B8 K H σ e∧v7 K H M∧ti e M R'∧∀ ds stay M1,R' ds stay M1→∀ H1,KT H H1→v7 K H1 M1→∀ J,a5E K H1 J ds stay→R J H1
noncomputable def DPI(X:Cx)(tg iter:Expr)(ti:DTI):Prop:=PI X tg iter (upI X.K ti)
structure JI(X:Cx)(tg iter:Expr)(ti:DTI):Prop where
 out:DPI X tg iter ti
theorem PI.imp{X:Cx}{tg iter:Expr}{wi wi':TI}(h:PI X tg iter wi)(i:∀ σ H R,wi' σ H R→wi σ H R):PI X tg iter wi':=fun pins s σ H R I q=>h pins s σ H R I (i σ H R q)
section
variable {X:Cx} {tg iter:Expr} {ti:DTE} {ta:DTA}
theorem b4H{K:c8U}{H1:Hp}{a:Addr}{xs:List V}{ds:List D}(s:SqT K H1 a xs)(l:HasL K H1 xs ds):a5E K H1 (Itt K a) ds (fun _=>True) where
 go:=fun i H' M' hi k _ _=>⟨xs,_,k.sq s,c9d (by rw[l.length];exact hi)⟩
 yld:=fun i H' M' x H'' hi k am _ zz=>by
  obtain⟨e,y⟩:=zz
  subst e
  obtain⟨d,hd,r⟩:=l.getV (y xs (k.sq s))
  exact⟨d,hd,KT.refl _,am,r.mono k⟩
 stop:=fun i H' M' hi k _ _=>⟨xs,k.sq s,by rw[l.length];exact hi⟩
 up:=fun _ _ _ _ _=>trivial
theorem b4K{K:c8U}{H1:Hp}{p:Addr}{ds:List D}:a5E K H1 (Itl K p) ds (fun M'=>M' p=some (.lst ds)) where
 go:=fun i H' M' hi k am st=>by
  obtain⟨ys,hy,ly⟩:=am.lst st
  exact⟨ys,_,SqL.of hy,c9d (by rw[ly.length];exact hi)⟩
 yld:=fun i H' M' x H'' hi k am st zz=>by
  obtain⟨e,y⟩:=zz
  subst e
  obtain⟨ys,hy,ly⟩:=am.lst st
  obtain⟨d,hd,r⟩:=ly.getV (y ys (SqL.of hy))
  exact⟨d,hd,KT.refl _,am,r⟩
 stop:=fun i H' M' hi k am st=>by
  obtain⟨ys,hy,ly⟩:=am.lst st
  exact⟨ys,SqL.of hy,by rw[ly.length];exact hi⟩
 up:=fun M' q o st hq=>by rw[A0 (by intro e;subst e;rw[hq]at st;cases st)];exact st
theorem b4I{K:c8U}{H1:Hp}{lo:Int}{n:Nat}:a5E K H1 (Itr lo n) (W1 lo n) (fun _=>True) where
 go:=fun i H' M' hi k am st=>by rw[p7]at hi;exact hi
 yld:=fun i H' M' x H'' hi k am st zz=>by
  obtain⟨e,y⟩:=zz
  subst e;subst y
  rw[p7]at hi
  exact⟨_,a4p hi,KT.refl _,am,.int _⟩
 stop:=fun i H' M' hi k am st=>by rw[p7]at hi;exact hi
 up:=fun _ _ _ _ _=>trivial
theorem P2{a:Expr}{p p2:Pos}(hr:Gl X "range")(hm:X.mg "range" = none)(ha:JA X [a] ta)(hs0:starEach [a] X.env=[(false,eval a X.env)]:=by rfl):JI X tg (.Call (.Name "range" p) [a] [] p2) (c0t ta):=⟨have ha:=ha.out;PI.imp (b3c hr hm ha hs0) (by rintro σ H R ⟨e,M,R',ok,am,t,f⟩;exact⟨e,M,_,ok,am,t,fun ds M1 ⟨j,z,b1,b2,r⟩ vs H1 k1 a1 r1=>by
  subst z
  obtain⟨v,rfl,hv⟩:=r1.one
  cases hv
  exact⟨j,rfl,b1,b2,f _ _ M1 r H1 k1 a1 _ b4I⟩⟩)⟩
noncomputable def C1(M:Mem)(x:D)(ds:List D):Prop:=x = .tup ds∨(∃ p,x = .ref p∧M p=some (.lst ds))∨x = .vl ds
noncomputable def a4J:D→Bool
 | .tup _=>false
 | _=>true
theorem B4{K:c8U}{H:Hp}{M:Mem}{v:V}{x:D}{ds:List D}(h:C1 M x ds)(am:v7 K H M)(r:Has K H v x):∃ a xs,v = .ref a∧SqK K (a4J x) H a xs∧HasL K H xs ds:=by
 rcases h with rfl|⟨p,rfl,m⟩|rfl
 rotate_left 2
 ·obtain⟨a,xs,e,sq,l⟩:=r.il
  exact⟨a,xs,e,sq,l⟩
 ·cases r with
  | tup s l=>exact⟨_,_,rfl,s,l⟩
 ·cases r
  obtain⟨xs,hx,l⟩:=am.lst m
  exact⟨p,xs,rfl,SqL.of hx,l⟩
theorem a0n{M:Mem}{x:D}{ds:List D}{q:Addr}{o:MO}(h:C1 M x ds)(hq:M q=none):C1 (B9 M q o) x ds:=by
 rcases h with h|⟨p,e,h⟩|h
 ·exact .inl h
 ·exact .inr (.inl ⟨p,e,by rw[A0 (by intro e;subst e;rw[hq]at h;cases h)];exact h⟩)
 ·exact .inr (.inr h)
noncomputable def Y1(ds es:List D):List D:=List.zipWith (fun a b=>.tup [a,b]) ds es
theorem X9(ds es:List D):(Y1 ds es).length=min ds.length es.length:=by simp[Y1]
theorem b3L{ds es:List D}{i:Nat}{a b:D}(h1:ds[i]? = some a)(h2:es[i]? = some b):(Y1 ds es)[i]? = some (.tup [a,b]):=by
 unfold Y1
 rw[c95,h1,h2]
theorem b4G{K:c8U}{H1:Hp}{x y:D}{l1 l2:Addr}{ds es:List D}(h1:Has K H1 (.ref l1) x)(h2:Has K H1 (.ref l2) y) :
  a5E K H1 (Itz K (a4J x) (a4J y) l1 l2) (Y1 ds es) (fun M'=>C1 M' x ds∧C1 M' y es) where
 go:=fun i H' M' hi k am zz=>by
  obtain⟨s1,s2⟩:=zz
  rw[X9]at hi
  obtain⟨a,xs,e1,q1,m1⟩:=B4 s1 am (h1.mono k)
  obtain⟨b,ys,e2,q2,m2⟩:=B4 s2 am (h2.mono k)
  cases e1;cases e2
  exact⟨xs,ys,_,_,q1,q2,c9d (by rw[m1.length];omega),c9d (by rw[m2.length];omega)⟩
 yld:=fun i H' M' v H'' hi k am ⟨s1,s2⟩ ⟨T,a,b,hT,ev,eH,u1,u2⟩=>by
  subst ev;subst eH
  obtain⟨a',xs,e1,q1,m1⟩:=B4 s1 am (h1.mono k)
  obtain⟨b',ys,e2,q2,m2⟩:=B4 s2 am (h2.mono k)
  cases e1;cases e2
  obtain⟨d1,g1,r1⟩:=m1.getV (u1 xs q1)
  obtain⟨d2,g2,r2⟩:=m2.getV (u2 ys q2)
  have kt:KT H' (upd H' T (.tup [a,b])):=KT.alloc hT
  exact⟨_,b3L g1 g2,kt,am.alloc hT,.tup (SqT.of j6) (.cons (r1.mono kt) (.cons (r2.mono kt) .nil))⟩
 stop:=fun i H' M' hi k am zz=>by
  obtain⟨s1,s2⟩:=zz
  rw[X9]at hi
  obtain⟨a,xs,e1,q1,m1⟩:=B4 s1 am (h1.mono k)
  obtain⟨b,ys,e2,q2,m2⟩:=B4 s2 am (h2.mono k)
  cases e1;cases e2
  refine⟨xs,ys,q1,q2,?_⟩
  rw[m1.length,m2.length]
  omega
 up:=fun _ _ _ st hq=>⟨a0n st.1 hq,a0n st.2 hq⟩
noncomputable def c0r(ta:DTA):DTI:=fun e M R=>ta e M fun xs M1=>∃ x y ds es,xs=[x,y]∧C1 M1 x ds∧C1 M1 y es∧R (Y1 ds es) (fun M'=>C1 M' x ds∧C1 M' y es) M1
theorem a7K{elts:List Expr}{kx:Nat}{tp:Pos}{a b:Expr}{p pos:Pos}(hg:Gl X "zip")(hm:X.mg "zip" = none)(ha:JA X [a,b] ta)
  (hs:starEach [a,b] X.env=[(false,eval a X.env),(false,eval b X.env)]:=by rfl) (hs2:starEach [b] X.env=[(false,eval b X.env)]:=by rfl):JI X (.Tuple elts kx tp) (.Call (.Name "zip" p) [a,b] [] pos) (c0r ta):=⟨have ha:=ha.out;PI.imp (c1y hg hm ha hs hs2) (by rintro σ H R ⟨e,M,R',ok,am,t,f⟩;exact⟨e,M,_,ok,am,t,fun xs M1 ⟨x,y,ds,es,z,s1,s2,r⟩ vs H1 k1 a1 r1=>by
  subst z
  obtain⟨v,v',rfl,hv,hv'⟩:=r1.two
  obtain⟨a,zs,rfl,q1,m1⟩:=B4 s1 a1 hv
  obtain⟨b,ws,rfl,q2,m2⟩:=B4 s2 a1 hv'
  exact⟨_,_,a,b,rfl,⟨zs,q1⟩,⟨ws,q2⟩,f _ _ M1 r H1 k1 a1 _ (b4G hv hv')⟩⟩)⟩
end
section
variable {X:Cx} {tg iter:Expr} {body:List Stmt} {ti:DTI} {g:DTG} {tb:DTS} {pos:Pos}
theorem u8(hp:PassesOwn (model X.prog X.w) X.A X.env X.xe)(hc:X.calm=true)(hi:JI X tg iter ti)(hg:JG X tg g)(hb:JSs X body tb)
  (hs:∀ x,foldedSetIterable iter X.env x=pure x:=by intro _;rfl):JS X (.For tg iter body [] pos) (c4K ti g tb):=⟨have hi:=hi.out;have hg:=hg.out;have hb:=hb.out;(c1w hp hc hi hg hb hs).imp (by rintro E σ H ⟨e,M,F,ok,am,t,f⟩;exact⟨e,M,_,ok,am,t,fun ds stay M1 ⟨W,w0,hst,step,done⟩ H1 k1 a1 J wk=>by
  refine⟨fun i m σ' H'=>m=ds.length - i∧i≤ds.length∧∃ e' M',KT H1 H'∧B8 X.K H' σ' e'∧v7 X.K H' M'∧W i e' M',⟨ds.length,by simp,c9K _,e,M1,KT.refl H1,ok.mono k1,a1,w0⟩,?_⟩
  rintro i m σ2 H2 ⟨rfl,hi,e2,M2,k2,ok2,a2,w2⟩
  have st:=hst i e2 M2 hi w2
  by_cases hlt:i<ds.length
  ·refine .inr ⟨wk.go i H2 M2 hlt k2 a2 st,fun σ' H'=>∃ e' M',KT H1 H'∧B8 X.K H' σ' e'∧v7 X.K H' M'∧W (i+1) e' M',fun σ' H' h=>⟨ds.length - (i+1),by omega,rfl,hlt,h⟩,fun y H' yl=>?_⟩
   obtain⟨d,hd,k3,a3,r⟩:=wk.yld i H2 M2 y H' hlt k2 a2 st yl
   exact b6t f k1 (k2.trans k3) (ok2.mono k3) a3 r (step i d e2 M2 hd w2)
  ·have e':i=ds.length:=by omega
   subst e'
   exact .inl ⟨wk.stop _ H2 M2 (c9b _) k2 a2 st,f.nx e2 M2 (done e2 M2 w2) σ2 H2 (k1.trans k2) a2 ok2⟩⟩)⟩
end
noncomputable def a5z(n:Nat)(caps:List Nat)(e:Ev):Ev:=d0m n none++caps.map fun i=>(e[i]?).getD none
theorem b9k{K:c8U}{H:Hp}{σ:St}{e:Ev}(n:Nat)(caps:List Nat)(ok:B8 K H σ e):B8 K H (a7Y n caps σ) (a5z n caps e):=by
 refine⟨by simp[a7Y,a5z],fun i d h=>?_⟩
 unfold a5z at h
 unfold a7Y
 rw[d0Q]at h ⊢
 rw[d0I]at h ⊢
 by_cases hi:i<n
 ·rw[if_pos hi]at h
  rw[d0b]at h
  split at h<;>cases h
 ·rw[if_neg hi]at h ⊢
  rw[c83]at h ⊢
  cases hj:caps[i - n]? with
  | none=>rw[hj]at h;cases h
  | some j =>
   rw[hj]at h
   have h':(e[j]?).getD none=some d:=by simpa using h
   have he:e[j]? = some (some d):=by
    cases q:e[j]? with
    | none=>rw[q]at h';cases h'
    | some z=>rw[q]at h';rw[show z=some d by simpa using h']
   obtain⟨v,h1,h2⟩:=ok.has j d he
   exact⟨v,by simp[h1],h2⟩
theorem a18{p:Str→Prop}{a:Str}(h:p a):∀ x∈[a],p x:=fun x hx=>by
 simp only[c9l,c9u,or_false]at hx
 subst hx;exact h
theorem b3G{p:Str→Prop}{a b:Str}(h:p a)(h2:p b):∀ x∈[a,b],p x:=fun x hx=>by
 simp only[c9l,c9u,or_false]at hx
 rcases hx with rfl|rfl
 ·exact h
 ·exact h2
end DL
namespace DL
open PySem PySem.Spec L2
open PyProof.Rows hiding St
section
variable {X:Cx}
noncomputable def c5G(K:c8U)(tl:TE):TI:=fun σ H R=>tl σ H fun x H1=>∃(a:Addr) (k:Bool),x = .ref a∧(∃ xs,SqK K k H1 a xs)∧R (if k=true then Itl K a else Itt K a) H1
theorem c1z{tg l:Expr}{tl:TE}(hl:PE X l tl):PI X tg l (c5G X.K tl):=by
 intro pins s σ H R I h
 refine thn (hl pins s σ H _ I h) fun v s1 zz=>?_
 obtain⟨x,H1,I1,r1,q1⟩:=zz
 obtain⟨a,k,e,⟨xs,hq⟩,q⟩:=q1
 subst e
 cases r1
 obtain⟨its,rv,p⟩:=I1.sqk hq
 have nf:∀ b∈[s1.heap.objs.size],a1r X pins H1 b:=fun b hb=>by
  have e:b=s1.heap.objs.size:=by simpa using hb
  subst e
  exact I1.fpOk (c9b _) (I1.hok.fresh (c9b _))
 cases k with
 | true=>exact wpAny_pyIter_list p ⟨s1.heap.objs.size,[s1.heap.objs.size],_,_,H1,rfl,I1.kept (t':=s1.toks) fun b o e=>c8X _ e,b2N a _,⟨_,c86 _ rfl,rfl,rfl⟩,nf,q⟩
 | false=>exact wpAny_pyIter_tuple p ⟨s1.heap.objs.size,[s1.heap.objs.size],_,_,H1,rfl,I1.kept (t':=s1.toks) fun b o e=>c8X _ e,a9U a _,⟨_,c86 _ rfl,rfl,rfl⟩,nf,q⟩
noncomputable def c0s(ti:DTE):DTI:=fun e M R=>ti e M fun x M1=>∃ ds,C1 M1 x ds∧R ds (fun M'=>C1 M' x ds) M1
theorem A1{tg iter:Expr}{ti:DTE}(hi:JE X iter ti):JI X tg iter (c0s ti):=⟨have hi:=hi.out;PI.imp (c1z hi) (by rintro σ H R ⟨e,M,R',ok,am,t,f⟩;exact⟨e,M,_,ok,am,t,fun x M1 ⟨ds,sq,r⟩ v H1 k1 a1 r1=>by
 have sq':=sq
 rcases sq with rfl|⟨p,rfl,hm⟩|rfl
 rotate_left 2
 ·obtain⟨a,xs,rfl,sq,l⟩:=r1.il
  have wk:a5E X.K H1 (Itl X.K a) ds (fun M'=>C1 M' (.vl ds) ds):=⟨fun i H' M' hi k am _=>by
    obtain⟨a',ys,e,sq',l'⟩:=(r1.mono k).il
    cases e
    exact⟨ys,_,sq',c9d (by rw[l'.length];exact hi)⟩,
   fun i H' M' x H'' hi k am _ zz=>by
    obtain⟨e,y⟩:=zz
    subst e
    obtain⟨a',ys,e,sq',l'⟩:=(r1.mono k).il
    cases e
    obtain⟨d,hd,r⟩:=l'.getV (y ys sq')
    exact⟨d,hd,KT.refl _,am,r⟩,
   fun i H' M' hi k am _=>by
    obtain⟨a',ys,e,sq',l'⟩:=(r1.mono k).il
    cases e
    exact⟨ys,sq',by rw[l'.length];exact hi⟩,fun _ _ _ st hq=>a0n st hq⟩
  exact⟨a,true,rfl,⟨xs,sq⟩,f ds _ M1 r H1 k1 a1 _ wk⟩
 ·cases r1 with
  | tup s l =>
   refine⟨_,false,rfl,⟨_,s⟩,f ds _ M1 r H1 k1 a1 _ ?_⟩
   have w:=b4H (K:=X.K) s l
   exact⟨fun i H' M' a b c _=>w.go i H' M' a b c trivial,fun i H' M' y H2 a b c _ g=>w.yld i H' M' y H2 a b c trivial g,fun i H' M' a b c _=>w.stop i H' M' a b c trivial,fun _ _ _ st hq=>a0n st hq⟩
 ·cases r1
  obtain⟨xs,hx,l⟩:=a1.lst hm
  refine⟨p,true,rfl,⟨xs,SqL.of hx⟩,f ds _ M1 r H1 k1 a1 _ ?_⟩
  have w:=b4K (K:=X.K) (H1:=H1) (p:=p) (ds:=ds)
  have cv:∀{M':Mem},C1 M' (.ref p) ds→M' p=some (.lst ds):=fun z=>by
   rcases z with z|⟨p',z,h⟩|z
   ·cases z
   ·cases z;exact h
   ·cases z
  exact⟨fun i H' M' a b c z=>w.go i H' M' a b c (cv z),fun i H' M' y H2 a b c z g=>w.yld i H' M' y H2 a b c (cv z) g,fun i H' M' a b c z=>w.stop i H' M' a b c (cv z),fun _ _ _ st hq=>a0n st hq⟩⟩)⟩
end
theorem b6n{K:c8U}{mg:Str→Option Value}{h:Heap}{x:Str}{a b c:Addr}{od od1 od2:Option Addr}{osl osl1 osl2:Array (Option Value)}{i j k l:Int}{t1 t2 t3 t4:Tok}{cap cap1 cap2:Nat}(X:K.In h)(G:h.Ns mainGlobals mg)
  (n:PySem.W.nsIn K mainGlobals x=some (some (.ref a))) (l0:K.lookup a=some ⟨.type "tuple",od,.seq #[.ref b,.ref c] cap,osl⟩)
  (l1:K.lookup b=some ⟨.type "tuple",od1,.seq #[.int i t1,.int j t2] cap1,osl1⟩) (l2:K.lookup c=some ⟨.type "tuple",od2,.seq #[.int k t3,.int l t4] cap2,osl2⟩):GlD K mg x (.tup [.tup [.int i,.int j],.tup [.int k,.int l]]):=by
 have two:(2:Nat)≤sizeLine:=by decide
 have p1:∀ H:Hp,Has K H (.ref b) (.tup [.int i,.int j]):=fun H=>.tup (xs:=[.int i,.int j]) (.inr ⟨_,_,_,l1,rfl,rfl,two,.cons (show u6 (.int i) (.int i t1)from⟨t1,rfl⟩) (.cons (show u6 (.int j) (.int j t2)from⟨t2,rfl⟩) .nil)⟩) (.cons (.int i) (.cons (.int j) .nil))
 have p2:∀ H:Hp,Has K H (.ref c) (.tup [.int k,.int l]):=fun H=>.tup (xs:=[.int k,.int l]) (.inr ⟨_,_,_,l2,rfl,rfl,two,.cons (show u6 (.int k) (.int k t3)from⟨t3,rfl⟩) (.cons (show u6 (.int l) (.int l t4)from⟨t4,rfl⟩) .nil)⟩) (.cons (.int k) (.cons (.int l) .nil))
 exact⟨.ref a,.ref a,PySem.W.mg_of X G n,rfl,fun H=>.tup (xs:=[.ref b,.ref c]) (.inr ⟨_,_,_,l0,rfl,rfl,two,.cons (show u6 (.ref b) (.ref b)from rfl) (.cons (show u6 (.ref c) (.ref c)from rfl) .nil)⟩) (.cons (p1 H) (.cons (p2 H) .nil))⟩
theorem c2n{K:c8U}{mg:Str→Option Value}{h:Heap}{x:Str}{a b c e g:Addr}{od od1 od2 od3 od4:Option Addr}{osl osl1 osl2 osl3 osl4:Array (Option Value)}{i j k l m n p q:Int}{t1 t2 t3 t4 t5 t6 t7 t8:Tok}{cap cap1 cap2 cap3 cap4:Nat}(X:K.In h)(G:h.Ns mainGlobals mg)
  (nn:PySem.W.nsIn K mainGlobals x=some (some (.ref a))) (l0:K.lookup a=some ⟨.type "tuple",od,.seq #[.ref b,.ref c,.ref e,.ref g] cap,osl⟩)
  (l1:K.lookup b=some ⟨.type "tuple",od1,.seq #[.int i t1,.int j t2] cap1,osl1⟩) (l2:K.lookup c=some ⟨.type "tuple",od2,.seq #[.int k t3,.int l t4] cap2,osl2⟩)
  (l3:K.lookup e=some ⟨.type "tuple",od3,.seq #[.int m t5,.int n t6] cap3,osl3⟩) (l4:K.lookup g=some ⟨.type "tuple",od4,.seq #[.int p t7,.int q t8] cap4,osl4⟩):GlD K mg x (.tup [.tup [.int i,.int j],.tup [.int k,.int l],.tup [.int m,.int n],.tup [.int p,.int q]]):=by
 have two:(2:Nat)≤sizeLine:=by decide
 have four:(4:Nat)≤sizeLine:=by decide
 have one:∀{a:Addr} {i j:Int} {t1 t2:Tok} {od:Option Addr} {osl:Array (Option Value)} {cap:Nat},K.lookup a=some ⟨.type "tuple",od,.seq #[.int i t1,.int j t2] cap,osl⟩→∀ H:Hp,Has K H (.ref a) (.tup [.int i,.int j]):=fun{a i j t1 t2 od osl cap} l1 H=>.tup (xs:=[.int i,.int j]) (.inr ⟨_,_,_,l1,rfl,rfl,two,.cons (show u6 (.int i) (.int i t1)from⟨t1,rfl⟩) (.cons (show u6 (.int j) (.int j t2)from⟨t2,rfl⟩) .nil)⟩) (.cons (.int i) (.cons (.int j) .nil))
 exact⟨.ref a,.ref a,PySem.W.mg_of X G nn,rfl,fun H=>.tup (xs:=[.ref b,.ref c,.ref e,.ref g]) (.inr ⟨_,_,_,l0,rfl,rfl,four,.cons (show u6 (.ref b) (.ref b)from rfl) (.cons (show u6 (.ref c) (.ref c)from rfl) (.cons (show u6 (.ref e) (.ref e)from rfl) (.cons (show u6 (.ref g) (.ref g)from rfl) .nil)))⟩) (.cons (one l1 H) (.cons (one l2 H) (.cons (one l3 H) (.cons (one l4 H) .nil))))⟩
theorem c2o{K:c8U}{mg:Str→Option Value}{h:Heap}{x:Str}{i:Int}{t:Tok}(X:K.In h)(G:h.Ns mainGlobals mg)(n:PySem.W.nsIn K mainGlobals x=some (some (.int i t))):GlD K mg x (.int i) :=
 ⟨.int i,.int i t,PySem.W.mg_of X G n,⟨t,rfl⟩,fun _=>.int i⟩
theorem b5W{M:Mem}{p:Addr}{ds:List D}(h:M p=some (.lst ds)):b5X M (.ref p)=some ds.length:=by
 unfold b5X;simp only[h]
theorem b9s{ds:List D}{r:Int}(h0:0≤r)(h1:r<ds.length):∃ d,atI ds r=some d∧d∈ds:=by
 unfold atI ixN
 rw[if_pos h0,if_pos h1]
 have hl:r.toNat<ds.length:=by omega
 exact⟨ds[r.toNat],by simp[hl],d2h hl⟩
section
variable {X:Cx}
noncomputable def b9f:DRC:=fun ds M R=>∃ x ys,ds=[x]∧C1 M x ys∧∀ p,M p=none→R (.ref p) (B9 M p (.lst ys))
theorem b6U:a2c X (.type "list") b9f:=D7.imp a16 (by
 rintro xs H Q ⟨ds,M,R,hl,am,⟨x,ys,z,e,r⟩,f⟩
 subst z
 obtain⟨v,rfl,hv⟩:=hl.one
 rcases e with rfl|⟨p,rfl,hm⟩|rfl
 rotate_left 2
 ·obtain⟨a,xs,rfl,sq,l⟩:=hv.il
  exact⟨a,xs,rfl,.inl sq,fun p hp=>f _ _ (r p (am.fresh hp)) _ _ (KT.alloc hp) (am.new hp l) (.ref p)⟩
 ·cases hv with
  | tup s l=>exact⟨_,_,rfl,.inr s,fun p hp=>f _ _ (r p (am.fresh hp)) _ _ (KT.alloc hp) (am.new hp l) (.ref p)⟩
 ·cases hv
  obtain⟨zs,hx,l⟩:=am.lst hm
  exact⟨p,zs,rfl,.inl (SqL.of hx),fun q hq=>f _ _ (r q (am.fresh hq)) _ _ (KT.alloc hq) (am.new hq l) (.ref q)⟩)
end
section
variable {X:Cx}
noncomputable def b2r:DRM:=fun x xs M R=>∃ l ds v,x = .ref l∧xs=[v]∧M l=some (.lst ds)∧ds.length<sizeLine∧R .non (B9 M l (.lst (ds++[v])))
theorem C4:DMt X "list.append" b2r:=MtR.imp (r:=b1W) a6u (by
 rintro x xs H Q ⟨dx,ds,M,R,hx,hl,am,⟨l,es,v,e1,e2,hM,hz,r⟩,f⟩
 subst e1;subst e2
 cases hx
 obtain⟨w,rfl,hw⟩:=hl.one
 obtain⟨ys,hy,ly⟩:=am.lst hM
 exact⟨l,ys,w,rfl,rfl,hy,by rw[ly.length];exact hz,f _ _ r _ _ (KT.write hy) (am.write hy (ly.append (.cons hw .nil))) .non⟩)
noncomputable def b2p:DRM:=fun x xs M R=>∃ l b ds es,x = .ref l∧xs=[.ref b]∧M l=some (.lst ds)∧M b=some (.lst es)∧ds.length+es.length≤sizeLine∧R .non (B9 M l (.lst (ds++es)))
theorem b3x:DMt X "list.extend" b2p:=MtR.imp (r:=b1V) b3h (by
 rintro x xs H Q ⟨dx,ds,M,R,hx,hl,am,⟨l,b,es,vs,e1,e2,hM,hB,hz,r⟩,f⟩
 subst e1;subst e2
 cases hx
 obtain⟨w,rfl,hw⟩:=hl.one
 cases hw
 obtain⟨ys,hy,ly⟩:=am.lst hM
 obtain⟨zs,hz',lz⟩:=am.lst hB
 exact⟨l,b,ys,zs,rfl,rfl,hy,hz',by rw[ly.length,lz.length];exact hz,f _ _ r _ _ (KT.write hy) (am.write hy (ly.append lz)) .non⟩)
end
end DL
namespace DL
open PySem PySem.Spec L2
open PyProof.Rows hiding St
section
variable {X:Cx}
end
end DL
namespace DL
open PySem PySem.Spec L2
open PyProof.Rows hiding St
noncomputable abbrev DTO:=Ev→Mem→(Option Int→Mem→Prop)→Prop
noncomputable def upO(K:c8U)(t:DTO):TO:=fun σ H Q=>∃ e M R,B8 K H σ e∧v7 K H M∧t e M R∧∀ o M',R o M'→∀ H',KT H H'→v7 K H' M'→Q o H'
noncomputable def DPO(X:Cx)(e:Option Expr)(t:DTO):Prop:=PO X e (upO X.K t)
structure JO(X:Cx)(e:Option Expr)(t:DTO):Prop where
 out:DPO X e t
noncomputable def b2z:DTO:=fun _ M R=>R none M
noncomputable def c0y(t:DTE):DTO:=fun e M R=>t e M fun x M1=>∃ i,x = .int i∧R (some i) M1
theorem PO.imp{X:Cx}{e:Option Expr}{t t':TO}(h:PO X e t)(i:∀ σ H Q,t' σ H Q→t σ H Q):PO X e t':=fun pins s σ H Q I q=>h pins s σ H Q I (i σ H Q q)
section
variable {X:Cx} {e:Expr} {te:DTE} {lo hi:Option Expr} {tl th:DTO} {pos p2:Pos}
theorem a6A:JO X none b2z:=⟨PO.imp b8z (by rintro σ H Q ⟨e,M,R,ok,am,t,f⟩;exact f none M t H (KT.refl H) am)⟩
theorem a6z(h:JE X e te):JO X (some e) (c0y te):=⟨have h:=h.out;PO.imp (b8y h) (by rintro σ H Q ⟨e,M,R,ok,am,t,f⟩;exact⟨e,M,_,ok,am,t,fun x M1 ⟨i,z,r⟩ v H1 k1 a1 r1=>by
 subst z;cases r1
 exact⟨i,rfl,f (some i) M1 r H1 k1 a1⟩⟩)⟩
noncomputable def a1o(ds:List D)(lo hi:Option Int):List D:=(ds.drop (HT.sIx ds.length 0 lo)).take (HT.sIx ds.length ds.length hi - HT.sIx ds.length 0 lo)
theorem HasL.cut{K:c8U}{H:Hp}{xs:List V}{ds:List D}(h:HasL K H xs ds)(lo hi:Option Int):HasL K H (a9B xs lo hi) (a1o ds lo hi):=by
 unfold a9B a1o
 rw[h.length]
 exact(h.drop _).take _
end
end DL
namespace DL
open PySem PySem.Spec L2
open PyProof.Rows hiding St
noncomputable def S1(ds:List D):List D:=ds.mapIdx fun i d=>.tup [.int i,d]
theorem a15(ds:List D):(S1 ds).length=ds.length:=by simp[S1]
theorem b3u{ds:List D}{i:Nat}{d:D}(h:ds[i]? = some d):(S1 ds)[i]? = some (.tup [.int i,d]):=by
 unfold S1
 rw[List.getElem?_mapIdx,h];rfl
theorem b2J{K:c8U}{H1:Hp}{x:D}{l:Addr}{ds:List D}(h1:Has K H1 (.ref l) x):a5E K H1 (Ite K (a4J x) l) (S1 ds) (fun M'=>C1 M' x ds) where
 go:=fun i H' M' hi k am s1=>by
  rw[a15]at hi
  obtain⟨a,xs,e1,q1,m1⟩:=B4 s1 am (h1.mono k)
  cases e1
  exact⟨xs,_,q1,c9d (by rw[m1.length];omega)⟩
 yld:=fun i H' M' v H'' hi k am s1 zz=>by
  obtain⟨T,a,hT,ev,eH,u1⟩:=zz
  subst ev;subst eH
  obtain⟨a',xs,e1,q1,m1⟩:=B4 s1 am (h1.mono k)
  cases e1
  obtain⟨d1,g1,r1⟩:=m1.getV (u1 xs q1)
  have kt:KT H' (upd H' T (.tup [.int i,a])):=KT.alloc hT
  exact⟨_,b3u g1,kt,am.alloc hT,.tup (SqT.of j6) (.cons (.int _) (.cons (r1.mono kt) .nil))⟩
 stop:=fun i H' M' hi k am s1=>by
  rw[a15]at hi
  obtain⟨a,xs,e1,q1,m1⟩:=B4 s1 am (h1.mono k)
  cases e1
  exact⟨xs,q1,by rw[m1.length];exact hi⟩
 up:=fun _ _ _ st hq=>a0n st hq
section
variable {X:Cx} {ta:DTA}
noncomputable def b6C(ta:DTA):DTI:=fun e M R=>ta e M fun xs M1=>∃ x ds,xs=[x]∧C1 M1 x ds∧R (S1 ds) (fun M'=>C1 M' x ds) M1
theorem R7{elts:List Expr}{kx:Nat}{tp:Pos}{a:Expr}{p pos:Pos}(hg:Gl X "enumerate")(hm:X.mg "enumerate" = none)(ha:JA X [a] ta)(hs:starEach [a] X.env=[(false,eval a X.env)]:=by rfl):JI X (.Tuple elts kx tp) (.Call (.Name "enumerate" p) [a] [] pos) (b6C ta):=⟨have ha:=ha.out;PI.imp (b8A hg hm ha hs) (by rintro σ H R ⟨e,M,R',ok,am,t,f⟩;exact⟨e,M,_,ok,am,t,fun xs M1 ⟨x,ds,z,s1,r⟩ vs H1 k1 a1 r1=>by
  subst z
  obtain⟨v,rfl,hv⟩:=r1.one
  obtain⟨a,zs,rfl,q1,m1⟩:=B4 s1 a1 hv
  exact⟨_,a,rfl,⟨zs,q1⟩,f _ _ M1 r H1 k1 a1 _ (b2J hv)⟩⟩)⟩
end
end DL
namespace DL
open PySem PySem.Spec L2
open PyProof.Rows hiding St
noncomputable def a0Q(M:Mem)(a:Addr):Mem:=fun b=>if b=a then none else M b
theorem a3r{M:Mem}{a b:Addr}(h:b≠a):a0Q M a b=M b:=by unfold a0Q;rw[if_neg h]
theorem J1{M:Mem}{a:Addr}{o:MO}(h:M a=none):a0Q (B9 M a o) a=M:=by
 funext b;unfold a0Q B9;by_cases e:b=a
 ·rw[if_pos e,e,h]
 ·rw[if_neg e,if_neg e]
section
variable {K:c8U} {H:Hp} {M:Mem} {p:Addr}
theorem v7.at{o:HO}(h:v7 K H M)(k:KT0 H (upd H p o))(hp:M p=none):v7 K (upd H p o) M:=fun a u m=>by
 cases u with
 | lst ds =>
  obtain⟨xs,z,l⟩:=h a _ m
  have hn:a≠p:=by intro e;subst e;rw[hp]at m;cases m
  exact⟨xs,by rw[j8 hn];exact z,l.mono0 k⟩
theorem v7.del(h:v7 K H M):v7 K H (a0Q M p):=fun a u m=>by
 by_cases e:a=p
 ·subst e;unfold a0Q at m;rw[if_pos rfl]at m;cases m
 ·rw[a3r e]at m;exact h a u m
theorem b3y:a0Q M p p=none:=by unfold a0Q;rw[if_pos rfl]
theorem v7.none_ext{φ:Heap→Prop}(h:v7 K H M)(e:H p=some (.ext φ)):M p=none:=by
 cases q:M p with
 | none=>rfl
 | some o =>
  cases o with
  | lst ds=>obtain⟨xs,z,_⟩:=h p _ q;rw[e]at z;cases z
end
section
variable {X:Cx} {x:Expr} {t:DTE} {es:List Expr} {tr:DTA} {pos:Pos}
noncomputable def c4J(t:DTE):DTE:=fun e M R=>t e M fun x M1=>∃ p ds,x = .ref p∧M1 p=some (.lst ds)∧R (.vl ds) (a0Q M1 p)
theorem G8(h:JE X x t):JE X x (c4J t):=⟨have h:=h.out;(a1g h).imp (by rintro σ H Q ⟨e,M,R,ok,am,t,f⟩;exact⟨e,M,_,ok,am,t,fun d M1 ⟨p,ds,z,hm,r⟩ v H1 k1 a1 r1=>by
 subst z
 cases r1
 obtain⟨xs,hx,lx⟩:=a1.lst hm
 exact⟨p,xs,rfl,hx,fun o=>f _ _ r _ _ (k1.trans (KT.any hx)) (a1.del.at (KT.any hx).toKT0 b3y) (.vl (.inl ⟨o,j6⟩) (lx.mono (KT.any hx)))⟩⟩)⟩
noncomputable def c4L(t:DTE):DTE:=fun e M R=>t e M fun x M1=>∃ M2:Mem,(∀ b o,M2 b=some o→M1 b=some o)∧R x M2
theorem L5(h:JE X x t):JE X x (c4L t):=⟨have h:=h.out;PE.imp h (by rintro σ H Q ⟨e,M,R,ok,am,t,f⟩;exact⟨e,M,_,ok,am,t,fun d M1 ⟨M2,hs,r⟩ v H1 k1 a1 r1=>f d M2 r v H1 k1 (fun a o q=>a1 a o (hs a o q)) r1⟩)⟩
noncomputable def c0B(t:DTA):DTE:=fun e M R=>t e M fun ds M1=>ds.length≤sizeLine∧R (.vl ds) M1
theorem a0K{K:c8U}{H0 H:Hp}{M:Mem}{R:DK}{Q:VK}{vs:List V}{ds:List D}(f:a4Q K H0 R Q)(k:KT H0 H)(am:v7 K H M)(l:HasL K H vs ds)(r:R (.vl ds) M)(p:Addr)(hp:H p=none) :
  ∃ q xs,V.ref p = .ref q∧upd H p (.lst vs) q=some (.lst xs)∧∀ o,Q (.ref p) (upd (upd H p (.lst vs)) q (.frz o (.lst xs))) :=
 ⟨p,vs,rfl,j6,fun o=>by
  rw[a1w]
  exact f _ M r _ _ (k.trans (KT.alloc hp)) (am.alloc hp) (.vl (.inl ⟨o,j6⟩) (l.mono (KT.alloc hp)))⟩
theorem j9(h:JA X es tr):JE X (.List es pos) (c0B tr):=⟨have h:=h.out;(a1g (b5D h)).imp (by rintro σ H Q ⟨e,M,R,ok,am,t,f⟩;exact⟨e,M,_,ok,am,t,fun ds M1 ⟨hz,h1⟩ vs H1 k1 a1 r1=>⟨by rw[r1.length];exact hz,fun p hp=>a0K f k1 a1 r1 h1 p hp⟩⟩)⟩
noncomputable def b2q(x y:D)(M:Mem)(R:DK):Prop:=∃ xs ys,W5 M x=some xs∧W5 M y=some ys∧xs.length+ys.length≤sizeLine∧R (.vl (xs++ys)) M
noncomputable def c0E(ta tb:DTE):DTE:=fun e M R=>ta e M fun x M1=>tb e M1 fun y M2=>b2q x y M2 R
theorem P3{a b:Expr}{ta tb:DTE}(ha:JE X a ta)(hb:JE X b tb):JE X (.BinOp a .Add b pos) (c0E ta tb):=⟨have ha:=ha.out;have hb:=hb.out;(a1g (c0i b8O ha hb)).imp (by rintro σ H Q ⟨e,M,R,ok,am,t,f⟩;exact⟨e,M,_,ok,am,t,fun x M1 h1 v H1 k1 a1 r1=>⟨e,M1,_,ok.mono k1,a1,h1,fun y M2 ⟨xs,ys,e1,e2,hz,r⟩ u H2 k2 a2 r2=>by
  obtain⟨a,vs,rfl,s1,l1⟩:=F9 a2 (r1.mono k2) e1
  obtain⟨b,ws,rfl,s2,l2⟩:=F9 a2 r2 e2
  exact⟨a,b,vs,ws,rfl,rfl,s1,s2,by rw[l1.length,l2.length];exact hz,fun p hp=>a0K f (k1.trans k2) a2 (l1.append l2) r p hp⟩⟩⟩)⟩
noncomputable def b9e(x:D)(lo hi:Option Int)(M:Mem)(R:DK):Prop:=(∃ ds,W5 M x=some ds∧R (.vl (a1o ds lo hi)) M) ∨ ∃ ds,x = .tup ds∧¬ (HT.sIx ds.length 0 lo=0∧HT.sIx ds.length ds.length hi=ds.length)∧R (.tup (a1o ds lo hi)) M
noncomputable def c4A(te:DTE)(tl th:DTO):DTE:=fun e M R=>te e M fun x M1=>tl e M1 fun l M2=>th e M2 fun u M3=>b9e x l u M3 R
theorem a6B{e:Expr}{te:DTE}{lo hi:Option Expr}{tl th:DTO}{p2:Pos}(he:JE X e te)(hl:JO X lo tl)(hu:JO X hi th):JE X (.Subscript e (.Slice lo hi none p2) pos) (c4A te tl th):=⟨have he:=he.out;have hl:=hl.out;have hu:=hu.out;(b8H (b5C (SlR.or b8f c1a) he hl hu)).imp (by rintro σ H Q ⟨e,M,R,ok,am,t,f⟩;exact⟨e,M,_,ok,am,t,fun x M1 h1 v H1 k1 a1 r1=>⟨e,M1,_,ok.mono k1,a1,h1,fun l M2 h2 H2 k2 a2=>⟨e,M2,_,(ok.mono k1).mono k2,a2,h2,fun u M3 h3 H3 k3 a3=>by
  rcases h3 with⟨ds,hi,r⟩|⟨ds,rfl,hw,r⟩
  ·obtain⟨a,xs,rfl,sq,lx⟩:=F9 a3 ((r1.mono k2).mono k3) hi
   exact .inl ⟨a,xs,rfl,sq,fun p hp=>.inl (a0K f (k1.trans (k2.trans k3)) a3 (lx.cut l u) r p hp)⟩
  ·cases(r1.mono k2).mono k3 with
   | tup sq lx =>
    exact .inr ⟨_,_,rfl,sq,by rw[lx.length];exact hw,fun p hp=>.inr (f _ M3 r _ _ ((k1.trans (k2.trans k3)).trans (KT.alloc hp)) (a3.alloc hp) (.tup (SqT.of j6) ((lx.cut l u).mono (KT.alloc hp))))⟩⟩⟩⟩)⟩
theorem HasL.rev{K:c8U}{H:Hp}:∀{xs:List V} {ds:List D},HasL K H xs ds→HasL K H xs.reverse ds.reverse
 | _,_,.nil=>.nil
 | _,_,.cons h t=>by rw[c9Y,c9Y];exact(HasL.rev t).append (.cons h .nil)
noncomputable def a7S(ds:List D)(M:Mem)(R:DK):Prop:=∃ x ys,ds=[x]∧C1 M x ys∧R (.vl ys) M
noncomputable def b6J(t:DTA):DTE:=fun e M R=>t e M fun ds M1=>a7S ds M1 R
end
section
variable {X:Cx} {e:Expr} {es:List Expr} {t:DTA} {x:Str} {p pos:Pos}
theorem b6f(hg:Gl X x)(hm:X.mg x=none)(hv:bootBuiltins x=some (.type "list"))(ha:JA X (e :: es) t)
  (hn:x ≠ "__name__" := by decide) (hdb:(x == ("__debug__" : Str))=false:=by decide) (he:starEach (e :: es) X.env=(false,eval e X.env) :: starEach es X.env:=by rfl) (hpl:(backTo pos (starEach es X.env)).any (·.1)=false:=by rfl):JE X (.Call (.Name x p) (e :: es) [] pos) (b6J t):=⟨have ha:=ha.out;(a1g (R4 a16 hg hm hv ha hn hdb he hpl)).imp (by rintro σ H Q ⟨e,M,R,ok,am,t,f⟩;exact⟨e,M,_,ok,am,t,fun ds M1 ⟨d,ys,z,sq,r⟩ vs H1 k1 a1 r1=>by
  subst z
  obtain⟨v,rfl,hv⟩:=r1.one
  obtain⟨a,xs,rfl,q1,m1⟩:=B4 sq a1 hv
  refine⟨a,xs,rfl,?_,fun p hp=>a0K f k1 a1 m1 r p hp⟩
  cases hk:a4J d with
  | true=>rw[hk]at q1;exact .inl q1
  | false=>rw[hk]at q1;exact .inr q1⟩)⟩
variable {te:DTE} {pos':Pos}
end
section
variable {X:Cx}
noncomputable def b2o:DRM:=fun x xs M R=>∃ l ds v,∃ k:Nat,x = .ref l∧xs=[.int (k:Int),v]∧M l=some (.lst ds)∧k≤ds.length∧ds.length<sizeLine∧R .non (B9 M l (.lst (ds.take k++v :: ds.drop k)))
theorem HasL.take'{K:c8U}{H:Hp}:∀{vs:List V} {ds:List D} (k:Nat),HasL K H vs ds→HasL K H (vs.take k) (ds.take k)
 | _,_,0,_=>.nil
 | _,_,_+1,.nil=>.nil
 | _,_,k+1,.cons h t=>.cons h (HasL.take' k t)
theorem HasL.drop'{K:c8U}{H:Hp}:∀{vs:List V} {ds:List D} (k:Nat),HasL K H vs ds→HasL K H (vs.drop k) (ds.drop k)
 | _,_,0,h=>h
 | _,_,_+1,.nil=>.nil
 | _,_,k+1,.cons _ t=>HasL.drop' k t
theorem b3w:DMt X "list.insert" b2o:=MtR.imp (r:=b1U) b3g (by
 rintro x xs H Q ⟨dx,ds,M,R,hx,hl,am,⟨l,es,v,k,e1,e2,hM,hk,hz,r⟩,f⟩
 subst e1;subst e2
 cases hx
 cases hl with
 | cons h1 hl =>
  obtain⟨w,rfl,hw⟩:=hl.one
  cases h1
  obtain⟨ys,hy,ly⟩:=am.lst hM
  exact⟨l,ys,w,k,rfl,rfl,hy,by rw[ly.length];exact hk,by rw[ly.length];exact hz,f _ _ r _ _ (KT.write hy) (am.write hy ((ly.take' k).append (.cons hw (ly.drop' k)))) .non⟩)
noncomputable def a0Y(hi:Int)(n:Nat):List D:=(c9H n).map fun(i:Nat)=>D.int (hi - (i:Int))
theorem W8(hi:Int)(n:Nat):(a0Y hi n).length=n:=by simp[a0Y]
theorem b3v{hi:Int}{n i:Nat}(h:i<n):(a0Y hi n)[i]? = some (D.int (hi - (i:Int))):=by simp[a0Y,h]
theorem b2K{K:c8U}{H1:Hp}{hi:Int}{n:Nat}:a5E K H1 (Itd hi n) (a0Y hi n) (fun _=>True) where
 go:=fun i H' M' h k am st=>by rw[W8]at h;exact h
 yld:=fun i H' M' x H'' h k am st z=>by
  obtain⟨e,y⟩:=z
  subst e;subst y
  rw[W8]at h
  exact⟨_,b3v h,KT.refl _,am,.int _⟩
 stop:=fun i H' M' h k am st=>by rw[W8]at h;exact h
 up:=fun _ _ _ _ _=>trivial
noncomputable def b6B(ta:DTA):DTI:=fun e M R=>ta e M fun ds M1=>∃ j:Int,ds=[.int j]∧0≤j∧j<2 ^ 62∧R (a0Y (j - 1) j.toNat) (fun _=>True) M1
theorem b6c{tg a:Expr}{ta:DTA}{p p2 pos2 pos:Pos}(g1:Gl X "reversed")(m1:X.mg "reversed" = none)(v1:bootBuiltins "reversed" = some (.type "reversed"))(g2:Gl X "range")(m2:X.mg "range" = none)(v2:bootBuiltins "range" = some (.type "range"))(ha:JA X [a] ta)
  (h1:starEach [a] X.env=(false,eval a X.env) :: starEach [] X.env:=by rfl) (h2:starEach [.Call (.Name "range" p2) [a] [] pos2] X.env=(false,eval (.Call (.Name "range" p2) [a] [] pos2) X.env) :: starEach [] X.env:=by rfl):JI X tg (.Call (.Name "reversed" p) [.Call (.Name "range" p2) [a] [] pos2] [] pos) (b6B ta):=⟨have ha:=ha.out;PI.imp (c1A g1 m1 v1 (a3n (R4 b6M g2 m2 v2 ha (by decide) (by decide) h1) a7v h2) h2) (by
  rintro σ H R ⟨e,M,R',ok,am,t,f⟩
  exact⟨e,M,_,ok,am,t,fun ds M1 z vs H1 k1 a1 r1=>by
   obtain⟨j,z,b1,b2,r⟩:=z
   subst z
   obtain⟨v,rfl,hv⟩:=r1.one
   cases hv
   exact⟨j,rfl,fun q hq hge=>⟨j,q,rfl,j6,b1,b2,f _ _ M1 r _ (k1.trans (KT.alloc hq)) (a1.alloc hq) _ b2K⟩⟩⟩)⟩
end
noncomputable abbrev S3:=Ev→Mem→(Bool→Mem→Prop)→Prop
noncomputable abbrev c5b(X:Cx)(ifs:List Expr)(t:S3):Prop:=a2A X ifs (upT X.K t)
structure b3K(X:Cx)(ifs:List Expr)(t:S3):Prop where
 out:c5b X ifs t
noncomputable def b9o:S3:=fun _ M R=>R true M
theorem a2A.imp{X:Cx}{ifs:List Expr}{t t':TT}(h:a2A X ifs t)(i:∀ σ H Q,t' σ H Q→t σ H Q):a2A X ifs t':=fun pins s σ H Q I q=>h pins s σ H Q I (i σ H Q q)
theorem A2{X:Cx}:b3K X [] b9o:=⟨a2A.imp b5y (by rintro σ H Q ⟨e,M,R,ok,am,t,f⟩;exact f true M t H (KT.refl H) am)⟩
theorem a0H{X:Cx}{c:Expr}{t:DTT}(h:JT X c t):b3K X [c] t:=⟨have h:=h.out;b5x h⟩
structure a4R(e0:Ev)(g:DTG)(tc:S3)(te:DTE)(ds:List D)(stay:Mem→Prop)(M1:Mem)(E:List D→Mem→Prop)(W:Nat→List D→Mem→Prop):Prop where
 start:W 0 [] M1
 stays:∀ i ys M,i≤ds.length→W i ys M→stay M
 turn:∀(i:Nat) (d:D) ys M,ds[i]? = some d→W i ys M→g d e0 M fun e2 M2=>tc e2 M2 fun b M3=>if b=true then te e2 M3 fun v M4=>ys.length<sizeLine∧W (i+1) (ys++[v]) M4 else W (i+1) ys M3
 done:∀ ys M,W ds.length ys M→E ys M
noncomputable def c0P(e0:Ev)(g:DTG)(tc:S3)(te:DTE)(ds:List D)(stay:Mem→Prop)(M1:Mem)(R:DK):Prop:=∃ W,a4R e0 g tc te ds stay M1 (fun ys M=>R (.vl ys) M) W
noncomputable def c0Q(e0:Ev)(g:DTG)(tc:S3)(te:DTE)(ds:List D)(stay:Mem→Prop)(M1:Mem)(R:DK):Prop:=∃ W,a4R e0 g tc te ds stay M1 (fun ys M=>∀ p,M p=none→R (.ref p) (B9 M p (.lst ys))) W
noncomputable def b0S(n:Nat)(caps:List Nat)(ti:DTI)(g:DTG)(tc:S3)(te:DTE):DTE:=fun e M R=>ti e M fun ds stay M1=>c0P (a5z n caps e) g tc te ds stay M1 R
noncomputable def b0T(n:Nat)(caps:List Nat)(ti:DTI)(g:DTG)(tc:S3)(te:DTE):DTE:=fun e M R=>ti e M fun ds stay M1=>c0Q (a5z n caps e) g tc te ds stay M1 R
section
variable {X:Cx} {elt tg iter:Expr} {scope:Scope} {tgs cps:List Str} {caps:List Nat} {ti:DTI} {g:DTG} {tc:S3} {te:DTE} {pos:Pos} {ifs:List Expr}
noncomputable def CWH(K:c8U)(H1:Hp)(D0:Addr)(len:Nat)(W:Nat→List D→Mem→Prop)(i m:Nat)(H':Hp):Prop:=m=len - i∧i≤len∧∃ M' ys xs,KT H1 H'∧v7 K H' M'∧H' D0=some (.lst xs)∧M' D0=none∧HasL K H' xs ys∧W i ys M'
theorem a0M{K:c8U}{H1:Hp}{J:It}{ds:List D}{stay:Mem→Prop}{M1:Mem}{n:Nat}{caps:List Nat}{σ:St}{e:Ev}{E:List D→Mem→Prop}{W:Nat→List D→Mem→Prop}{D0:Addr}{Qd:Hp→Prop}(ok:B8 K H1 σ e)(a1:v7 K H1 M1)(wk:a5E K H1 J ds stay)(hD:H1 D0=none)
  (C:a4R (a5z n caps e) g tc te ds stay M1 E W) (fin:∀ ys M xs H',KT H1 H'→v7 K H' M→H' D0=some (.lst xs)→M D0=none→HasL K H' xs ys→E ys M→Qd H') (i m:Nat) (H2:Hp) (w:CWH K H1 D0 ds.length W i m H2) :
  (J.stop i H2∧Qd H2)∨(J.go i H2∧∀ x H',J.yld i H2 x H'→(∃ p,b4R p (upG K g) x (a7Y n caps σ) H' fun σ2 H3=>∃ p,b4Q p (upT K tc) σ2 H3 fun b H3'=>if b=true then ∃ p,b4S p (up K te) σ2 H3' fun v H4 =>
   ∃ ys,H4 D0=some (.lst ys)∧ys.length<sizeLine∧∃ m',m'<m∧CWH K H1 D0 ds.length W (i+1) m' (upd H4 D0 (.lst (ys++[v])))else ∃ m',m'<m∧CWH K H1 D0 ds.length W (i+1) m' H3')):=by
 obtain⟨rfl,hi,M2,ys,xs,k2,a2,hx,hM,lx,w2⟩:=w
 have a2':v7 K H2 (B9 M2 D0 (.lst ys)):=fun a o q=>by
  by_cases e:a=D0
  ·subst e;rw[h8]at q;cases q;exact⟨xs,hx,lx⟩
  ·rw[A0 e]at q;exact a2 a o q
 have st:=wk.up _ D0 (.lst ys) (C.stays i ys M2 hi w2) hM
 by_cases hlt:i<ds.length
 ·refine .inr ⟨wk.go i H2 _ hlt k2 a2' st,fun y H' yl=>?_⟩
  obtain⟨d,hd,k3,a3',r⟩:=wk.yld i H2 _ y H' hlt k2 a2' st yl
  obtain⟨xs',hx',lx'⟩:=a3'.lst h8
  have a3:v7 K H' M2:=fun a o q=>by
   have e:a≠D0:=by intro e;subst e;rw[hM]at q;cases q
   exact a3' a o (by rw[A0 e];exact q)
  have kh:KT H' (upd H' D0 (a12 D0 xs')):=KT.any hx'
  have k1h:=(k2.trans k3).trans kh
  have same:∀{H3:Hp},H3 D0=some (a12 D0 xs')→upd (upd H3 D0 (.lst xs')) D0 (a12 D0 xs')=H3:=fun{H3} q=>by
   rw[a1w];funext b;by_cases e:b=D0
   ·subst e;rw[j6,q]
   ·rw[j8 e]
  refine⟨D0,xs',hx',d,a5z n caps e,M2,_,r.mono kh,b9k n caps (ok.mono k1h),a3.at kh.toKT0 hM,C.turn i d ys M2 hd w2,fun e3 M3 h3 σ3 H3 k4 a4 ok3=>?_⟩
  have q3:H3 D0=some (a12 D0 xs'):=k4.ex D0 _ j6
  refine⟨q3,D0,xs',j6,?_⟩
  rw[same q3]
  refine⟨e3,M3,_,ok3,a4,h3,fun b M4 h4 H4 k5 a5=>?_⟩
  have q4:H4 D0=some (a12 D0 xs'):=k5.ex D0 _ q3
  refine⟨q4,?_⟩
  have kk:=k1h.trans (k4.trans k5)
  cases b with
  | false =>
   have h4':W (i+1) ys M4:=h4
   show ∃ m',m'<ds.length - i∧CWH K H1 D0 ds.length W (i+1) m' (upd H4 D0 (.lst xs'))
   exact⟨ds.length - (i+1),by omega,rfl,hlt,M4,ys,xs',kk.new hD,a5.at (KT0.ext q4) (a5.none_ext q4),j6,a5.none_ext q4,(lx'.mono (kh.trans (k4.trans k5))).mono0 (KT0.ext q4),h4'⟩
  | true =>
   show ∃ p,b4S p (up K te) σ3 (upd H4 D0 (.lst xs')) _
   refine⟨D0,xs',j6,?_⟩
   rw[same q4]
   refine⟨e3,M4,_,ok3.mono k5,a5,h4,fun dv M5 ⟨hz,w5⟩ vv H5 k6 a6 r6=>?_⟩
   have q5:H5 D0=some (a12 D0 xs'):=k6.ex D0 _ q4
   refine⟨q5,xs',j6,by rw[lx'.length];exact hz,ds.length - (i+1),by omega,rfl,hlt,M5,ys++[dv],xs'++[vv],?_,?_,j6,a6.none_ext q5,?_,w5⟩
   ·rw[a1w];exact(kk.trans k6).new hD
   ·rw[a1w];exact a6.at (KT0.ext q5) (a6.none_ext q5)
   ·rw[a1w];exact((lx'.mono (kh.trans (k4.trans (k5.trans k6)))).mono0 (KT0.ext q5)).append (.cons (r6.mono0 (KT0.ext q5)) .nil)
 ·have e':i=ds.length:=by omega
  subst e'
  exact .inl ⟨wk.stop _ H2 _ (c9b _) k2 a2' st,fin ys M2 xs H2 k2 a2 hx hM lx (C.done ys M2 w2)⟩
theorem G9(caps:List Nat)(tgs cps:List Str)(hc:X.calm=true)(hcell:∀ x∈scope.names,x.2 ≠ .cell)(hkind:scope.kind = .function)(hnames:∀ x∈scope.names,x.2 = .local→scope.names.lookup x.1=some .local)
  (hfr:∀ x∈scope.names,x.2 = .free→x.1∈cps) (hN:caps.map (fun i=>X.N[i]?)=cps.map some) (hX:∀ x∈cps,X.env.scope.names.lookup x=some .cell∧scope.names.lookup x=some .free)
  (hsc:∀ x∈cps,(relabel scope X.env).names.lookup x=some .cell∨(relabel scope X.env).names.lookup x=some .free)
  (hi:JI X tg iter ti) (hg:∀ cl s3 H3 C fp pins,JG (cxF X scope cl (tgs++cps) s3 H3 C fp pins) tg g) (hq:∀ cl s3 H3 C fp pins,b3K (cxF X scope cl (tgs++cps) s3 H3 C fp pins) ifs tc) (he:∀ cl s3 H3 C fp pins,JE (cxF X scope cl (tgs++cps) s3 H3 C fp pins) elt te)
  (hs:∀ x,foldedSetIterable iter X.env x=pure x:=by intro _;rfl):JE X (.ListComp elt [⟨tg,iter,ifs,0⟩] scope pos) (b0S tgs.length caps ti g tc te):=⟨have hi:=hi.out;have hg:=fun v0 v1 v2 v3 v4 v5=>(hg v0 v1 v2 v3 v4 v5).out;have hq:=fun v0 v1 v2 v3 v4 v5=>(hq v0 v1 v2 v3 v4 v5).out;have he:=fun v0 v1 v2 v3 v4 v5=>(he v0 v1 v2 v3 v4 v5).out;(a1g (a9a (tgs:=tgs) (cps:=cps) (caps:=caps) hc hcell hkind hnames hfr hN hX hsc hi (fun cl s3 H3 C fp pins=>a3l (hg cl s3 H3 C fp pins)) (fun cl s3 H3 C fp pins=>a0E (hq cl s3 H3 C fp pins)) (fun cl s3 H3 C fp pins=>a3m (he cl s3 H3 C fp pins)) hs)).imp (by rintro σ H Q ⟨e,M,R,ok,am,t,f⟩;exact⟨e,M,_,ok,am,t,fun ds stay M1 hW H1 k1 a1 J wk=>by
  intro D0 hD
  obtain⟨W,C⟩:=hW
  refine⟨fun i m H'=>CWH X.K H1 D0 ds.length W i m H',⟨ds.length,by simp,c9K _,M1,[],[],KT.alloc hD,a1.alloc hD,j6,a1.fresh hD,.nil,C.start⟩,fun i m H2 w=>a0M (Qd:=fun H'=>∃ p xs,V.ref D0 = .ref p∧H' p=some (.lst xs)∧∀ o,Q (.ref D0) (upd H' p (.frz o (.lst xs)))) (ok.mono k1) a1 wk hD C (fun ys M2 xs H' k2 a2 hx hM lx r=>?_) i m H2 w⟩
  exact⟨D0,xs,rfl,hx,fun o=>f _ M2 r _ _ (k1.trans (k2.trans (KT.any hx))) (a2.at (KT.any hx).toKT0 hM) (.vl (.inl ⟨o,j6⟩) (lx.mono (KT.any hx)))⟩⟩)⟩
theorem a9s(caps:List Nat)(tgs cps:List Str)(hc:X.calm=true)(hcell:∀ x∈scope.names,x.2 ≠ .cell)(hkind:scope.kind = .function)(hnames:∀ x∈scope.names,x.2 = .local→scope.names.lookup x.1=some .local)
  (hfr:∀ x∈scope.names,x.2 = .free→x.1∈cps) (hN:caps.map (fun i=>X.N[i]?)=cps.map some) (hX:∀ x∈cps,X.env.scope.names.lookup x=some .cell∧scope.names.lookup x=some .free)
  (hsc:∀ x∈cps,(relabel scope X.env).names.lookup x=some .cell∨(relabel scope X.env).names.lookup x=some .free)
  (hi:JI X tg iter ti) (hg:∀ cl s3 H3 C fp pins,JG (cxF X scope cl (tgs++cps) s3 H3 C fp pins) tg g) (hq:∀ cl s3 H3 C fp pins,b3K (cxF X scope cl (tgs++cps) s3 H3 C fp pins) ifs tc) (he:∀ cl s3 H3 C fp pins,JE (cxF X scope cl (tgs++cps) s3 H3 C fp pins) elt te)
  (hs:∀ x,foldedSetIterable iter X.env x=pure x:=by intro _;rfl):JE X (.ListComp elt [⟨tg,iter,ifs,0⟩] scope pos) (b0T tgs.length caps ti g tc te):=⟨have hi:=hi.out;have hg:=fun v0 v1 v2 v3 v4 v5=>(hg v0 v1 v2 v3 v4 v5).out;have hq:=fun v0 v1 v2 v3 v4 v5=>(hq v0 v1 v2 v3 v4 v5).out;have he:=fun v0 v1 v2 v3 v4 v5=>(he v0 v1 v2 v3 v4 v5).out;(a9a (tgs:=tgs) (cps:=cps) (caps:=caps) hc hcell hkind hnames hfr hN hX hsc hi (fun cl s3 H3 C fp pins=>a3l (hg cl s3 H3 C fp pins)) (fun cl s3 H3 C fp pins=>a0E (hq cl s3 H3 C fp pins)) (fun cl s3 H3 C fp pins=>a3m (he cl s3 H3 C fp pins)) hs).imp (by rintro σ H Q ⟨e,M,R,ok,am,t,f⟩;exact⟨e,M,_,ok,am,t,fun ds stay M1 hW H1 k1 a1 J wk=>by
  intro D0 hD
  obtain⟨W,C⟩:=hW
  refine⟨fun i m H'=>CWH X.K H1 D0 ds.length W i m H',⟨ds.length,by simp,c9K _,M1,[],[],KT.alloc hD,a1.alloc hD,j6,a1.fresh hD,.nil,C.start⟩,fun i m H2 w=>a0M (ok.mono k1) a1 wk hD C (fun ys M2 xs H' k2 a2 hx hM lx r=>?_) i m H2 w⟩
  refine f _ _ (r D0 hM) _ _ (k1.trans k2) (fun a o q=>?_) (.ref D0)
  by_cases e:a=D0
  ·subst e;rw[h8]at q;cases q;exact⟨xs,hx,lx⟩
  ·rw[A0 e]at q;exact a2 a o q⟩)⟩
theorem E7{i:Nat}{x:Str}{pos' pos2:Pos}(caps:List Nat)(tgs cps:List Str)(hNd:X.N.Nodup)(hxi:X.N[i]? = some x)(hx:Loc X.env.scope x)(hc:X.calm=true)(hcell:∀ x∈scope.names,x.2 ≠ .cell)(hkind:scope.kind = .function)(hnames:∀ x∈scope.names,x.2 = .local→scope.names.lookup x.1=some .local)
  (hfr:∀ x∈scope.names,x.2 = .free→x.1∈cps) (hN:caps.map (fun i=>X.N[i]?)=cps.map some) (hX:∀ x∈cps,X.env.scope.names.lookup x=some .cell∧scope.names.lookup x=some .free)
  (hsc:∀ x∈cps,(relabel scope X.env).names.lookup x=some .cell∨(relabel scope X.env).names.lookup x=some .free)
  (hi:JI X tg iter ti) (hg:∀ cl s3 H3 C fp pins,JG (cxF X scope cl (tgs++cps) s3 H3 C fp pins) tg g) (hq:∀ cl s3 H3 C fp pins,b3K (cxF X scope cl (tgs++cps) s3 H3 C fp pins) ifs tc) (he:∀ cl s3 H3 C fp pins,JE (cxF X scope cl (tgs++cps) s3 H3 C fp pins) elt te)
  (hsw:swapsWith (.ListComp elt [⟨tg,iter,ifs,0⟩] scope pos) (some (.Name x pos')) pos2.line X.env=pure true:=by rfl) (hs:∀ x,foldedSetIterable iter X.env x=pure x:=by intro _;rfl) (hf:X.fn x=true∨X.env.scope.names.lookup x=some .local:=by first|exact .inl rfl|exact .inr rfl|assumption):JS X (.Assign [.Name x pos'] (.ListComp elt [⟨tg,iter,ifs,0⟩] scope pos) pos2) (b3z (b0S tgs.length caps ti g tc te) (a1n i)):=⟨have hi:=hi.out;have hg:=fun v0 v1 v2 v3 v4 v5=>(hg v0 v1 v2 v3 v4 v5).out;have hq:=fun v0 v1 v2 v3 v4 v5=>(hq v0 v1 v2 v3 v4 v5).out;have he:=fun v0 v1 v2 v3 v4 v5=>(he v0 v1 v2 v3 v4 v5).out;(b1X (c1q (a87 (tgs:=tgs) (cps:=cps) (caps:=caps) hc hcell hkind hnames hfr hN hX hsc hi (fun cl s3 H3 C fp pins=>a3l (hg cl s3 H3 C fp pins)) (fun cl s3 H3 C fp pins=>a0E (hq cl s3 H3 C fp pins)) (fun cl s3 H3 C fp pins=>a3m (he cl s3 H3 C fp pins)) hNd hxi hx hf hs)) hsw).imp (by rintro E σ H ⟨e,M,F,ok,am,t,f⟩;exact⟨e,M,_,ok,am,t,fun ds stay M1 hW H1 k1 a1 J wk=>by
  intro D0 hD
  obtain⟨W,C⟩:=hW
  refine⟨fun i m H'=>CWH X.K H1 D0 ds.length W i m H',⟨ds.length,by simp,c9K _,M1,[],[],KT.alloc hD,a1.alloc hD,j6,a1.fresh hD,.nil,C.start⟩,fun j m H2 w=>a0M (Qd:=fun H'=>∃ p xs,V.ref D0 = .ref p∧H' p=some (.lst xs)∧∀ o,E.nx (σ.set i (some (.ref D0))) (upd H' p (.frz o (.lst xs)))) (ok.mono k1) a1 wk hD C (fun ys M2 xs H' k2 a2 hx hM lx r=>?_) j m H2 w⟩
  exact⟨D0,xs,rfl,hx,fun o=>f.nx _ M2 r _ _ (k1.trans (k2.trans (KT.any hx))) (a2.at (KT.any hx).toKT0 hM) ((ok.mono (k1.trans (k2.trans (KT.any hx)))).set (.vl (.inl ⟨o,j6⟩) (lx.mono (KT.any hx))) i)⟩⟩)⟩
theorem a7L{i:Nat}{x:Str}{pos' pos2:Pos}(caps:List Nat)(tgs cps:List Str)(hNd:X.N.Nodup)(hxi:X.N[i]? = some x)(hx:Loc X.env.scope x)(hc:X.calm=true)(hcell:∀ x∈scope.names,x.2 ≠ .cell)(hkind:scope.kind = .function)(hnames:∀ x∈scope.names,x.2 = .local→scope.names.lookup x.1=some .local)
  (hfr:∀ x∈scope.names,x.2 = .free→x.1∈cps) (hN:caps.map (fun i=>X.N[i]?)=cps.map some) (hX:∀ x∈cps,X.env.scope.names.lookup x=some .cell∧scope.names.lookup x=some .free)
  (hsc:∀ x∈cps,(relabel scope X.env).names.lookup x=some .cell∨(relabel scope X.env).names.lookup x=some .free)
  (hi:JI X tg iter ti) (hg:∀ cl s3 H3 C fp pins,JG (cxF X scope cl (tgs++cps) s3 H3 C fp pins) tg g) (hq:∀ cl s3 H3 C fp pins,b3K (cxF X scope cl (tgs++cps) s3 H3 C fp pins) ifs tc) (he:∀ cl s3 H3 C fp pins,JE (cxF X scope cl (tgs++cps) s3 H3 C fp pins) elt te)
  (hsw:swapsWith (.ListComp elt [⟨tg,iter,ifs,0⟩] scope pos) (some (.Name x pos')) pos2.line X.env=pure true:=by rfl) (hs:∀ x,foldedSetIterable iter X.env x=pure x:=by intro _;rfl) (hf:X.fn x=true∨X.env.scope.names.lookup x=some .local:=by first|exact .inl rfl|exact .inr rfl|assumption):JS X (.Assign [.Name x pos'] (.ListComp elt [⟨tg,iter,ifs,0⟩] scope pos) pos2) (b3z (b0T tgs.length caps ti g tc te) (a1n i)):=⟨have hi:=hi.out;have hg:=fun v0 v1 v2 v3 v4 v5=>(hg v0 v1 v2 v3 v4 v5).out;have hq:=fun v0 v1 v2 v3 v4 v5=>(hq v0 v1 v2 v3 v4 v5).out;have he:=fun v0 v1 v2 v3 v4 v5=>(he v0 v1 v2 v3 v4 v5).out;(b1X (a87 (tgs:=tgs) (cps:=cps) (caps:=caps) hc hcell hkind hnames hfr hN hX hsc hi (fun cl s3 H3 C fp pins=>a3l (hg cl s3 H3 C fp pins)) (fun cl s3 H3 C fp pins=>a0E (hq cl s3 H3 C fp pins)) (fun cl s3 H3 C fp pins=>a3m (he cl s3 H3 C fp pins)) hNd hxi hx hf hs) hsw).imp (by rintro E σ H ⟨e,M,F,ok,am,t,f⟩;exact⟨e,M,_,ok,am,t,fun ds stay M1 hW H1 k1 a1 J wk=>by
  intro D0 hD
  obtain⟨W,C⟩:=hW
  refine⟨fun i m H'=>CWH X.K H1 D0 ds.length W i m H',⟨ds.length,by simp,c9K _,M1,[],[],KT.alloc hD,a1.alloc hD,j6,a1.fresh hD,.nil,C.start⟩,fun j m H2 w=>a0M (Qd:=fun H'=>E.nx (σ.set i (some (.ref D0))) H') (ok.mono k1) a1 wk hD C (fun ys M2 xs H' k2 a2 hx hM lx r=>?_) j m H2 w⟩
  refine f.nx _ _ (r D0 hM) _ _ (k1.trans k2) (fun a o q=>?_) ((ok.mono (k1.trans k2)).set (.ref D0) i)
  by_cases e:a=D0
  ·subst e;rw[h8]at q;cases q;exact⟨xs,hx,lx⟩
  ·rw[A0 e]at q;exact a2 a o q⟩)⟩
end
section
variable {X:Cx} {e:Expr} {te:DTE} {p1 p2 pos pos2:Pos}
theorem SqL.upd{K:c8U}{H:Hp}{a it:Addr}{xs:List V}{o:HO}(h:SqL K H a xs)(ne:a≠it):SqL K (upd H it o) a xs:=h.elim (fun z=>.inl (by unfold Rd at z ⊢;rw[j8 ne];exact z)) .inr
theorem SqK.upd{K:c8U}{k:Bool}{H:Hp}{a it:Addr}{xs:List V}{o:HO}(h:SqK K k H a xs)(ne:a≠it):SqK K k (L2.upd H it o) a xs:=by
 cases k with
 | true=>exact SqL.upd (show SqL K H a xs from h) ne
 | false=>exact(show SqT K H a xs from h).elim (fun z=>.inl (by unfold Rd at z ⊢;rw[j8 ne];exact z)) .inr
noncomputable def b2n(x:D)(M:Mem)(R:DK):Prop:=∃ ds,C1 M x ds∧R (.vl ds.reverse) M
noncomputable def c0x(te:DTE):DTE:=fun e M R=>te e M fun x M1=>b2n x M1 R
theorem a9r(hc:X.calm=true)(g1:Gl X "list")(m1:X.mg "list" = none)(v1:bootBuiltins "list" = some (.type "list"))(g2:Gl X "reversed")(m2:X.mg "reversed" = none)(v2:bootBuiltins "reversed" = some (.type "reversed"))(he:JE X e te)
  (h1:starEach [e] X.env=(false,eval e X.env) :: starEach [] X.env:=by rfl) (h2:starEach [.Call (.Name "reversed" p2) [e] [] pos2] X.env=(false,eval (.Call (.Name "reversed" p2) [e] [] pos2) X.env) :: starEach [] X.env:=by rfl):JE X (.Call (.Name "list" p1) [.Call (.Name "reversed" p2) [e] [] pos2] [] pos) (c0x te):=⟨have he:=he.out;(a1g (R4 (a9C hc) g1 m1 v1 (a3n (R4 a7W g2 m2 v2 (a3n he a7v h1) (by decide) (by decide) h1) a7v h2) (by decide) (by decide) h2)).imp (by rintro σ H Q ⟨e,M,R,ok,am,t,f⟩;exact⟨e,M,_,ok,am,t,fun x M1 ⟨ds,hi,r⟩ v H1 k1 a1 r1=>by
  obtain⟨a,xs,rfl,sq,lx⟩:=B4 hi a1 r1
  refine⟨a,a4J x,xs,rfl,sq,fun it hit hne hge=>⟨it,a,a4J x,xs,rfl,j6,SqK.upd sq (Ne.symm hne),Ne.symm hne,hge,fun p hp=>?_⟩⟩
  have q1:p≠it:=fun z=>by rw[z,j6]at hp;cases hp
  rw[j8 q1]at hp
  have e1:∀ o u,a4O (L2.upd (L2.upd H1 it o) p u) it=L2.upd H1 p u:=fun o u=>by
   funext b
   by_cases z:b=it
   ·subst z;rw[a4M,j8 (Ne.symm q1),hit]
   ·rw[a4N z]
    by_cases y:b=p
    ·subst y;rw[j6,j6]
    ·rw[j8 y,j8 y,j8 z]
  rw[e1]
  exact a0K f k1 a1 lx.rev r p hp⟩)⟩
noncomputable def b6E(n:Nat)(t:a0m):DTG:=fun d e M R=>∃ ds,W5 M d=some ds∧ds.length=n∧t ds e M R
theorem a4K{xs:List Expr}{k:Nat}{t:a0m}{n:Nat}(hc:X.calm=true)(h:JGs X xs t)
  (hn:(assignEach xs X.env).length=n:=by rfl) (hst:(assignEach xs X.env).findIdx? (·.1)=none:=by rfl):JG X (.Tuple xs k pos) (b6E n t):=⟨have h:=h.out;PG.imp (b8D hc h hn hst) (by
  rintro v σ H Q ⟨d,e,M,R,r,ok,am,⟨ds,hi,hl,g⟩,f⟩
  obtain⟨a,xs,e1,sq,lx⟩:=F9 am r hi
  exact⟨a,xs,e1,sq,by rw[lx.length];exact hl,ds,e,M,R,lx,ok,am,g,f⟩)⟩
noncomputable def b7j(ds:List D)(M:Mem)(Q:List D→(Mem→Prop)→Mem→Prop):Prop:=∃ xs,ds=[.vl xs]∧Q xs.reverse (fun _=>True) M
noncomputable def b6D(ta:DTA):DTI:=fun e M Q=>ta e M fun ds M1=>b7j ds M1 Q
theorem b2L{K:c8U}{H1:Hp}{a:Addr}{xs:List V}{ds:List D}(h:Has K H1 (.ref a) (.vl ds))(lx:HasL K H1 xs ds):a5E K H1 (Itb K a xs.length) ds.reverse (fun _=>True) where
 go:=fun i H' M' hi k am _=>by
  rw[c9w,← lx.length]at hi
  obtain⟨a',ys,e,sq',l'⟩:=(h.mono k).il
  cases e
  have hy:ys.length=xs.length:=by rw[l'.length,lx.length]
  exact⟨hi,ys,_,sq',c9d (by omega)⟩
 yld:=fun i H' M' x H'' hi k am _ q=>by
  obtain⟨e,y⟩:=q
  subst e
  rw[c9w,← lx.length]at hi
  obtain⟨a',ys,e,sq',l'⟩:=(h.mono k).il
  cases e
  obtain⟨d,hd,r⟩:=l'.getV (y ys sq')
  refine⟨d,?_,KT.refl _,am,r⟩
  rw[List.getElem?_reverse (by rw[← lx.length];exact hi),← lx.length]
  exact hd
 stop:=fun i H' M' hi k am _=>by
  rw[c9w,← lx.length]at hi
  exact hi
 up:=fun _ _ _ _ _=>trivial
theorem b6d{tg a:Expr}{ta:DTA}{p pos:Pos}(g1:Gl X "reversed")(m1:X.mg "reversed" = none)(v1:bootBuiltins "reversed" = some (.type "reversed"))(ha:JA X [a] ta)
  (hs:starEach [a] X.env=[(false,eval a X.env)]:=by rfl):JI X tg (.Call (.Name "reversed" p) [a] [] pos) (b6D ta):=⟨have ha:=ha.out;PI.imp (b8B g1 m1 v1 ha hs) (by
  rintro σ H R ⟨e,M,R',ok,am,t,f⟩
  exact⟨e,M,_,ok,am,t,fun ds M1 z vs H1 k1 a1 r1=>by
   obtain⟨xs,rfl,r⟩:=z
   obtain⟨v,rfl,hv⟩:=r1.one
   obtain⟨a,ws,e1,sq,lx⟩:=hv.il
   subst e1
   exact⟨a,ws,rfl,sq,f _ _ M1 r H1 k1 a1 _ (b2L hv lx)⟩⟩)⟩
end
end DL
namespace L2
open PySem PySem.Spec PyProof.Rows
section
variable {X:Cx} {pos:Pos}
end
end L2
namespace DL
open PySem PySem.Spec L2
open PyProof.Rows hiding St
end DL
namespace DL
open PySem PySem.Spec L2
open PyProof.Rows hiding St
section
variable {X:Cx}
end
end DL
namespace DL
open PySem PySem.Spec L2
open PyProof.Rows hiding St
section
variable {X:Cx}
end
section
variable {X:Cx} {a b c:Expr} {ta tb tc:DTE} {pos:Pos}
end
section
variable {K:c8U}
end
end DL
namespace DL
open PySem PySem.Spec L2
open PyProof.Rows hiding St
section
variable {X:Cx} {x:Expr} {t:DTE}
end
end DL
namespace DL
open PySem PySem.Spec L2
open PyProof.Rows hiding St
noncomputable def c4c(X:Cx):St:=d0m X.N.length none
noncomputable def Cov(B s0:Heap)(H':Hp)(fs:List Addr)(h:Heap):Prop:=∀ b o,h.get? b=some o→((∃ u,H' b=some u) ∨ ∃ o0,s0.get? b=some o0)→b∉fs→B.get? b=some o
noncomputable def CXr(P:Program)(w:World)(base:Heap):CXT:=fun outer H s E e s'=>∃ a cls a0 H' B,e = .ref a∧s'.os=s.os∧AllBare s'.gens∧Un (frs outer) [] H H' s.heap s'.heap∧HOk P w H' s'.heap∧KT H H' ∧
 base.StaysIn B∧Cov B s.heap H' (frs outer) s'.heap∧Heap.FlyingW B outer a cls a0 s'.heap∧E cls none H'
noncomputable def XP(X:Cx)(mk:Bool)(EX:Value→Hp→Prop):Value→Shared→Prop:=fun e s' =>
 (mk=true∧∃ a cls h vs H',e = .ref a∧EX cls H'∧Heap.MadeExcOf h s'.heap a cls vs∧Inv X [] (c4c X) H' { s' with heap:=h }) ∨
 (∃ pins σ Hc sc,Inv X pins σ Hc sc∧CXr X.prog X.w X.base X.stack Hc sc (fun cls _ H'=>EX cls H') e s')
section
variable {P:Program} {w:World} {K:c8U} {mg:Str→Option Value} {base:Heap} {N:List Str} {qual:Str} {scope:Scope} {f:Addr} {cd:Value} {A:Around} {outer:List Env} {s:Shared} {H:Hp} {E:XK}
end
noncomputable def xN(x:Str):Value:=.str x 0
noncomputable def c5Q(X:Cx)(H₀:Hp)(Y:DXK):Value→Hp→Prop:=fun c H'=>KT H₀ H'∧∃(x:Str) (C:Addr) (M':Mem),c = .ref C∧X.mg x=some (.ref C)∧v7 X.K H' M'∧Y (xN x) M'
noncomputable abbrev Cx.ex'(X:Cx)(mk:Bool)(H₀:Hp)(Y:DXK):Cx:=X.wish (XP X mk (c5Q X H₀ Y))
section
variable {X:Cx} {mk:Bool} {H₀:Hp} {Y:DXK} {st:Stmt} {D4:List Stmt} {t u:DTS} {pos:Pos}
end
section
variable {P:Program} {w:World} {K:c8U} {mg:Str→Option Value} {base:Heap}
end
section
variable {X:Cx} {mk:Bool} {H₀:Hp} {Y:DXK} {pos cpos:Pos} {x:Str} {j:Nat} {ps:List Str} {sp:DSp} {p:Pos} {e:Expr} {es:List Expr} {t:DTA}
end
section
variable {X:Cx} {mk:Bool} {H₀:Hp} {Y:DXK} {pos:Pos} {e:Expr} {te:DTE}
end
section
variable {X:Cx} {H₀:Hp} {Y:DXK} {pos cpos np:Pos} {x:Str} {e₀:Expr} {te:DTE}
end
noncomputable abbrev Cx.pinned(X:Cx)(pn:List (Addr × Obj)):Cx:={ X with pn:=pn }
section
variable {X:Cx} {pins pn:List (Addr × Obj)} {σ:St} {H:Hp} {s:Shared}
end
section
variable {X:Cx} {body suite:List Stmt} {b0:Stmt} {c:Str} {np hpos pos:Pos} {tb:DXK→DTS} {ts:DTS}
end
section
variable {X:Cx} {body suite:List Stmt} {b0:Stmt} {c:Str} {np hpos pos:Pos} {tb:DXK→DTS} {ts:DTS}
end
end DL
namespace DL
open PySem PySem.Spec L2
noncomputable def BlK(x:D)(M:Mem)(Q:Bool→Mem→Prop):Prop:=∃ k,x = .bl k∧Q k M
noncomputable def IfK(c:Bool)(A B:Prop):Prop:=if c=true then A else B
noncomputable def SzK(n:Nat)(A:Prop):Prop:=n≤sizeLine∧A
noncomputable def c4W(i j:Nat)(ds:List D)(F:a2b)(e:Ev)(M:Mem):Prop:=∃ x y,ds=[x,y]∧F.nx ((e.set i (some x)).set j (some y)) M
noncomputable def c2I(x:D)(M:Mem)(Q:List D→(Mem→Prop)→Mem→Prop):Prop:=∃ ds,C1 M x ds∧Q ds (fun M'=>C1 M' x ds) M
noncomputable def b7g(xs:List D)(M:Mem)(Q:List D→(Mem→Prop)→Mem→Prop):Prop:=∃ x ds,xs=[x]∧C1 M x ds∧Q (S1 ds) (fun M'=>C1 M' x ds) M
noncomputable def b7b(xs:List D)(M:Mem)(Q:List D→(Mem→Prop)→Mem→Prop):Prop:=∃ x y ds es,xs=[x,y]∧C1 M x ds∧C1 M y es∧Q (Y1 ds es) (fun M'=>C1 M' x ds∧C1 M' y es) M
noncomputable def c4V(xs:List D)(M:Mem)(Q:List D→(Mem→Prop)→Mem→Prop):Prop:=∃ j:Int,xs=[.int j]∧-(2 ^ 62)≤j∧j<2 ^ 62∧Q (W1 0 j.toNat) (fun _=>True) M
noncomputable def c0M(xs:List D)(M:Mem)(Q:List D→(Mem→Prop)→Mem→Prop):Prop:=∃ j:Int,xs=[.int j]∧0≤j∧j<2 ^ 62∧Q (a0Y (j - 1) j.toNat) (fun _=>True) M
noncomputable def O5(g:DTG)(tb:DTS)(F:a2b)(ds:List D)(stay:Mem→Prop)(e:Ev)(M1:Mem):Prop:=∃ W:Nat→Ev→Mem→Prop,W 0 e M1∧(∀ i e M,i≤ds.length→W i e M→stay M) ∧
 (∀(i:Nat) (d:D) e M,ds[i]? = some d→W i e M→g d e M fun e2 M2=>tb { F with nx:=W (i+1),ct:=W (i+1),bk:=F.nx } e2 M2)∧∀ e M,W ds.length e M→F.nx e M
noncomputable def c4Z(x:D)(M1:Mem)(R:DK):Prop:=∃ p ds,x = .ref p∧M1 p=some (.lst ds)∧R (.vl ds) (a0Q M1 p)
noncomputable def c0N(x:D)(M:Mem)(Q:Option Int→Mem→Prop):Prop:=∃ i,x = .int i∧Q (some i) M
noncomputable def c5a(x:D)(M1:Mem)(R:DK):Prop:=∃ M2:Mem,(∀ b o,M2 b=some o→M1 b=some o)∧R x M2
noncomputable def LMK(x:D)(M:Mem)(A:Prop):Prop:=(∃ l ds,x = .ref l∧M l=some (.lst ds))∧A
end DL
namespace DL
open PySem PySem.Spec L2
open PyProof.Rows hiding St
section
variable {e:Ev} {M:Mem} {R:DK} {F:a2b} {ta tb tc:DTE} {tA tB:DTT} {tr:DTA} {t u:DTS}
theorem z_C{d:D}:dC d e M R=R d M:=rfl
theorem c3s{g:DR2}:dOp g ta tb e M R=ta e M fun x M1=>tb e M1 fun y M2=>g x y M2 R:=rfl
theorem c3q{g:D→Mem→DK→Prop}:dUn g ta e M R=ta e M fun x M1=>g x M1 R:=rfl
theorem c3o{f:Int→Int→D}{i j:Int}:gF (fI f) (.int i) (.int j) M R=R (f i j) M:=propext ⟨fun zz=>by obtain⟨_,h,r⟩:=zz;cases h;exact r,fun r=>⟨_,rfl,r⟩⟩
theorem c3p{f:Bool→Bool→D}{i j:Bool}:gF (fB f) (.bl i) (.bl j) M R=R (f i j) M:=propext ⟨fun zz=>by obtain⟨_,h,r⟩:=zz;cases h;exact r,fun r=>⟨_,rfl,r⟩⟩
theorem c3n{f:Str→Str→D}{i j:Str}:gF (fS f) (.str i) (.str j) M R=R (f i j) M:=propext ⟨fun zz=>by obtain⟨_,h,r⟩:=zz;cases h;exact r,fun r=>⟨_,rfl,r⟩⟩
theorem c3m{C:Int→Int→Prop}{f:Int→Int→D}{i j:Int}:gI C f (.int i) (.int j) M R=(C i j∧R (f i j) M):=propext ⟨fun zz=>by obtain⟨_,_,h1,h2,c,r⟩:=zz;cases h1;cases h2;exact⟨c,r⟩,fun⟨c,r⟩=>⟨_,_,rfl,rfl,c,r⟩⟩
theorem c3l{f:Int→D}{i:Int}:gU f (.int i) M R=R (f i) M:=propext ⟨fun zz=>by obtain⟨_,h,r⟩:=zz;cases h;exact r,fun r=>⟨_,rfl,r⟩⟩
theorem b4n{Q:Bool→Mem→Prop}:b2y ta e M Q=ta e M fun x M'=>BlK x M' Q:=rfl
theorem c0c{b:Bool}{Q:Bool→Mem→Prop}:BlK (.bl b) M Q=Q b M:=propext ⟨fun zz=>by obtain⟨_,h,r⟩:=zz;cases h;exact r,fun r=>⟨_,rfl,r⟩⟩
theorem c0e{Q:Bool→Mem→Prop}:c4M tA tB e M Q=tA e M fun c M1=>IfK c (tB e M1 Q) (Q false M1):=rfl
theorem c3r{Q:Bool→Mem→Prop}:dOr tA tB e M Q=tA e M fun c M1=>IfK c (Q true M1) (tB e M1 Q):=rfl
theorem b90{Q:Bool→Mem→Prop}:c4F tA e M Q=tA e M fun c M1=>Q (!c) M1:=rfl
theorem b4E:c0F ta tb e M R=ta e M fun x M1=>BlK x M1 fun c M1=>IfK c (tb e M1 R) (R (.bl false) M1):=rfl
theorem b9Z:c4E ta tb e M R=ta e M fun x M1=>BlK x M1 fun c M1=>IfK c (R (.bl true) M1) (tb e M1 R):=rfl
theorem b4u:c0z ta e M R=ta e M fun x M1=>BlK x M1 fun c M1=>R (.bl (!c)) M1:=rfl
theorem c3u:dIf tA ta tb e M R=tA e M fun c M1=>IfK c (ta e M1 R) (tb e M1 R):=rfl
theorem b95:c4I tA t u F e M=tA e M fun c M1=>IfK c (t F e M1) (u F e M1):=rfl
theorem b91{Q:List D→Mem→Prop}:c4G e M Q=Q [] M:=rfl
theorem b4B{Q:List D→Mem→Prop}:c0D ta tr e M Q=ta e M fun x M1=>tr e M1 fun xs M2=>Q (x :: xs) M2:=rfl
theorem b9U:c4z tr e M R=tr e M fun ds M1=>SzK ds.length (R (.tup ds) M1):=rfl
theorem b93:c4H tr e M R=tr e M fun ds M1=>SzK ds.length (∀ p,M1 p=none→R (.ref p) (B9 M1 p (.lst ds))):=rfl
theorem a0O{x y z:D}(h:ixD M x y=some z):gIx x y M R=R z M:=propext ⟨fun zz=>by obtain⟨_,h',r⟩:=zz;rw[h]at h';cases h';exact r,fun r=>⟨_,h,r⟩⟩
theorem a1v{neg:Bool}{x y:D}{b:Bool}(h:isD x y=some b):gIs neg x y M R=R (.bl (neg.xor b)) M:=propext ⟨fun zz=>by obtain⟨_,h',r⟩:=zz;rw[h]at h';cases h';exact r,fun r=>⟨_,h,r⟩⟩
theorem c0b{neg:Bool}{x y:D}:c2s neg x y M R=(cl 60 x=true∧cl 60 y=true∧R (.bl (neg.xor (@decide (x=y) (c9R _)))) M):=rfl
theorem b4D{sp:DSp}{dds:List D}{Y:DXK}:b2A sp dds Y tr e M R=tr e M fun ds M1=>sp (ds++dds) M1 R Y:=rfl
theorem c3v{g:DRC}:dCB g tr e M R=tr e M fun ds M1=>g ds M1 R:=rfl
theorem b4v:c0A F e M=F.nx e M:=rfl
theorem b9W:c4B t u F e M=t { F with nx:=u F } e M:=rfl
theorem b4A:c0C ta F e M=ta e M fun _ M1=>F.nx e M1:=rfl
theorem b9X:c4C ta F e M=ta e M F.rt:=rfl
theorem b1B:b6I F e M=False:=rfl
variable {Q:Ev→Mem→Prop}
theorem b1q{i:Nat}{d:D}:a1n i d e M Q=Q (e.set i (some d)) M:=rfl
theorem b4m:c0v [] e M Q=Q e M:=propext ⟨fun h=>h.2,fun h=>⟨rfl,h⟩⟩
theorem b1r{g:DTG}{gs:a0m}{d:D}{ds:List D}:b6F g gs (d :: ds) e M Q=g d e M fun e' M'=>gs ds e' M' Q:=propext ⟨fun zz=>by obtain⟨_,_,h,r⟩:=zz;cases h;exact r,fun r=>⟨_,_,rfl,r⟩⟩
theorem a8w{n:Nat}{gs:a0m}{ds:List D}(h:ds.length=n):b6E n gs (.vl ds) e M Q=gs ds e M Q:=propext ⟨fun zz=>by obtain⟨_,h',_,r⟩:=zz;cases h';exact r,fun r=>⟨_,rfl,h,r⟩⟩
theorem a3V{n:Nat}{gs:a0m}{ds:List D}(h:ds.length=n):a9A n gs (.tup ds) e M Q=gs ds e M Q:=propext ⟨fun zz=>by obtain⟨_,h',_,r⟩:=zz;cases h';exact r,fun r=>⟨_,rfl,h,r⟩⟩
theorem b4l{to ti:DTE}{ts:b7h}{d:D}:c0u to ti ts d e M Q=to e M fun o M1=>ti e M1 fun i M2=>ts o i d M2 fun M3=>Q e M3:=rfl
theorem c0d{g:DTG}:b3z ta g F e M=ta e M fun x M1=>g x e M1 F.nx:=rfl
theorem b9Y{i j:Nat}:c4D i j tr F e M=tr e M fun ds M1=>c4W i j ds F e M1:=rfl
theorem b4t{i j:Nat}{x y:D}:c4W i j [x,y] F e M=F.nx ((e.set i (some x)).set j (some y)) M:=propext ⟨fun zz=>by obtain⟨_,_,h,r⟩:=zz;cases h;exact r,fun r=>⟨_,_,rfl,r⟩⟩
theorem c0f{i:Int}:c4v [.int i] M R=R (.int (i.natAbs:Int)) M:=propext ⟨fun zz=>by obtain⟨_,h,r⟩:=zz;cases h;exact r,fun r=>⟨_,rfl,r⟩⟩
theorem b92{i j:Int}:c4r [.int i,.int j] M R=R (.int (max i j)) M:=propext ⟨fun zz=>by obtain⟨_,_,h,r⟩:=zz;cases h;exact r,fun r=>⟨_,_,rfl,r⟩⟩
theorem a8F{d:D}{n:Nat}(h:b5X M d=some n):b3t [d] M R=R (.int (n:Int)) M:=propext ⟨fun zz=>by obtain⟨_,_,h',h2,r⟩:=zz;cases h';rw[h]at h2;cases h2;exact r,fun r=>⟨_,_,rfl,h,r⟩⟩
theorem v9{d:D}{ty T:String}{b:Bool}(h1:tyD M d=some ty)(h2:b8d ty T=some b):D3 [d,.ty T] M R=R (.bl b) M:=propext ⟨fun zz=>by
 obtain⟨_,_,_,_,h,h1',h2',r⟩:=zz
 injection h with h h';subst h;injection h' with h';injection h' with h';subst h'
 rw[h1]at h1';cases h1';rw[h2]at h2';cases h2';exact r,fun r=>⟨_,_,_,_,rfl,h1,h2,r⟩⟩
theorem b96{c:Bool}{A B:Prop}:IfK c A B=((c=true→A)∧(c=false→B)):=by cases c<;>simp[IfK]
theorem b94{A B:Prop}:IfK true A B=A:=by simp[IfK]
theorem b97{A B:Prop}:IfK false A B=B:=by simp[IfK]
theorem E8{n:Nat}{A:Prop}(h:n≤1000):SzK n A=A:=propext ⟨fun h=>h.2,fun a=>⟨sl n h,a⟩⟩
theorem c3a{d:D}{r:Ev}:a0R 0 (some d :: r) M R=R d M:=propext ⟨fun zz=>by obtain⟨_,h,q⟩:=zz;cases h;exact q,fun q=>⟨_,rfl,q⟩⟩
theorem c3k{y z:Option D}{r:Ev}:(y :: r:Ev).set 0 z=z :: r:=rfl
theorem c2Z{x0:Option D}{d:D}{r:Ev}:a0R 1 (x0 :: some d :: r) M R=R d M:=propext ⟨fun zz=>by obtain⟨_,h,q⟩:=zz;cases h;exact q,fun q=>⟨_,rfl,q⟩⟩
theorem c3j{x0:Option D}{y z:Option D}{r:Ev}:(x0 :: y :: r:Ev).set 1 z=x0 :: z :: r:=rfl
theorem c2Y{x0 x1:Option D}{d:D}{r:Ev}:a0R 2 (x0 :: x1 :: some d :: r) M R=R d M:=propext ⟨fun zz=>by obtain⟨_,h,q⟩:=zz;cases h;exact q,fun q=>⟨_,rfl,q⟩⟩
theorem c3i{x0 x1:Option D}{y z:Option D}{r:Ev}:(x0 :: x1 :: y :: r:Ev).set 2 z=x0 :: x1 :: z :: r:=rfl
theorem c2X{x0 x1 x2:Option D}{d:D}{r:Ev}:a0R 3 (x0 :: x1 :: x2 :: some d :: r) M R=R d M:=propext ⟨fun zz=>by obtain⟨_,h,q⟩:=zz;cases h;exact q,fun q=>⟨_,rfl,q⟩⟩
theorem c3h{x0 x1 x2:Option D}{y z:Option D}{r:Ev}:(x0 :: x1 :: x2 :: y :: r:Ev).set 3 z=x0 :: x1 :: x2 :: z :: r:=rfl
theorem c2W{x0 x1 x2 x3:Option D}{d:D}{r:Ev}:a0R 4 (x0 :: x1 :: x2 :: x3 :: some d :: r) M R=R d M:=propext ⟨fun zz=>by obtain⟨_,h,q⟩:=zz;cases h;exact q,fun q=>⟨_,rfl,q⟩⟩
theorem c3g{x0 x1 x2 x3:Option D}{y z:Option D}{r:Ev}:(x0 :: x1 :: x2 :: x3 :: y :: r:Ev).set 4 z=x0 :: x1 :: x2 :: x3 :: z :: r:=rfl
theorem c2V{x0 x1 x2 x3 x4:Option D}{d:D}{r:Ev}:a0R 5 (x0 :: x1 :: x2 :: x3 :: x4 :: some d :: r) M R=R d M:=propext ⟨fun zz=>by obtain⟨_,h,q⟩:=zz;cases h;exact q,fun q=>⟨_,rfl,q⟩⟩
theorem c3f{x0 x1 x2 x3 x4:Option D}{y z:Option D}{r:Ev}:(x0 :: x1 :: x2 :: x3 :: x4 :: y :: r:Ev).set 5 z=x0 :: x1 :: x2 :: x3 :: x4 :: z :: r:=rfl
theorem c2U{x0 x1 x2 x3 x4 x5:Option D}{d:D}{r:Ev}:a0R 6 (x0 :: x1 :: x2 :: x3 :: x4 :: x5 :: some d :: r) M R=R d M:=propext ⟨fun zz=>by obtain⟨_,h,q⟩:=zz;cases h;exact q,fun q=>⟨_,rfl,q⟩⟩
theorem c3e{x0 x1 x2 x3 x4 x5:Option D}{y z:Option D}{r:Ev}:(x0 :: x1 :: x2 :: x3 :: x4 :: x5 :: y :: r:Ev).set 6 z=x0 :: x1 :: x2 :: x3 :: x4 :: x5 :: z :: r:=rfl
theorem c2T{x0 x1 x2 x3 x4 x5 x6:Option D}{d:D}{r:Ev}:a0R 7 (x0 :: x1 :: x2 :: x3 :: x4 :: x5 :: x6 :: some d :: r) M R=R d M:=propext ⟨fun zz=>by obtain⟨_,h,q⟩:=zz;cases h;exact q,fun q=>⟨_,rfl,q⟩⟩
theorem c3d{x0 x1 x2 x3 x4 x5 x6:Option D}{y z:Option D}{r:Ev}:(x0 :: x1 :: x2 :: x3 :: x4 :: x5 :: x6 :: y :: r:Ev).set 7 z=x0 :: x1 :: x2 :: x3 :: x4 :: x5 :: x6 :: z :: r:=rfl
theorem c2S{x0 x1 x2 x3 x4 x5 x6 x7:Option D}{d:D}{r:Ev}:a0R 8 (x0 :: x1 :: x2 :: x3 :: x4 :: x5 :: x6 :: x7 :: some d :: r) M R=R d M:=propext ⟨fun zz=>by obtain⟨_,h,q⟩:=zz;cases h;exact q,fun q=>⟨_,rfl,q⟩⟩
theorem c3c{x0 x1 x2 x3 x4 x5 x6 x7:Option D}{y z:Option D}{r:Ev}:(x0 :: x1 :: x2 :: x3 :: x4 :: x5 :: x6 :: x7 :: y :: r:Ev).set 8 z=x0 :: x1 :: x2 :: x3 :: x4 :: x5 :: x6 :: x7 :: z :: r:=rfl
theorem c2R{x0 x1 x2 x3 x4 x5 x6 x7 x8:Option D}{d:D}{r:Ev}:a0R 9 (x0 :: x1 :: x2 :: x3 :: x4 :: x5 :: x6 :: x7 :: x8 :: some d :: r) M R=R d M:=propext ⟨fun zz=>by obtain⟨_,h,q⟩:=zz;cases h;exact q,fun q=>⟨_,rfl,q⟩⟩
theorem c3b{x0 x1 x2 x3 x4 x5 x6 x7 x8:Option D}{y z:Option D}{r:Ev}:(x0 :: x1 :: x2 :: x3 :: x4 :: x5 :: x6 :: x7 :: x8 :: y :: r:Ev).set 9 z=x0 :: x1 :: x2 :: x3 :: x4 :: x5 :: x6 :: x7 :: x8 :: z :: r:=rfl
theorem b9C{x0 x1 x2 x3 x4 x5 x6 x7 x8 x9:Option D}{d:D}{r:Ev}:a0R 10 (x0 :: x1 :: x2 :: x3 :: x4 :: x5 :: x6 :: x7 :: x8 :: x9 :: some d :: r) M R=R d M:=propext ⟨fun zz=>by obtain⟨_,h,q⟩:=zz;cases h;exact q,fun q=>⟨_,rfl,q⟩⟩
theorem b9S{x0 x1 x2 x3 x4 x5 x6 x7 x8 x9:Option D}{y z:Option D}{r:Ev}:(x0 :: x1 :: x2 :: x3 :: x4 :: x5 :: x6 :: x7 :: x8 :: x9 :: y :: r:Ev).set 10 z=x0 :: x1 :: x2 :: x3 :: x4 :: x5 :: x6 :: x7 :: x8 :: x9 :: z :: r:=rfl
theorem b9B{x0 x1 x2 x3 x4 x5 x6 x7 x8 x9 x10:Option D}{d:D}{r:Ev}:a0R 11 (x0 :: x1 :: x2 :: x3 :: x4 :: x5 :: x6 :: x7 :: x8 :: x9 :: x10 :: some d :: r) M R=R d M:=propext ⟨fun zz=>by obtain⟨_,h,q⟩:=zz;cases h;exact q,fun q=>⟨_,rfl,q⟩⟩
theorem b9R{x0 x1 x2 x3 x4 x5 x6 x7 x8 x9 x10:Option D}{y z:Option D}{r:Ev}:(x0 :: x1 :: x2 :: x3 :: x4 :: x5 :: x6 :: x7 :: x8 :: x9 :: x10 :: y :: r:Ev).set 11 z=x0 :: x1 :: x2 :: x3 :: x4 :: x5 :: x6 :: x7 :: x8 :: x9 :: x10 :: z :: r:=rfl
theorem b9A{x0 x1 x2 x3 x4 x5 x6 x7 x8 x9 x10 x11:Option D}{d:D}{r:Ev}:a0R 12 (x0 :: x1 :: x2 :: x3 :: x4 :: x5 :: x6 :: x7 :: x8 :: x9 :: x10 :: x11 :: some d :: r) M R=R d M:=propext ⟨fun zz=>by obtain⟨_,h,q⟩:=zz;cases h;exact q,fun q=>⟨_,rfl,q⟩⟩
theorem b9Q{x0 x1 x2 x3 x4 x5 x6 x7 x8 x9 x10 x11:Option D}{y z:Option D}{r:Ev}:(x0 :: x1 :: x2 :: x3 :: x4 :: x5 :: x6 :: x7 :: x8 :: x9 :: x10 :: x11 :: y :: r:Ev).set 12 z=x0 :: x1 :: x2 :: x3 :: x4 :: x5 :: x6 :: x7 :: x8 :: x9 :: x10 :: x11 :: z :: r:=rfl
theorem b9z{x0 x1 x2 x3 x4 x5 x6 x7 x8 x9 x10 x11 x12:Option D}{d:D}{r:Ev}:a0R 13 (x0 :: x1 :: x2 :: x3 :: x4 :: x5 :: x6 :: x7 :: x8 :: x9 :: x10 :: x11 :: x12 :: some d :: r) M R=R d M:=propext ⟨fun zz=>by obtain⟨_,h,q⟩:=zz;cases h;exact q,fun q=>⟨_,rfl,q⟩⟩
theorem b9P{x0 x1 x2 x3 x4 x5 x6 x7 x8 x9 x10 x11 x12:Option D}{y z:Option D}{r:Ev}:(x0 :: x1 :: x2 :: x3 :: x4 :: x5 :: x6 :: x7 :: x8 :: x9 :: x10 :: x11 :: x12 :: y :: r:Ev).set 13 z=x0 :: x1 :: x2 :: x3 :: x4 :: x5 :: x6 :: x7 :: x8 :: x9 :: x10 :: x11 :: x12 :: z :: r:=rfl
theorem b9y{x0 x1 x2 x3 x4 x5 x6 x7 x8 x9 x10 x11 x12 x13:Option D}{d:D}{r:Ev}:a0R 14 (x0 :: x1 :: x2 :: x3 :: x4 :: x5 :: x6 :: x7 :: x8 :: x9 :: x10 :: x11 :: x12 :: x13 :: some d :: r) M R=R d M:=propext ⟨fun zz=>by obtain⟨_,h,q⟩:=zz;cases h;exact q,fun q=>⟨_,rfl,q⟩⟩
theorem b9O{x0 x1 x2 x3 x4 x5 x6 x7 x8 x9 x10 x11 x12 x13:Option D}{y z:Option D}{r:Ev}:(x0 :: x1 :: x2 :: x3 :: x4 :: x5 :: x6 :: x7 :: x8 :: x9 :: x10 :: x11 :: x12 :: x13 :: y :: r:Ev).set 14 z=x0 :: x1 :: x2 :: x3 :: x4 :: x5 :: x6 :: x7 :: x8 :: x9 :: x10 :: x11 :: x12 :: x13 :: z :: r:=rfl
theorem C0{M:Mem}{ds es:List D}:C1 M (.tup ds) es=(es=ds):=by
 apply propext
 constructor
 ·intro h
  rcases h with h|⟨_,h,_⟩|h
  ·injection h with h;exact h.symm
  ·exact absurd h (by intro z;cases z)
  ·exact absurd h (by intro z;cases z)
 ·intro h;exact .inl (by rw[h])
theorem o9{M:Mem}{ds es:List D}:C1 M (.vl ds) es=(es=ds):=by
 apply propext
 constructor
 ·intro h
  rcases h with h|⟨_,h,_⟩|h
  ·exact absurd h (by intro z;cases z)
  ·exact absurd h (by intro z;cases z)
  ·injection h with h;exact h.symm
 ·intro h;exact .inr (.inr (by rw[h]))
theorem y3{ds:List D}{n:Nat}{d:D}(h:ds[n]? = some d):atI ds (n:Int)=some d:=by
 obtain⟨hl,_⟩:=c8W.mp h
 unfold atI ixN
 rw[if_pos (d0p n),if_pos (by omega)]
 simpa using h
theorem b4x:c0B tr e M R=tr e M fun ds M1=>SzK ds.length (R (.vl ds) M1):=rfl
theorem b4C:c0E ta tb e M R=ta e M fun x M1=>tb e M1 fun y M2=>b2q x y M2 R:=rfl
theorem b9V{tl th:DTO}:c4A ta tl th e M R=ta e M fun x M1=>tl e M1 fun l M2=>th e M2 fun u M3=>b9e x l u M3 R:=rfl
theorem a8E{Q:Option Int→Mem→Prop}:b2z e M Q=Q none M:=rfl
theorem b4s{Q:Option Int→Mem→Prop}:c0y ta e M Q=ta e M fun x M1=>c0N x M1 Q:=rfl
theorem b1A{i:Int}{Q:Option Int→Mem→Prop}:c0N (.int i) M Q=Q (some i) M:=propext ⟨fun zz=>by obtain⟨_,h,r⟩:=zz;cases h;exact r,fun r=>⟨_,rfl,r⟩⟩
theorem b1C:b6J tr e M R=tr e M fun ds M1=>a7S ds M1 R:=rfl
theorem a8z{ds:List D}:a7S [.tup ds] M R=R (.vl ds) M:=propext ⟨fun zz=>by obtain⟨_,_,h,h2,r⟩:=zz;cases h;rw[C0]at h2;subst h2;exact r,fun r=>⟨_,_,rfl,.inl rfl,r⟩⟩
theorem a6i{ds:List D}:a7S [.vl ds] M R=R (.vl ds) M:=propext ⟨fun zz=>by obtain⟨_,_,h,h2,r⟩:=zz;cases h;rw[o9]at h2;subst h2;exact r,fun r=>⟨_,_,rfl,.inr (.inr rfl),r⟩⟩
theorem a8v{ds:List D}:c0n [.vl ds] M R=R (.tup ds) M:=propext ⟨fun zz=>by obtain⟨_,_,h,h2,r⟩:=zz;cases h;cases h2;exact r,fun r=>⟨_,_,rfl,rfl,r⟩⟩
theorem a8A{xs ys:List D}:b2q (.vl xs) (.vl ys) M R=SzK (xs.length+ys.length) (R (.vl (xs++ys)) M):=propext ⟨fun zz=>by obtain⟨_,_,h,h2,z,r⟩:=zz;cases h;cases h2;exact⟨z,r⟩,fun⟨z,r⟩=>⟨_,_,rfl,rfl,z,r⟩⟩
theorem b1p{xs:List D}{lo hi:Option Int}:b9e (.vl xs) lo hi M R=R (.vl (a1o xs lo hi)) M:=propext ⟨fun h=>by
 rcases h with⟨_,h,r⟩|⟨_,h,_⟩
 ·cases h;exact r
 ·exact(nomatch h),fun r=>.inl ⟨_,rfl,r⟩⟩
theorem b1o{xs:List D}{lo hi:Option Int}:b9e (.tup xs) lo hi M R=(¬ (HT.sIx xs.length 0 lo=0∧HT.sIx xs.length xs.length hi=xs.length)∧R (.tup (a1o xs lo hi)) M):=propext ⟨fun h=>by
 rcases h with⟨_,h,r⟩|⟨_,h,hw,r⟩
 ·cases h
 ·cases h;exact⟨hw,r⟩,fun⟨hw,r⟩=>.inr ⟨_,rfl,hw,r⟩⟩
theorem b4r:c0x ta e M R=ta e M fun x M1=>b2n x M1 R:=rfl
theorem a8x{ds:List D}:b2n (.vl ds) M R=R (.vl ds.reverse) M:=propext ⟨fun zz=>by obtain⟨_,h,r⟩:=zz;rw[o9]at h;subst h;exact r,fun r=>⟨_,.inr (.inr rfl),r⟩⟩
theorem a8y{ds:List D}:b2n (.tup ds) M R=R (.vl ds.reverse) M:=propext ⟨fun zz=>by obtain⟨_,h,r⟩:=zz;rw[C0]at h;subst h;exact r,fun r=>⟨_,.inl rfl,r⟩⟩
theorem b98:c4J ta e M R=ta e M fun x M1=>c4Z x M1 R:=rfl
theorem P7{p:Addr}{ds:List D}(h:M p=some (.lst ds)):c4Z (.ref p) M R=R (.vl ds) (a0Q M p):=propext ⟨fun zz=>by obtain⟨_,_,e,h',r⟩:=zz;cases e;rw[h]at h';cases h';exact r,fun r=>⟨_,_,rfl,h,r⟩⟩
theorem b1F{n:Nat}{caps:List Nat}{ti:DTI}{g:DTG}{tc:S3}{te:DTE}:b0S n caps ti g tc te e M R=ti e M fun ds stay M1=>c0P (a5z n caps e) g tc te ds stay M1 R:=rfl
theorem b1G{n:Nat}{caps:List Nat}{ti:DTI}{g:DTG}{tc:S3}{te:DTE}:b0T n caps ti g tc te e M R=ti e M fun ds stay M1=>c0Q (a5z n caps e) g tc te ds stay M1 R:=rfl
theorem b9T{Q:Bool→Mem→Prop}:b9o e M Q=Q true M:=rfl
section
variable {Q:List D→(Mem→Prop)→Mem→Prop}
theorem b1t:c0s ta e M Q=ta e M fun x M1=>c2I x M1 Q:=rfl
theorem b4p{ds:List D}:c2I (.tup ds) M Q=Q ds (fun M'=>C1 M' (.tup ds) ds) M:=propext ⟨fun zz=>by obtain⟨_,h,r⟩:=zz;rw[C0]at h;subst h;exact r,fun r=>⟨_,.inl rfl,r⟩⟩
theorem b4o{ds:List D}:c2I (.vl ds) M Q=Q ds (fun M'=>C1 M' (.vl ds) ds) M:=propext ⟨fun zz=>by obtain⟨_,h,r⟩:=zz;rw[o9]at h;subst h;exact r,fun r=>⟨_,.inr (.inr rfl),r⟩⟩
theorem a8C:b6C tr e M Q=tr e M fun xs M1=>b7g xs M1 Q:=rfl
theorem b1E{ds:List D}:b7g [.tup ds] M Q=Q (S1 ds) (fun M'=>C1 M' (.tup ds) ds) M:=propext ⟨fun zz=>by obtain⟨_,_,h,h2,r⟩:=zz;cases h;rw[C0]at h2;subst h2;exact r,fun r=>⟨_,_,rfl,.inl rfl,r⟩⟩
theorem b1D{ds:List D}:b7g [.vl ds] M Q=Q (S1 ds) (fun M'=>C1 M' (.vl ds) ds) M:=propext ⟨fun zz=>by obtain⟨_,_,h,h2,r⟩:=zz;cases h;rw[o9]at h2;subst h2;exact r,fun r=>⟨_,_,rfl,.inr (.inr rfl),r⟩⟩
theorem b1s:c0r tr e M Q=tr e M fun xs M1=>b7b xs M1 Q:=rfl
theorem b1y{ds es:List D}:b7b [.tup ds,.tup es] M Q=Q (Y1 ds es) (fun M'=>C1 M' (.tup ds) ds∧C1 M' (.tup es) es) M:=propext ⟨fun zz=>by obtain⟨_,_,_,_,h,h2,h3,r⟩:=zz;cases h;rw[C0]at h2 h3;subst h2;subst h3;exact r,fun r=>⟨_,_,_,_,rfl,.inl rfl,.inl rfl,r⟩⟩
theorem b1v{ds es:List D}:b7b [.vl ds,.vl es] M Q=Q (Y1 ds es) (fun M'=>C1 M' (.vl ds) ds∧C1 M' (.vl es) es) M:=propext ⟨fun zz=>by obtain⟨_,_,_,_,h,h2,h3,r⟩:=zz;cases h;rw[o9]at h2 h3;subst h2;subst h3;exact r,fun r=>⟨_,_,_,_,rfl,.inr (.inr rfl),.inr (.inr rfl),r⟩⟩
theorem b1x{ds es:List D}:b7b [.tup ds,.vl es] M Q=Q (Y1 ds es) (fun M'=>C1 M' (.tup ds) ds∧C1 M' (.vl es) es) M:=propext ⟨fun zz=>by obtain⟨_,_,_,_,h,h2,h3,r⟩:=zz;cases h;rw[C0]at h2;rw[o9]at h3;subst h2;subst h3;exact r,fun r=>⟨_,_,_,_,rfl,.inl rfl,.inr (.inr rfl),r⟩⟩
theorem b1w{ds es:List D}:b7b [.vl ds,.tup es] M Q=Q (Y1 ds es) (fun M'=>C1 M' (.vl ds) ds∧C1 M' (.tup es) es) M:=propext ⟨fun zz=>by obtain⟨_,_,_,_,h,h2,h3,r⟩:=zz;cases h;rw[o9]at h2;rw[C0]at h3;subst h2;subst h3;exact r,fun r=>⟨_,_,_,_,rfl,.inr (.inr rfl),.inl rfl,r⟩⟩
theorem b1u:c0t tr e M Q=tr e M fun xs M1=>c4V xs M1 Q:=rfl
theorem b4q{j:Int}:c4V [.int j] M Q=((-(2 ^ 62)≤j∧j<2 ^ 62)∧Q (W1 0 j.toNat) (fun _=>True) M):=propext ⟨fun zz=>by obtain⟨_,h,a,b,r⟩:=zz;cases h;exact⟨⟨a,b⟩,r⟩,fun⟨⟨a,b⟩,r⟩=>⟨_,rfl,a,b,r⟩⟩
theorem a8D:b6D tr e M Q=tr e M fun ds M1=>b7j ds M1 Q:=rfl
theorem b1H{xs:List D}:b7j [.vl xs] M Q=Q xs.reverse (fun _=>True) M:=propext ⟨fun zz=>by obtain⟨_,h,r⟩:=zz;cases h;exact r,fun r=>⟨_,rfl,r⟩⟩
theorem a8B:b6B tr e M Q=tr e M fun xs M1=>c0M xs M1 Q:=rfl
theorem b1z{j:Int}:c0M [.int j] M Q=((0≤j∧j<2 ^ 62)∧Q (a0Y (j - 1) j.toNat) (fun _=>True) M):=propext ⟨fun zz=>by obtain⟨_,h,a,b,r⟩:=zz;cases h;exact⟨⟨a,b⟩,r⟩,fun zz=>⟨j,rfl,zz.1.1,zz.1.2,zz.2⟩⟩
end
theorem b99{ti:DTI}{g:DTG}:c4K ti g t F e M=ti e M fun ds stay M1=>O5 g t F ds stay e M1:=rfl
theorem O5.by{g:DTG}{ds:List D}{stay:Mem→Prop}{M1:Mem}(W:Nat→Ev→Mem→Prop)(w0:W 0 e M1)(st:∀ i e M,i≤ds.length→W i e M→stay M)
  (turn:∀(i:Nat) (d:D) e M,ds[i]? = some d→W i e M→g d e M fun e2 M2=>t { F with nx:=W (i+1),ct:=W (i+1),bk:=F.nx } e2 M2) (done:∀ e M,W ds.length e M→F.nx e M):O5 g t F ds stay e M1:=⟨W,w0,st,turn,done⟩
theorem b9u{F:a2b}(W:Nat→Ev→Mem→Prop)(m:Nat)(w0:W m e M)(turn:∀ m e M,W m e M→tA e M fun b M1=>IfK b (t { F with nx:=fun e' M'=>∃ m',m'<m∧W m' e' M',ct:=fun e' M'=>∃ m',m'<m∧W m' e' M',bk:=F.nx } e M1) (F.nx e M1)):b6H tA t F e M:=⟨W,⟨m,w0⟩,turn⟩
theorem a1q{F:a2b}(P:Ev→Mem→Prop)(h1:t { F with nx:=P } e M)(h2:∀ e' M',P e' M'→u F e' M'):c0w t u F e M:=⟨P,h1,h2⟩
theorem c3t{g:DRM}:dLM g ta tr e M R=ta e M fun x M1=>LMK x M1 (tr e M1 fun xs M2=>g x xs M2 R):=rfl
theorem a3G{x0:D}{r:List D}:gIx (.tup (x0 :: r)) (.int 0) M R=R x0 M:=a0O (y3 (n:=0) rfl)
theorem b4f{x0:D}{r:List D}:gIx (.vl (x0 :: r)) (.int 0) M R=R x0 M:=a0O (y3 (n:=0) rfl)
theorem a3F{x0 x1:D}{r:List D}:gIx (.tup (x0 :: x1 :: r)) (.int 1) M R=R x1 M:=a0O (y3 (n:=1) rfl)
theorem b4e{x0 x1:D}{r:List D}:gIx (.vl (x0 :: x1 :: r)) (.int 1) M R=R x1 M:=a0O (y3 (n:=1) rfl)
theorem a9S{x0 x1 x2:D}{r:List D}:gIx (.tup (x0 :: x1 :: x2 :: r)) (.int 2) M R=R x2 M:=a0O (y3 (n:=2) rfl)
theorem b4d{x0 x1 x2:D}{r:List D}:gIx (.vl (x0 :: x1 :: x2 :: r)) (.int 2) M R=R x2 M:=a0O (y3 (n:=2) rfl)
theorem b4k{x0 x1 x2 x3:D}{r:List D}:gIx (.tup (x0 :: x1 :: x2 :: x3 :: r)) (.int 3) M R=R x3 M:=a0O (y3 (n:=3) rfl)
theorem b4c{x0 x1 x2 x3:D}{r:List D}:gIx (.vl (x0 :: x1 :: x2 :: x3 :: r)) (.int 3) M R=R x3 M:=a0O (y3 (n:=3) rfl)
theorem b4j{x0 x1 x2 x3 x4:D}{r:List D}:gIx (.tup (x0 :: x1 :: x2 :: x3 :: x4 :: r)) (.int 4) M R=R x4 M:=a0O (y3 (n:=4) rfl)
theorem b4b{x0 x1 x2 x3 x4:D}{r:List D}:gIx (.vl (x0 :: x1 :: x2 :: x3 :: x4 :: r)) (.int 4) M R=R x4 M:=a0O (y3 (n:=4) rfl)
theorem b4i{x0 x1 x2 x3 x4 x5:D}{r:List D}:gIx (.tup (x0 :: x1 :: x2 :: x3 :: x4 :: x5 :: r)) (.int 5) M R=R x5 M:=a0O (y3 (n:=5) rfl)
theorem b4a{x0 x1 x2 x3 x4 x5:D}{r:List D}:gIx (.vl (x0 :: x1 :: x2 :: x3 :: x4 :: x5 :: r)) (.int 5) M R=R x5 M:=a0O (y3 (n:=5) rfl)
theorem b4h{x0 x1 x2 x3 x4 x5 x6:D}{r:List D}:gIx (.tup (x0 :: x1 :: x2 :: x3 :: x4 :: x5 :: x6 :: r)) (.int 6) M R=R x6 M:=a0O (y3 (n:=6) rfl)
theorem b3Z{x0 x1 x2 x3 x4 x5 x6:D}{r:List D}:gIx (.vl (x0 :: x1 :: x2 :: x3 :: x4 :: x5 :: x6 :: r)) (.int 6) M R=R x6 M:=a0O (y3 (n:=6) rfl)
theorem b4g{x0 x1 x2 x3 x4 x5 x6 x7:D}{r:List D}:gIx (.tup (x0 :: x1 :: x2 :: x3 :: x4 :: x5 :: x6 :: x7 :: r)) (.int 7) M R=R x7 M:=a0O (y3 (n:=7) rfl)
theorem b3Y{x0 x1 x2 x3 x4 x5 x6 x7:D}{r:List D}:gIx (.vl (x0 :: x1 :: x2 :: x3 :: x4 :: x5 :: x6 :: x7 :: r)) (.int 7) M R=R x7 M:=a0O (y3 (n:=7) rfl)
theorem b9M{A:Prop}:SzK (0) A=A:=E8 (by decide)
theorem b9L{A:Prop}:SzK (0+1) A=A:=E8 (by decide)
theorem b9K{A:Prop}:SzK (0+1+1) A=A:=E8 (by decide)
theorem b9J{A:Prop}:SzK (0+1+1+1) A=A:=E8 (by decide)
theorem b9I{A:Prop}:SzK (0+1+1+1+1) A=A:=E8 (by decide)
theorem b9H{A:Prop}:SzK (0+1+1+1+1+1) A=A:=E8 (by decide)
theorem b9G{A:Prop}:SzK (0+1+1+1+1+1+1) A=A:=E8 (by decide)
theorem b9F{A:Prop}:SzK (0+1+1+1+1+1+1+1) A=A:=E8 (by decide)
theorem b9E{A:Prop}:SzK (0+1+1+1+1+1+1+1+1) A=A:=E8 (by decide)
theorem b9D{A:Prop}:SzK (0+1+1+1+1+1+1+1+1+1) A=A:=E8 (by decide)
theorem b7W{i:Int}:cl 60 (.int i)=true:=rfl
theorem b7Q:cl 60 .non=true:=rfl
theorem b7G{ds:List D}:cl 60 (.tup ds)=clL 59 ds:=rfl
theorem b7A{ds:List D}:cl 60 (.vl ds)=clL 59 ds:=rfl
theorem b7o:clL 59 []=true:=rfl
theorem b7u{d:D}{r:List D}:clL 59 (d :: r)=(cl 59 d && clL 59 r):=rfl
theorem b7X{i:Int}:cl 59 (.int i)=true:=rfl
theorem b7R:cl 59 .non=true:=rfl
theorem b7H{ds:List D}:cl 59 (.tup ds)=clL 58 ds:=rfl
theorem b7B{ds:List D}:cl 59 (.vl ds)=clL 58 ds:=rfl
theorem b7p:clL 58 []=true:=rfl
theorem b7v{d:D}{r:List D}:clL 58 (d :: r)=(cl 58 d && clL 58 r):=rfl
theorem b7Y{i:Int}:cl 58 (.int i)=true:=rfl
theorem b7S:cl 58 .non=true:=rfl
theorem b7I{ds:List D}:cl 58 (.tup ds)=clL 57 ds:=rfl
theorem b7C{ds:List D}:cl 58 (.vl ds)=clL 57 ds:=rfl
theorem b7q:clL 57 []=true:=rfl
theorem b7w{d:D}{r:List D}:clL 57 (d :: r)=(cl 57 d && clL 57 r):=rfl
theorem b7Z{i:Int}:cl 57 (.int i)=true:=rfl
theorem b7T:cl 57 .non=true:=rfl
theorem b7J{ds:List D}:cl 57 (.tup ds)=clL 56 ds:=rfl
theorem b7D{ds:List D}:cl 57 (.vl ds)=clL 56 ds:=rfl
theorem b7r:clL 56 []=true:=rfl
theorem b7x{d:D}{r:List D}:clL 56 (d :: r)=(cl 56 d && clL 56 r):=rfl
theorem b77{i:Int}:cl 56 (.int i)=true:=rfl
theorem b7U:cl 56 .non=true:=rfl
theorem b7K{ds:List D}:cl 56 (.tup ds)=clL 55 ds:=rfl
theorem b7E{ds:List D}:cl 56 (.vl ds)=clL 55 ds:=rfl
theorem b7s:clL 55 []=true:=rfl
theorem b7y{d:D}{r:List D}:clL 55 (d :: r)=(cl 55 d && clL 55 r):=rfl
theorem b78{i:Int}:cl 55 (.int i)=true:=rfl
theorem b7V:cl 55 .non=true:=rfl
theorem b7L{ds:List D}:cl 55 (.tup ds)=clL 54 ds:=rfl
theorem b7F{ds:List D}:cl 55 (.vl ds)=clL 54 ds:=rfl
theorem b7t:clL 54 []=true:=rfl
theorem b7z{d:D}{r:List D}:clL 54 (d :: r)=(cl 54 d && clL 54 r):=rfl
theorem b4y{xs:List D}:b3t [.vl xs] M R=R (.int (xs.length:Int)) M:=a8F rfl
theorem b4z{xs:List D}:b3t [.tup xs] M R=R (.int (xs.length:Int)) M:=a8F rfl
theorem c02{A:Prop}:SzK 1 A=A:=E8 (by decide)
theorem c01{A:Prop}:SzK 2 A=A:=E8 (by decide)
theorem c00{A:Prop}:SzK 3 A=A:=E8 (by decide)
theorem c0Z{A:Prop}:SzK 4 A=A:=E8 (by decide)
theorem c0Y{A:Prop}:SzK 5 A=A:=E8 (by decide)
theorem c0X{A:Prop}:SzK 6 A=A:=E8 (by decide)
theorem c0W{A:Prop}:SzK 7 A=A:=E8 (by decide)
theorem c0V{A:Prop}:SzK 8 A=A:=E8 (by decide)
theorem c0U{A:Prop}:SzK 9 A=A:=E8 (by decide)
theorem b7n{A:Prop}:SzK 10 A=A:=E8 (by decide)
theorem b7m{A:Prop}:SzK 11 A=A:=E8 (by decide)
theorem b7l{A:Prop}:SzK 12 A=A:=E8 (by decide)
theorem b4F{bs:List Bool}:c4u [.vl (bs.map D.bl)] M R=R (.bl (bs.all id)) M:=propext ⟨fun zz=>by
 obtain⟨_,bs',e,h,r⟩:=zz
 cases e
 have e2:bs.map D.bl=bs'.map D.bl:=Option.some.inj h
 have e3:bs=bs':=(d0C (fun a b z=>by injection z)).mp e2
 subst e3;exact r,fun r=>⟨_,bs,rfl,rfl,r⟩⟩
theorem a2J:D3 [.dic,.ty "tuple"] M R=R (.bl false) M:=v9 rfl rfl
theorem a3R:D3 [.dic,.ty "list"] M R=R (.bl false) M:=v9 rfl rfl
theorem a6f:D3 [.dic,.ty "int"] M R=R (.bl false) M:=v9 rfl rfl
theorem a3S:D3 [.dic,.ty "bool"] M R=R (.bl false) M:=v9 rfl rfl
theorem a6e:D3 [.dic,.ty "str"] M R=R (.bl false) M:=v9 rfl rfl
theorem a2F{ds:List D}:D3 [.tup ds,.ty "tuple"] M R=R (.bl true) M:=v9 rfl rfl
theorem a3J{ds:List D}:D3 [.tup ds,.ty "list"] M R=R (.bl false) M:=v9 rfl rfl
theorem a57{ds:List D}:D3 [.tup ds,.ty "int"] M R=R (.bl false) M:=v9 rfl rfl
theorem a3K{ds:List D}:D3 [.tup ds,.ty "bool"] M R=R (.bl false) M:=v9 rfl rfl
theorem a56{ds:List D}:D3 [.tup ds,.ty "str"] M R=R (.bl false) M:=v9 rfl rfl
theorem a2E{ds:List D}:D3 [.vl ds,.ty "tuple"] M R=R (.bl false) M:=v9 rfl rfl
theorem a3H{ds:List D}:D3 [.vl ds,.ty "list"] M R=R (.bl true) M:=v9 rfl rfl
theorem a55{ds:List D}:D3 [.vl ds,.ty "int"] M R=R (.bl false) M:=v9 rfl rfl
theorem a3I{ds:List D}:D3 [.vl ds,.ty "bool"] M R=R (.bl false) M:=v9 rfl rfl
theorem a54{ds:List D}:D3 [.vl ds,.ty "str"] M R=R (.bl false) M:=v9 rfl rfl
theorem a2I{i:Int}:D3 [.int i,.ty "tuple"] M R=R (.bl false) M:=v9 rfl rfl
theorem a3P{i:Int}:D3 [.int i,.ty "list"] M R=R (.bl false) M:=v9 rfl rfl
theorem a6d{i:Int}:D3 [.int i,.ty "int"] M R=R (.bl true) M:=v9 rfl rfl
theorem a3Q{i:Int}:D3 [.int i,.ty "bool"] M R=R (.bl false) M:=v9 rfl rfl
theorem a6c{i:Int}:D3 [.int i,.ty "str"] M R=R (.bl false) M:=v9 rfl rfl
theorem a2H:D3 [.non,.ty "tuple"] M R=R (.bl false) M:=v9 rfl rfl
theorem a3N:D3 [.non,.ty "list"] M R=R (.bl false) M:=v9 rfl rfl
theorem a6b:D3 [.non,.ty "int"] M R=R (.bl false) M:=v9 rfl rfl
theorem a3O:D3 [.non,.ty "bool"] M R=R (.bl false) M:=v9 rfl rfl
theorem a6a:D3 [.non,.ty "str"] M R=R (.bl false) M:=v9 rfl rfl
theorem a2G{x:Str}:D3 [.str x,.ty "tuple"] M R=R (.bl false) M:=v9 rfl rfl
theorem a3L{x:Str}:D3 [.str x,.ty "list"] M R=R (.bl false) M:=v9 rfl rfl
theorem a59{x:Str}:D3 [.str x,.ty "int"] M R=R (.bl false) M:=v9 rfl rfl
theorem a3M{x:Str}:D3 [.str x,.ty "bool"] M R=R (.bl false) M:=v9 rfl rfl
theorem a58{x:Str}:D3 [.str x,.ty "str"] M R=R (.bl true) M:=v9 rfl rfl
theorem a2K{b:Bool}:D3 [.bl b,.ty "tuple"] M R=R (.bl false) M:=v9 rfl rfl
theorem a3T{b:Bool}:D3 [.bl b,.ty "list"] M R=R (.bl false) M:=v9 rfl rfl
theorem a6h{b:Bool}:D3 [.bl b,.ty "int"] M R=R (.bl true) M:=v9 rfl rfl
theorem a3U{b:Bool}:D3 [.bl b,.ty "bool"] M R=R (.bl true) M:=v9 rfl rfl
theorem a6g{b:Bool}:D3 [.bl b,.ty "str"] M R=R (.bl false) M:=v9 rfl rfl
theorem c0a:c4L ta e M R=ta e M fun x M1=>c5a x M1 R:=rfl
theorem J8{l:Addr}{ds:List D}{A:Prop}(h:M l=some (.lst ds))(a:A):LMK (.ref l) M A:=⟨⟨l,ds,rfl,h⟩,a⟩
theorem O6{l:Addr}{ds:List D}{v:D}(h:M l=some (.lst ds))(hz:ds.length<1000)(r:R .non (B9 M l (.lst (ds++[v])))):b2r (.ref l) [v] M R:=⟨l,ds,v,rfl,rfl,h,c80 hz (by decide),r⟩
theorem c2M{l:Addr}{ds:List D}{k:Nat}{v:D}(h:M l=some (.lst ds))(hk:k≤ds.length)(hz:ds.length<1000)(r:R .non (B9 M l (.lst (ds.take k++v :: ds.drop k)))):b2o (.ref l) [.int (k:Int),v] M R:=⟨l,ds,v,k,rfl,rfl,h,hk,c80 hz (by decide),r⟩
theorem c2O{l b:Addr}{ds es:List D}(h:M l=some (.lst ds))(hb:M b=some (.lst es))(hz:ds.length+es.length≤1000)(r:R .non (B9 M l (.lst (ds++es)))):b2p (.ref l) [.ref b] M R:=⟨l,b,ds,es,rfl,rfl,h,hb,c85 hz (by decide),r⟩
theorem J9{x:D}{M1 M2:Mem}(h:∀ b o,M2 b=some o→M1 b=some o)(r:R x M2):c5a x M1 R:=⟨M2,h,r⟩
end
end DL
namespace DL
open PySem PySem.Spec L2
open PyProof.Rows hiding St
theorem a0S{p:Str→Prop}:∀ x∈([]:List Str),p x:=fun _ h=>nomatch h
section
variable {e0:Ev} {g:DTG} {te:DTE} {tc:S3} {ds:List D} {stay:Mem→Prop} {M1:Mem} {E:List D→Mem→Prop}
theorem A6{α:Type}{xs:List α}{enc:α→D}(f:α→D)(hn:xs.length≤1000)(hst:stay M1)(step:∀ x∈xs,∀ Q:DK,Q (f x) M1→g (enc x) e0 M1 fun e2 M2=>te e2 M2 Q)(h:E (xs.map f) M1):∃ W,a4R e0 g b9o te (xs.map enc) stay M1 E W:=by
 refine⟨fun i ys M=>M=M1∧ys=(xs.take i).map f,⟨⟨rfl,rfl⟩,fun i ys M _ w=>by rw[w.1];exact hst,fun i d ys M hd w=>?_,fun ys M w=>?_⟩⟩
 ·obtain⟨rfl,rfl⟩:=w
  rw[c83]at hd
  cases hx:xs[i]? with
  | none=>rw[hx]at hd;cases hd
  | some x =>
   rw[hx]at hd
   obtain rfl:enc x=d:=by simpa using hd
   refine step x (c81 hx) _ ⟨?_,rfl,?_⟩
   ·rw[c8Y,c9W]
    exact c9e (c85 (d1o _ _) hn) (by decide)
   ·obtain⟨hl,he⟩:=c8W.mp hx
    rw[c94 hl,c9f,he];rfl
 ·obtain⟨rfl,rfl⟩:=w
  rw[c8Y,c9k];exact h
theorem X1{α:Type}{xs:List α}{enc:α→D}(p:α→Bool)(f:α→D)(hn:xs.length≤1000)(hst:stay M1)
  (step:∀ x∈xs,∀(Q:DK) (N:Prop),(p x=true→Q (f x) M1)→(p x=false→N)→g (enc x) e0 M1 fun e2 M2=>tc e2 M2 fun b M3=>IfK b (te e2 M3 Q) (M3=M1∧N)) (h:E ((xs.filter p).map f) M1):∃ W,a4R e0 g tc te (xs.map enc) stay M1 E W:=by
 refine⟨fun i ys M=>M=M1∧ys=((xs.take i).filter p).map f,⟨⟨rfl,rfl⟩,fun i ys M _ w=>by rw[w.1];exact hst,fun i d ys M hd w=>?_,fun ys M w=>?_⟩⟩
 ·obtain⟨rfl,rfl⟩:=w
  rw[c83]at hd
  cases hx:xs[i]? with
  | none=>rw[hx]at hd;cases hd
  | some x =>
   rw[hx]at hd
   obtain rfl:enc x=d:=by simpa using hd
   obtain⟨hl,he⟩:=c8W.mp hx
   have hle:(((xs.take i).filter p).map f).length<sizeLine:=by
    rw[c8Y]
    have h1:=d0q p (xs.take i)
    rw[c9W]at h1
    exact c9e (c85 h1 (c85 (d1o _ _) hn)) (by decide)
   have hs:=step x (c81 hx) (fun v M4=>(((xs.take i).filter p).map f).length<sizeLine∧M4=M∧((xs.take i).filter p).map f++[v]=((xs.take (i+1)).filter p).map f) (((xs.take i).filter p).map f=((xs.take (i+1)).filter p).map f)
    (fun hp=>⟨hle,rfl,by rw[c94 hl,c9J,c9f,he];simp[hp]⟩)
    (fun hp=>by rw[c94 hl,c9J,c9f,he];simp[hp])
   exact hs
 ·obtain⟨rfl,rfl⟩:=w
  rw[c8Y,c9k];exact h
end
section
variable {X:Cx} {pos:Pos}
theorem jc{x:Str}{j k:Nat}{ps:List Str}{sp:DSp}{p:Pos}{e:Expr}{es:List Expr}{t:DTA}(G:Fn X.prog X.w X.K X.mg X.base x j ps sp)(hr:L6 k X.A)(ha:JA X (e :: es) t)(hk:j≤k:=by decide)(hg:Gl X x:=by rfl)
  (hdb:(x == ("__debug__" : Str))=false:=by decide) (he:starEach (e :: es) X.env=(false,eval e X.env) :: starEach es X.env:=by rfl) (hpl:(backTo pos (starEach es X.env)).any (·.1)=false:=by rfl):JE X (.Call (.Name x p) (e :: es) [] pos) (b2A sp [] Y0 t):=b6g G (hr.mono hk) hg ha hdb he hpl
theorem jx{a b:Expr}{ta tb:DTE}(ha:JE X a ta)(hb:JE X b tb)(hs:a74 b:=by exact fun _ _=>rfl):JE X (.Subscript a b pos) (dOp gIx ta tb):=c4i c4l ha hb hs
theorem jst(i:Nat){x:Str}{e:Expr}{tx:DTE}{q:Pos}(hN:X.N.Nodup)(he:JE X e tx)(hi:X.N[i]? = some x:=by rfl)(hx:Loc X.env.scope x:=by first|exact .inl rfl|exact .inr rfl)(hs:swapsWith e (some (.Name x q)) pos.line X.env=pure false:=by rfl)
  (hf:X.fn x=true∨X.env.scope.names.lookup x=some .local:=by first|exact .inl rfl|exact .inr rfl|assumption):JS X (.Assign [.Name x q] e pos) (b3z tx (a1n i)):=b83 hN hi hx he hs hf
theorem jn(i:Nat){x:Str}(hN:X.N.Nodup)(hi:X.N[i]? = some x:=by rfl)(hx:Loc X.env.scope x:=by first|exact .inl rfl|exact .inr rfl)(hf:X.fn x=true∨X.env.scope.names.lookup x=some .local:=by first|exact .inl rfl|exact .inr rfl|assumption):JG X (.Name x pos) (a1n i):=b6e hN hi hx hf
theorem jm{op:CmpOp}{g:DR2}{a b:Expr}{ta tb:DTE}(ho:DOp X (compareOp op) g)(ha:JE X a ta)(hb:JE X b tb)(hm:behindInMarks op b=false:=by first|exact b5R _|with_unfolding_all rfl):JE X (.Compare a [op] [b] pos) (dOp g ta tb):=c2h ho ha hb hm
theorem jtm{op:CmpOp}{g:DR2}{a b:Expr}{ta tb:DTE}(ho:DOp X (compareOp op) g)(ha:JE X a ta)(hb:JE X b tb)(hm:behindInMarks op b=false:=by first|exact b5R _|with_unfolding_all rfl):JT X (.Compare a [op] [b] pos) (b2y (dOp g ta tb)):=b84 ho ha hb hm
end
end DL
namespace GM
open PySem PySem.Spec L2 DL
open PyProof.Rows hiding St
noncomputable def d9(q:Rat):D:=.tup [.int q.num,.int (q.den:Int)]
theorem G5{q r:Rat}(h:d9 q=d9 r):q=r:=by
 unfold d9 at h
 injection h with h
 injection h with h1 h2
 injection h1 with h1
 injection h2 with h2 _
 injection h2 with h2
 exact Rat.ext h1 (by omega)
theorem j7{q r:Rat}:d9 q=d9 r↔q=r:=⟨G5,fun h=>by rw[h]⟩
structure C5(M:Mem)(p:Addr):Prop where
 ex:∃ x y z:Int,M p=some (.lst [.int x,.int y,.int z])
noncomputable def MK(M M':Mem):Prop:=∀ b o,M b=some o→M' b=some o
theorem MK.refl(M:Mem):MK M M:=fun _ _ h=>h
theorem MK.trans{M M1 M2:Mem}(a:MK M M1)(b:MK M1 M2):MK M M2:=fun c o h=>b c o (a c o h)
theorem MK.new{M:Mem}{p:Addr}{o:MO}(h:M p=none):MK M (B9 M p o):=fun b u e=>by
 have:b≠p:=by intro z;subst z;rw[h]at e;cases e
 rw[A0 this];exact e
theorem MK.pool{M M':Mem}(k:MK M M'){p:Addr}(h:C5 M p):C5 M' p:=let ⟨x,y,z,e⟩:=h.ex;⟨x,y,z,k _ _ e⟩
structure u3(p:Addr)(M M':Mem):Prop where
 keep:∀ b o,b≠p→M b=some o→M' b=some o
 pool:C5 M' p
theorem u3.refl{p:Addr}{M:Mem}(h:C5 M p):u3 p M M:=⟨fun _ _ _ h=>h,h⟩
theorem u3.trans{p:Addr}{M M1 M2:Mem}(a:u3 p M M1)(b:u3 p M1 M2):u3 p M M2:=⟨fun c o n h=>b.keep c o n (a.keep c o n h),b.pool⟩
theorem u3.upd{p:Addr}{M:Mem}(x y z:Int):u3 p M (B9 M p (.lst [.int x,.int y,.int z])):=⟨fun b o n h=>by rw[A0 n];exact h,⟨x,y,z,h8⟩⟩
theorem C5.ne{M:Mem}{p l:Addr}(h:C5 M p)(hl:M l=none):l≠p:=by
 intro e;subst e;obtain⟨x,y,z,q⟩:=h.ex;rw[hl]at q;cases q
noncomputable def a93:DSp:=fun ds M R _=>∃ c:Int,ds=[.int c]∧∀ p M',M p=none→MK M M'→C5 M' p→R (.ref p) M'
noncomputable def N2:DSp:=fun ds M R _=>∃(p:Addr) (b:Int),ds=[.ref p,.int b]∧C5 M p∧0<b∧b.natAbs.log2<9000∧∀(r:Int) M',0≤r→r<b→u3 p M M'→R (.int r) M'
noncomputable def X6:DSp:=fun ds M R _=>∃ a b:Int,ds=[.int a,.int b]∧b≠0∧b.natAbs.log2<9000∧R (d9 (c9x a b)) M
noncomputable def a2L:DSp:=fun ds M R _=>∃ n:Nat,ds=[.int n]∧n.log2<4000∧∀ s:Nat,s*s≤n→n<(s+1)*(s+1)→R (.int s) M
noncomputable def b7e(q:Rat)(v:D):Prop:=(∃ r:Rat,0≤r∧r*r=q∧v=d9 r)∨((∀ r:Rat,r*r≠q)∧v = .non)
noncomputable def a92:DSp:=fun ds M R _=>∃ q:Rat,ds=[d9 q]∧RM.sz q≤4000∧∀ v,b7e q v→R v M
theorem c2A:a9R 10 18:=⟨by decide,by decide,by decide⟩
theorem cp6:a9R 10 6:=⟨by decide,by decide,by decide⟩
theorem a9o{a b:Int}(h1:-(2 ^ 64)<a)(h2:a<2 ^ 64):IntMulOk a b:=.of_left (intBits_le_64 h1 h2)
theorem c4e{a b:Int}(h1:-(2 ^ 64)<b)(h2:b<2 ^ 64):IntMulOk a b:=.of_right (intBits_le_64 h1 h2)
theorem c5B{x m k b:Int}(hm:0<m)(hm2:m<2 ^ 60)(hk:0≤k)(hk2:k<2 ^ 60):IntMulOk (x % m+k) b:=by
 have h1:=d0Y x (show m≠0 by omega)
 have h2:=d0D x hm
 exact a9o (by omega) (by omega)
theorem c4d{x m b:Int}(hm:0<m)(hm2:m<2 ^ 60):IntMulOk (x % m) b:=by
 have h1:=d0Y x (show m≠0 by omega)
 have h2:=d0D x hm
 exact a9o (by omega) (by omega)
theorem c5N{i:Int}:CFd i 8:=⟨by decide,by decide⟩
theorem b9q{i:Int}:CFd i 2:=⟨by decide,by decide⟩
theorem K2{a b:Int}(ha:0≤a)(hb:0≤b):a.fdiv b=a / b:=Int.fdiv_eq_ediv_of_nonneg a hb
theorem b9d{a b:Int}(hb:b≠0)(h:b.natAbs.log2<9000):((c9z a.natAbs b.natAbs:Nat):Int).natAbs.log2<9000:=by
 have hp:0<b.natAbs:=d1H.mpr hb
 have hle:c9z a.natAbs b.natAbs≤b.natAbs:=d1q _ hp
 have h1:b.natAbs<2 ^ 9000:=(d1f (by omega)).mp h
 rw[c8V]
 exact F0 (c9e hle h1) (by decide)
theorem b6p{a b:Int}(hb:b≠0):((c9z a.natAbs b.natAbs:Nat):Int)≠0:=by
 have hp:0<b.natAbs:=d1H.mpr hb
 have:=d0j a.natAbs hp
 omega
theorem a3o{a b s:Int}(hb:b≠0)(hs:s=if b<0 then -((c9z a.natAbs b.natAbs:Nat):Int)else((c9z a.natAbs b.natAbs:Nat):Int)){M:Mem}{R:DK}(k:R (d9 (c9x a b)) M) :
  R (.tup [.int (a.fdiv s),.int (b.fdiv s)]) M:=by
 obtain⟨h1,h2⟩:=RM.c1X a b hb s hs
 rw[h1,h2];exact k
theorem c1W{a b:Int}{n:Nat}(hn:0<n)(h1:a.natAbs<2 ^ n)(h2:b.natAbs<2 ^ n)(hb:b≠0):RM.sz (c9x a b)≤n :=
 c85 (RM.M6 a b hb) (d0S.mpr ⟨RM.a0l h1 hn,RM.a0l h2 hn⟩)
end GM
namespace GM
open PySem PySem.Spec L2 DL
open PyProof.Rows hiding St
theorem c1V{n g:Nat}(hg:0<g):n<((g+n / g) / 2+1)*((g+n / g) / 2+1):=by
 have h1:n<g*(n / g+1):=by
  have:=Nat.lt_mul_div_succ n hg
  exact this
 have h2:g+(n / g+1)≤2*((g+n / g) / 2+1):=by omega
 generalize (g+n / g) / 2+1=b at h2 ⊢
 generalize n / g+1=y at h1 h2
 have h3:(g+y)*(g+y)≤(2*b)*(2*b):=d0n h2 h2
 have h4:4*(g*y)≤(g+y)*(g+y):=by
  rcases Nat.le_total g y with h|h
  ·obtain⟨k,rfl⟩:=Nat.le.dest h
   have:(g+(g+k))*(g+(g+k))=4*(g*(g+k))+k*k:=by grind
   omega
  ·obtain⟨k,rfl⟩:=Nat.le.dest h
   have:(y+k+y)*(y+k+y)=4*((y+k)*y)+k*k:=by grind
   omega
 have h5:(2*b)*(2*b)=4*(b*b):=by grind
 omega
theorem b0C{n g:Nat}(hg:0<g)(h:¬ (g+n / g) / 2<g):g*g≤n:=by
 have h1:g≤n / g:=by omega
 exact c85 (d0Z g h1) (Nat.mul_div_le n g)
theorem a6l{n s t:Nat}(h1:s*s≤n)(h2:n<(s+1)*(s+1))(h3:t*t=n):t=s:=by
 rcases d1a t s with h|h|h
 ·have:(t+1)*(t+1)≤s*s:=d0n h h
  have e:(t+1)*(t+1)=t*t+2*t+1:=by grind
  omega
 ·exact h
 ·have:(s+1)*(s+1)≤t*t:=d0n h h
  omega
theorem a31(r:Rat):(r*r).num=r.num*r.num∧(r*r).den=r.den*r.den:=by
 rw[Rat.mul_def]
 have hc:(r.num*r.num).natAbs.gcd (r.den*r.den)=1:=by
  rw[c9q]
  exact Nat.Coprime.mul_left (Nat.Coprime.mul_right r.reduced r.reduced) (Nat.Coprime.mul_right r.reduced r.reduced)
 rw[Rat.normalize_eq]
 simp[hc]
theorem b2Y{q:Rat}{s t:Nat}(h1:((s:Int))*(s:Int)=q.num)(h2:t*t=q.den):∃ r:Rat,0≤r∧r*r=q∧r.num=(s:Int)∧r.den=t:=by
 have ht:t≠0:=by
  intro e;subst e;have:=q.den_nz;omega
 have hcop:Nat.Coprime s t:=by
  have hq:=q.reduced
  have e1:q.num.natAbs=s*s:=by rw[← h1,c9q,c8V]
  rw[e1,← h2]at hq
  have a1:Nat.Coprime s (t*t):=Nat.Coprime.coprime_mul_left hq
  exact Nat.Coprime.coprime_mul_left_right a1
 refine⟨⟨(s:Int),t,ht,by simpa using hcop⟩,?_,?_,rfl,rfl⟩
 ·rw[Rat.le_iff];simp
 ·have:=a31 ⟨(s:Int),t,ht,by simpa using hcop⟩
  exact Rat.ext (by rw[this.1];exact h1) (by rw[this.2];exact h2)
theorem a4n{q r:Rat}(h:r*r=q):(∃ s:Nat,s*s=q.num.natAbs)∧(∃ t:Nat,t*t=q.den)∧0≤q.num:=by
 have:=a31 r
 rw[h]at this
 refine⟨⟨r.num.natAbs,by rw[this.1,c9q]⟩,⟨r.den,this.2.symm⟩,?_⟩
 rw[this.1]
 have:=Int.natAbs_mul_self (a:=r.num)
 rw[← this];exact d0p _
theorem c08{q:Rat}{n:Nat}(h:RM.sz q≤n):q.num.natAbs.log2<n∧q.den.log2<n:=by
 have h1:=RM.M8 q
 have h2:=RM.E3 q
 unfold RM.bl at h1 h2
 omega
theorem a0G{n k:Nat}(h:n.log2<k):n<2 ^ k:=by
 rcases d0o n with h0|h0
 ·subst h0;exact c90 k
 ·exact(d1f (by omega)).mp h
end GM
namespace GM
open PySem PySem.Spec L2 DL
open PyProof.Rows hiding St
noncomputable def a1z:DSp:=fun ds M R _=>∃ n:Int,ds=[.int n]∧R (.bl true) M
end GM
namespace GM
open PySem PySem.Spec L2 DL
structure Sml(g:Nat):Prop where
 log:g.log2<9000
theorem Sml.mono{a b:Nat}(h:Sml b)(l:a≤b):Sml a:=⟨F0 (c9e l (a0G h.log)) (by decide)⟩
theorem Sml.pow{k:Nat}(h:k<9000):Sml (2 ^ k):=⟨F0 (d0u (by decide) h) (by decide)⟩
end GM
namespace GM
open PySem PySem.Spec L2 DL
end GM
namespace GM
open PySem PySem.Spec L2 DL
noncomputable def b1N:DSp:=fun ds _ R _=>∃ ns:List Int,ds=[.vl (ns.map D.int)]∧ns.length≤63∧∀ M',R (.bl true) M'
end GM
namespace GM
open PySem PySem.Spec L2 DL
open RM (sz)
noncomputable def M7:DSp:=fun ds M R _=>∃ a b:Nat,ds=[.int (a:Int),.int (b:Int)]∧R (.int ((c9z a b:Nat):Int)) M
noncomputable def a6m:DSp:=fun ds M R _=>∃ q:Rat,ds=[d9 q]∧R (d9 (-q)) M
noncomputable def K8:DSp:=fun ds M R _=>∃ q r:Rat,ds=[d9 q,d9 r]∧sz q+sz r≤8900∧R (d9 (q+r)) M
noncomputable def K0:DSp:=fun ds M R _=>∃ q r:Rat,ds=[d9 q,d9 r]∧sz q+sz r≤8900∧R (d9 (q - r)) M
noncomputable def F5:DSp:=fun ds M R _=>∃ q r:Rat,ds=[d9 q,d9 r]∧sz q+sz r≤8900∧R (d9 (q*r)) M
noncomputable def a2f:DSp:=fun ds M R _=>∃ q r:Rat,ds=[d9 q,d9 r]∧r≠0∧sz q+sz r≤8900∧R (d9 (q / r)) M
noncomputable def a03:DSp:=fun ds M R _=>∃ q r:Rat,ds=[d9 q,d9 r]∧sz q+sz r≤8900∧R (.bl (decide (q<r))) M
theorem L4(q:Rat):q.num.natAbs<2 ^ sz q:=c80 (RM.a10 _) (c9j (by decide) (RM.M8 q))
theorem J7(q:Rat):((q.den:Int)).natAbs<2 ^ sz q:=by rw[c8V];exact c80 (RM.a10 _) (c9j (by decide) (RM.E3 q))
theorem mNN{q r:Rat}(h:sz q+sz r≤8900):IntMulOk q.num r.num:=u5 _ _ (L4 q) (L4 r) (by omega)
theorem mND{q r:Rat}(h:sz q+sz r≤8900):IntMulOk q.num (r.den:Int):=u5 _ _ (L4 q) (J7 r) (by omega)
theorem mDD{q r:Rat}(h:sz q+sz r≤8900):IntMulOk (q.den:Int) (r.den:Int):=u5 _ _ (J7 q) (J7 r) (by omega)
theorem mDN{q r:Rat}(h:sz q+sz r≤8900):IntMulOk (q.den:Int) r.num:=u5 _ _ (J7 q) (L4 r) (by omega)
theorem lDD{q r:Rat}(h:sz q+sz r≤8900):((q.den:Int)*(r.den:Int)).natAbs.log2<9000:=by
 have h1:=RM.X3 q.den r.den
 have h2:=RM.E3 q
 have h3:=RM.E3 r
 rw[c9q,c8V,c8V]
 unfold RM.bl at *
 omega
theorem lDN{q r:Rat}(h:sz q+sz r≤8900):((q.den:Int)*r.num).natAbs.log2<9000:=by
 have h1:=RM.X3 q.den r.num.natAbs
 have h2:=RM.E3 q
 have h3:=RM.M8 r
 rw[c9q,c8V]
 unfold RM.bl at *
 omega
theorem c1T{r:Rat}(h:r≠0):r.num≠0:=fun z=>h (Rat.num_eq_zero.mp z)
noncomputable def f6(q:Rat):Rat:=if 0≤q then q else -q
theorem a72(q:Rat):0≤f6 q:=by
 unfold f6;split
 ·assumption
 ·grind
theorem a71(q:Rat):f6 q*f6 q=q*q:=by
 unfold f6;split
 ·rfl
 ·grind
theorem c2G(q:Rat):d9 (f6 q) = .tup [.int (q.num.natAbs:Int),.int (q.den:Int)]:=by
 unfold f6 d9
 have hz:0≤q↔0≤q.num:=Rat.num_nonneg.symm
 split
 ·rename_i h
  have:=hz.mp h
  rw[show q.num=(q.num.natAbs:Int)by omega];simp
 ·rename_i h
  have h':¬ 0≤q.num:=fun z=>h (hz.mpr z)
  rw[d1M,d1N,show -q.num=(q.num.natAbs:Int)by omega]
end GM
namespace GM
open RM (sz)
theorem a9H{a:Rat}{A:Int}{D S:Nat}(hS:0<S)(hD:D≠0)(hd:D<2 ^ S)(h:a*(D:Rat)=(A:Rat))(hA:A.natAbs<2 ^ S):sz a≤S:=by
 have hD':(D:Rat)≠0:=by
  intro z;exact hD (by exact_mod_cast z)
 have e:a=c9x A (D:Int):=by
  rw[c9S]
  have:a=(A:Rat) / (D:Rat):=by grind
  rw[this];rfl
 rw[e]
 exact c85 (RM.M6 A D (by omega)) (d0S.mpr ⟨RM.a0l hA hS,RM.a0l (by rw[c8V];exact hd) hS⟩)
structure CD(S:Nat)(a b c d:Rat):Prop where
 ex:∃(A B C E:Int) (D:Nat),D≠0∧D<2 ^ S∧(A.natAbs<2 ^ S∧B.natAbs<2 ^ S∧C.natAbs<2 ^ S∧E.natAbs<2 ^ S)∧a*(D:Rat)=(A:Rat)∧b*(D:Rat)=(B:Rat)∧c*(D:Rat)=(C:Rat)∧d*(D:Rat)=(E:Rat)
theorem u4(q:Rat){k:Nat}(h:sz q≤k):q.num.natAbs<2 ^ k:=c80 (RM.a10 _) (c9j (by decide) (c85 (RM.M8 q) h))
theorem t9(q:Rat){k:Nat}(h:sz q≤k):q.den<2 ^ k:=c80 (RM.a10 _) (c9j (by decide) (c85 (RM.E3 q) h))
theorem w6(q:Rat):q*(q.den:Rat)=(q.num:Rat):=by
 have h:(q.den:Rat)≠0:=by
  intro z;exact q.den_nz (by exact_mod_cast z)
 have e:=d0E q
 rw[c9S,c87]at e
 grind
theorem o7{a b m n:Nat}(h1:a<2 ^ m)(h2:b<2 ^ n):a*b<2 ^ (m+n):=by
 rw[d1g];exact Nat.mul_lt_mul'' h1 h2
theorem e7{a b:Int}{m n:Nat}(h1:a.natAbs<2 ^ m)(h2:b.natAbs<2 ^ n):(a*b).natAbs<2 ^ (m+n):=by
 rw[c9q];exact o7 h1 h2
theorem A3{a b:Int}{m:Nat}(h1:a.natAbs<2 ^ m)(h2:b.natAbs<2 ^ m):(a+b).natAbs<2 ^ (m+1):=by
 have:=d10 a b
 rw[d05];omega
theorem a0W{a m n:Nat}(h:a<2 ^ m)(hn:m≤n):a<2 ^ n:=c80 h (c9j (by decide) hn)
theorem CD.one:CD 1 1 0 0 1:=⟨1,0,0,1,1,by decide,by decide,⟨by decide,by decide,by decide,by decide⟩,by grind,by grind,by grind,by grind⟩
theorem CD.neg{S:Nat}{a b c d:Rat}(h:CD S a b c d):CD S (-a) (-b) (-c) (-d):=by
 obtain⟨A,B,C,E,D,h0,hd,⟨h1,h2,h3,h4⟩,e1,e2,e3,e4⟩:=h.ex
 refine⟨-A,-B,-C,-E,D,h0,hd,⟨by rw[d0c];exact h1,by rw[d0c];exact h2,by rw[d0c];exact h3,by rw[d0c];exact h4⟩,?_,?_,?_,?_⟩<;>(rw[d1A];grind)
theorem CD.swap{S:Nat}{a b c d:Rat}(h:CD S a b c d):CD S c d a b:=by
 obtain⟨A,B,C,E,D,h0,hd,⟨h1,h2,h3,h4⟩,e1,e2,e3,e4⟩:=h.ex
 exact⟨C,E,A,B,D,h0,hd,⟨h3,h4,h1,h2⟩,e3,e4,e1,e2⟩
theorem CD.step{S k:Nat}{a b c d q:Rat}(h:CD S a b c d)(hq:sz q≤k):CD (S+k+1) (a+q*c) (b+q*d) c d:=by
 obtain⟨A,B,C,E,D,h0,hd,⟨h1,h2,h3,h4⟩,e1,e2,e3,e4⟩:=h.ex
 have hn:=u4 q hq
 have hm:=t9 q hq
 have hm':(q.den:Int).natAbs<2 ^ k:=by rw[c8V];exact hm
 have e:=w6 q
 have z:∀{X:Int},X.natAbs<2 ^ S→(X*(q.den:Int)).natAbs<2 ^ (S+k):=fun h=>e7 h hm'
 have z2:∀{X:Int},X.natAbs<2 ^ S→(X*q.num).natAbs<2 ^ (S+k):=fun h=>e7 h hn
 refine⟨A*(q.den:Int)+C*q.num,B*(q.den:Int)+E*q.num,C*(q.den:Int),E*(q.den:Int),D*q.den,c91 h0 q.den_nz,a0W (o7 hd hm) (by omega),
  ⟨A3 (z h1) (z2 h3),A3 (z h2) (z2 h4),a0W (z h3) (by omega),a0W (z h4) (by omega)⟩,?_,?_,?_,?_⟩
 all_goals (simp only[c9p,c96,c82,c87];grind)
theorem CD.scale{S k:Nat}{a b c d q r:Rat}(h:CD S a b c d)(hq:sz q≤k)(hp:0<q.num)(hr:r*q=1):CD (S+2*k) (q*a) (q*b) (r*c) (r*d):=by
 obtain⟨A,B,C,E,D,h0,hd,⟨h1,h2,h3,h4⟩,e1,e2,e3,e4⟩:=h.ex
 have hn:=u4 q hq
 have hm:=t9 q hq
 have hm':(q.den:Int).natAbs<2 ^ k:=by rw[c8V];exact hm
 have e:=w6 q
 obtain⟨n,en⟩:∃ n:Nat,q.num=(n:Int):=⟨q.num.toNat,by omega⟩
 rw[en]at hn e hp
 rw[c8V]at hn
 rw[c87]at e
 have hn':(n:Int).natAbs<2 ^ k:=by rw[c8V];exact hn
 refine⟨A*((n:Int)*n),B*((n:Int)*n),C*((q.den:Int)*q.den),E*((q.den:Int)*q.den),D*(n*q.den),c91 h0 (c91 (by omega) q.den_nz),?_,⟨?_,?_,?_,?_⟩,?_,?_,?_,?_⟩
 ·rw[show S+2*k=S+(k+k)by omega];exact o7 hd (o7 hn hm)
 ·rw[show S+2*k=S+(k+k)by omega];exact e7 h1 (e7 hn' hn')
 ·rw[show S+2*k=S+(k+k)by omega];exact e7 h2 (e7 hn' hn')
 ·rw[show S+2*k=S+(k+k)by omega];exact e7 h3 (e7 hm' hm')
 ·rw[show S+2*k=S+(k+k)by omega];exact e7 h4 (e7 hm' hm')
 all_goals (simp only[c9p,c82,c87];grind)
end GM
namespace GM
open PySem PySem.Spec L2 DL
open RM (sz)
noncomputable abbrev a2e(a b c d:Rat):D:=.tup [d9 a,d9 b,d9 c,d9 d]
noncomputable abbrev v6(y u:Rat):D:=.tup [d9 y,d9 u]
structure T4(S:Nat)(a b c d:Rat):Prop where
 a:sz a≤S
 b:sz b≤S
 c:sz c≤S
 d:sz d≤S
structure T2(S:Nat)(y u:Rat):Prop where
 y:sz y≤S
 u:sz u≤S
theorem CD.t4{S:Nat}{a b c d:Rat}(h:CD S a b c d)(hS:0<S:=by omega):T4 S a b c d:=by
 obtain⟨A,B,C,E,D,h0,hd,⟨h1,h2,h3,h4⟩,e1,e2,e3,e4⟩:=h.ex
 exact⟨a9H hS h0 hd e1 h1,a9H hS h0 hd e2 h2,a9H hS h0 hd e3 h3,a9H hS h0 hd e4 h4⟩
noncomputable def a2g:DSp:=fun ds M R _=>∃ a b c d:Rat,ds=[v6 a c,v6 b d]∧R (a2e a b c d) M
theorem c4k{q:Rat}(h:0<q.num):D.tup [.int (q.den:Int),.int q.num]=d9 q⁻¹:=by
 unfold d9
 have h1:q⁻¹.num=(q.den:Int):=by rw[Rat.num_inv,d0F h,d1L]
 have h2:((q⁻¹).den:Int)=q.num:=by
  rw[Rat.inv_def,Rat.den_divInt,if_neg (by omega)]
  have hg:q.num.gcd (q.den:Int)=1:=by
   have:=q.reduced
   unfold d11
   rw[c8V];exact this
  rw[hg,Nat.div_one];omega
 rw[h1,h2]
theorem CD.mono{S S':Nat}{a b c d:Rat}(h:CD S a b c d)(hs:S≤S'):CD S' a b c d:=by
 obtain⟨A,B,C,E,D,h0,hd,⟨h1,h2,h3,h4⟩,e1,e2,e3,e4⟩:=h.ex
 exact⟨A,B,C,E,D,h0,a0W hd hs,⟨a0W h1 hs,a0W h2 hs,a0W h3 hs,a0W h4 hs⟩,e1,e2,e3,e4⟩
end GM
namespace GM
open PySem PySem.Spec L2 DL
open RM (sz)
theorem a02(q:Rat):sz (f6 q)=sz q:=by
 unfold f6;split
 ·rfl
 ·exact RM.S6 q
noncomputable def f9(x:Str × Rat):D:=.tup [.str x.1,d9 x.2]
noncomputable def y9(x:Str × Rat)(y u:Rat):Rat × Rat:=if x.1 = "gap" then(y+x.2*u,u)else if x.1 = "glass" then(y,u - x.2*y)else(y,u)
noncomputable def g8(bs:List (Str × Rat))(r:Rat × Rat):Rat × Rat:=bs.foldl (fun r x=>y9 x r.1 r.2) r
theorem CD.led{S:Nat}{x:Str × Rat}{y u:Rat}(h:CD S y 0 u 0)(hx:sz x.2≤41):CD (S+42) (y9 x y u).1 0 (y9 x y u).2 0:=by
 unfold y9
 split
 ·have:=h.step hx
  rw[show(0:Rat)+x.2*0=0 by grind]at this
  exact this
 ·split
  ·have:=(h.swap.step (q:=-x.2) (k:=41) (by rw[RM.S6];exact hx)).swap
   rw[show(0:Rat) + -x.2*0=0 by grind,show u + -x.2*y=u - x.2*y by grind]at this
   exact this
  ·exact h.mono (by omega)
theorem CD.t2{S:Nat}{y u:Rat}(h:CD S y 0 u 0)(hS:0<S:=by omega):T2 S y u:=⟨h.t4.a,h.t4.c⟩
theorem CD.ray{y u:Rat}{k:Nat}(h1:sz y≤k)(h2:sz u≤k):CD (2*k) y 0 u 0:=by
 have n1:=u4 y h1
 have d1:=t9 y h1
 have n2:=u4 u h2
 have d2:=t9 u h2
 have d1':(y.den:Int).natAbs<2 ^ k:=by rw[c8V];exact d1
 have d2':(u.den:Int).natAbs<2 ^ k:=by rw[c8V];exact d2
 have e1:=w6 y
 have e2:=w6 u
 refine⟨y.num*(u.den:Int),0,u.num*(y.den:Int),0,y.den*u.den,c91 y.den_nz u.den_nz,?_,⟨?_,?_,?_,?_⟩,?_,?_,?_,?_⟩
 ·rw[show 2*k=k+k by omega];exact o7 d1 d2
 ·rw[show 2*k=k+k by omega];exact e7 n1 d2'
 ·exact c90 _
 ·rw[show 2*k=k+k by omega];exact e7 n2 d1'
 ·exact c90 _
 all_goals (simp only[c9p,c82,c87,Rat.intCast_zero];grind)
theorem O0{bs:List (Str × Rat)}{i:Nat}{x:Str × Rat}(h:bs[i]? = some x)(r:Rat × Rat):g8 (bs.take (i+1)) r=y9 x (g8 (bs.take i) r).1 (g8 (bs.take i) r).2:=by
 obtain⟨hl,he⟩:=c8W.mp h
 unfold g8
 rw[c94 hl,List.foldl_append,he]
 rfl
theorem G6(bs:List (Str × Rat))(y u:Rat):(g8 bs (y,u)).1=(g8 bs (1,0)).1*y+(g8 bs (0,1)).1*u∧(g8 bs (y,u)).2=(g8 bs (1,0)).2*y+(g8 bs (0,1)).2*u:=by
 have gen:∀(bs:List (Str × Rat)) (y u a b c d z w:Rat),z=a*y+b*u→w=c*y+d*u →
   (g8 bs (z,w)).1=(g8 bs (a,c)).1*y+(g8 bs (b,d)).1*u∧(g8 bs (z,w)).2=(g8 bs (a,c)).2*y+(g8 bs (b,d)).2*u:=by
  intro bs
  induction bs with
  | nil=>intro y u a b c d z w h1 h2;exact⟨h1,h2⟩
  | cons x r ih =>
   intro y u a b c d z w h1 h2
   refine ih y u (y9 x a c).1 (y9 x b d).1 (y9 x a c).2 (y9 x b d).2 (y9 x z w).1 (y9 x z w).2 ?_ ?_
   ·unfold y9;split
    ·grind
    ·split<;>grind
   ·unfold y9;split
    ·grind
    ·split<;>grind
 exact gen bs y u 1 0 0 1 y u (by grind) (by grind)
theorem a6q{bs:List (Str × Rat)}{i:Nat}{d:D}(h:(bs.map f9)[i]? = some d):∃ x,bs[i]? = some x∧d=f9 x:=by
 rw[c83]at h
 cases e:bs[i]? with
 | none=>rw[e]at h;cases h
 | some x=>rw[e]at h;exact⟨x,rfl,(Option.some.inj h).symm⟩
end GM
namespace GM
open PySem PySem.Spec L2 DL
open RM (sz)
theorem b8L(bs:List (Str × Rat)):(g8 bs (1,0)).1*(g8 bs (0,1)).2 - (g8 bs (0,1)).1*(g8 bs (1,0)).2=1:=by
 have gen:∀(bs:List (Str × Rat)) (y u z w:Rat),(g8 bs (y,u)).1*(g8 bs (z,w)).2 - (g8 bs (z,w)).1*(g8 bs (y,u)).2=y*w - z*u:=by
  intro bs
  induction bs with
  | nil=>intro y u z w;rfl
  | cons x r ih =>
   intro y u z w
   have:=ih (y9 x y u).1 (y9 x y u).2 (y9 x z w).1 (y9 x z w).2
   refine Eq.trans this ?_
   unfold y9
   split
   ·grind
   ·split<;>grind
 have:=gen bs 1 0 0 1
 rw[this];grind
end GM
namespace GM
open PySem PySem.Spec L2 DL
open RM (sz)
end GM
namespace GM
open PySem PySem.Spec L2 DL
open RM (sz)
noncomputable def a6n:DSp:=fun ds M R _=>∃ q:Rat,ds=[d9 q]∧R (d9 (f6 q)) M
end GM
namespace GM
open PySem PySem.Spec L2 DL
open RM (sz)
theorem a6r{x y:Str × Rat}(h:f9 x=f9 y):x=y:=by
 unfold f9 at h
 injection h with h
 injection h with h1 h2
 injection h1 with h1
 injection h2 with h2 _
 exact Prod.ext h1 (G5 h2)
theorem j3{x y:Str × Rat}:f9 x=f9 y↔x=y:=⟨a6r,fun h=>by rw[h]⟩
theorem i7{xs ys:List (Str × Rat)}:xs.map f9=ys.map f9↔xs=ys:=d0C (fun _ _ h=>a6r h)
noncomputable def p5(l:Rat × Rat × Rat):D:=.tup [d9 l.1,d9 l.2.1,d9 l.2.2]
theorem a6w{x y:Rat × Rat × Rat}(h:p5 x=p5 y):x=y:=by
 unfold p5 at h
 injection h with h
 injection h with h1 h2
 injection h2 with h2 h3
 injection h3 with h3 _
 exact Prod.ext (G5 h1) (Prod.ext (G5 h2) (G5 h3))
theorem j4{x y:Rat × Rat × Rat}:p5 x=p5 y↔x=y:=⟨a6w,fun h=>by rw[h]⟩
theorem i8{xs ys:List (Rat × Rat × Rat)}:xs.map p5=ys.map p5↔xs=ys:=d0C (fun _ _ h=>a6w h)
theorem c1n{p q r:Rat}:D.tup [d9 p,d9 q,d9 r]=p5 (p,q,r):=rfl
theorem b1k{gs:a0m}{l:Rat × Rat × Rat}{e:Ev}{M:Mem}{Q:Ev→Mem→Prop}:a9A 3 gs (p5 l) e M Q=gs [d9 l.1,d9 l.2.1,d9 l.2.2] e M Q:=a3V rfl
theorem b1n{l:Rat × Rat × Rat}{M:Mem}{R:DK}:gIx (p5 l) (.int 0) M R=R (d9 l.1) M:=a3G
theorem b1m{l:Rat × Rat × Rat}{M:Mem}{R:DK}:gIx (p5 l) (.int 1) M R=R (d9 l.2.1) M:=a3F
theorem b1l{l:Rat × Rat × Rat}{M:Mem}{R:DK}:gIx (p5 l) (.int 2) M R=R (d9 l.2.2) M:=a9S
theorem b3X{q:Rat}{M:Mem}{R:DK}:gIx (d9 q) (.int 0) M R=R (.int q.num) M:=a3G
theorem b3W{q:Rat}{M:Mem}{R:DK}:gIx (d9 q) (.int 1) M R=R (.int (q.den:Int)) M:=a3F
theorem b3V{gs:a0m}{q:Rat}{e:Ev}{M:Mem}{Q:Ev→Mem→Prop}:a9A 2 gs (d9 q) e M Q=gs [.int q.num,.int (q.den:Int)] e M Q:=a3V rfl
theorem b3U{q:Rat}{M:Mem}{R:DK}:b3t [d9 q] M R=R (.int 2) M:=a8F rfl
theorem b1j{x:Str × Rat}{M:Mem}{R:DK}:gIx (f9 x) (.int 0) M R=R (.str x.1) M:=a3G
theorem b1i{x:Str × Rat}{M:Mem}{R:DK}:gIx (f9 x) (.int 1) M R=R (d9 x.2) M:=a3F
theorem b1h{gs:a0m}{x:Str × Rat}{e:Ev}{M:Mem}{Q:Ev→Mem→Prop}:a9A 2 gs (f9 x) e M Q=gs [.str x.1,d9 x.2] e M Q:=a3V rfl
theorem a8u{q:Rat}{M:Mem}{R:DK}:D3 [d9 q,.ty "tuple"] M R=R (.bl true) M:=v9 rfl rfl
theorem a53{x:Str × Rat}{M:Mem}{R:DK}:D3 [f9 x,.ty "tuple"] M R=R (.bl true) M:=v9 rfl rfl
theorem b1g{x:Str × Rat}{M:Mem}{R:DK}:b3t [f9 x] M R=R (.int 2) M:=a8F rfl
theorem b7M{q:Rat}:cl 60 (d9 q)=true:=rfl
theorem b7N{q:Rat}:cl 59 (d9 q)=true:=rfl
theorem b7O{q:Rat}:cl 58 (d9 q)=true:=rfl
theorem b7P{q:Rat}:cl 57 (d9 q)=true:=rfl
theorem r0:D.tup [.int 0,.int 1]=d9 0:=rfl
theorem r1:D.tup [.int 1,.int 1]=d9 1:=rfl
theorem r2:D.tup [.int 2,.int 1]=d9 2:=rfl
theorem r4:D.tup [.int 4,.int 1]=d9 4:=rfl
theorem c3L{q:Rat}:D.tup [.int (q.num.natAbs:Int),.int (q.den:Int)]=d9 (f6 q):=(c2G q).symm
theorem c3K{q:Rat}:D.tup [.int (-q.num),.int (q.den:Int)]=d9 (-q):=by unfold d9;rw[d1M,d1N]
theorem c1m{q:Rat}:D.tup [.int q.num,.int (q.den:Int)]=d9 q:=rfl
theorem rm2:D.tup [.int (-2),.int 1]=d9 (-2):=rfl
theorem rm1:D.tup [.int (-1),.int 1]=d9 (-1):=rfl
local macro_rules|`(tactic| walk_at "inj")=>`(tactic| (rename_i e h;simp only[List.cons.injEq,and_true,true_and,GM.j7,GM.j3,GM.i7,GM.j4,GM.i8,D.tup.injEq,D.ref.injEq,D.int.injEq,D.str.injEq,D.bl.injEq,D.vl.injEq,c9i,and_assoc]at e;(repeat(obtain⟨e1,e⟩:=e;subst e1));subst e;exact h))
local macro_rules|`(tactic| walk_at "injs")=>`(tactic| (rename_i e o h;rcases o with o|o<;>(subst o;first|(exfalso;simp only[D.tup.injEq,List.cons.injEq,reduceCtorEq,false_and,and_false]at e;done)|(simp only[List.cons.injEq,and_true,true_and,GM.j7,GM.j3,GM.i7,GM.j4,GM.i8,D.tup.injEq,D.ref.injEq,D.int.injEq,D.str.injEq,D.bl.injEq,D.vl.injEq,c9i,and_assoc]at e;(repeat(obtain⟨e1,e⟩:=e;subst e1));subst e;exact h))))
theorem a2B{a b:Nat}{M:Mem}{R:DK}{Y:DXK}:M7 [.int (a:Int),.int (b:Int)] M R Y=(R (.int ((c9z a b:Nat):Int)) M):=propext ⟨fun z=>by obtain⟨_,_,_,_⟩:=z;walk_at "inj",fun h=>⟨a,b,rfl,h⟩⟩
theorem b03{q:Rat}{M:Mem}{R:DK}{Y:DXK}:a6m [d9 q] M R Y=(R (d9 (-q)) M):=propext ⟨fun z=>by obtain⟨_,_,_⟩:=z;walk_at "inj",fun h=>⟨q,rfl,h⟩⟩
theorem a78{q r:Rat}{M:Mem}{R:DK}{Y:DXK}:K8 [d9 q,d9 r] M R Y=(sz q+sz r≤8900∧R (d9 (q+r)) M):=propext ⟨fun z=>by obtain⟨_,_,_,_⟩:=z;walk_at "inj",fun h=>⟨q,r,rfl,h⟩⟩
theorem a5J{q r:Rat}{M:Mem}{R:DK}{Y:DXK}:K0 [d9 q,d9 r] M R Y=(sz q+sz r≤8900∧R (d9 (q - r)) M):=propext ⟨fun z=>by obtain⟨_,_,_,_⟩:=z;walk_at "inj",fun h=>⟨q,r,rfl,h⟩⟩
theorem a5I{q r:Rat}{M:Mem}{R:DK}{Y:DXK}:F5 [d9 q,d9 r] M R Y=(sz q+sz r≤8900∧R (d9 (q*r)) M):=propext ⟨fun z=>by obtain⟨_,_,_,_⟩:=z;walk_at "inj",fun h=>⟨q,r,rfl,h⟩⟩
theorem a79{q r:Rat}{M:Mem}{R:DK}{Y:DXK}:a2f [d9 q,d9 r] M R Y=(r≠0∧sz q+sz r≤8900∧R (d9 (q / r)) M):=propext ⟨fun z=>by obtain⟨_,_,_,_⟩:=z;walk_at "inj",fun h=>⟨q,r,rfl,h⟩⟩
theorem a8b{q r:Rat}{M:Mem}{R:DK}{Y:DXK}:a03 [d9 q,d9 r] M R Y=(sz q+sz r≤8900∧R (.bl (decide (q<r))) M):=propext ⟨fun z=>by obtain⟨_,_,_,_⟩:=z;walk_at "inj",fun h=>⟨q,r,rfl,h⟩⟩
theorem b04{a b:Int}{M:Mem}{R:DK}{Y:DXK}:X6 [.int a,.int b] M R Y=(b≠0∧b.natAbs.log2<9000∧R (d9 (c9x a b)) M):=propext ⟨fun z=>by obtain⟨_,_,_,_⟩:=z;walk_at "inj",fun h=>⟨a,b,rfl,h⟩⟩
theorem a77{c:Int}{M:Mem}{R:DK}{Y:DXK}:a93 [.int c] M R Y=(∀ p M',M p=none→MK M M'→C5 M' p→R (.ref p) M'):=propext ⟨fun z=>by obtain⟨_,_,_⟩:=z;walk_at "inj",fun h=>⟨c,rfl,h⟩⟩
theorem a8a{p:Addr}{b:Int}{M:Mem}{R:DK}{Y:DXK}:N2 [.ref p,.int b] M R Y=(C5 M p∧0<b∧b.natAbs.log2<9000∧∀(r:Int) M',0≤r→r<b→u3 p M M'→R (.int r) M'):=propext ⟨fun z=>by obtain⟨_,_,_,_⟩:=z;walk_at "inj",fun h=>⟨p,b,rfl,h⟩⟩
theorem b05{q:Rat}{M:Mem}{R:DK}{Y:DXK}:a6n [d9 q] M R Y=(R (d9 (f6 q)) M):=propext ⟨fun z=>by obtain⟨_,_,_⟩:=z;walk_at "inj",fun h=>⟨q,rfl,h⟩⟩
theorem a76{q:Rat}{M:Mem}{R:DK}{Y:DXK}:a92 [d9 q] M R Y=(RM.sz q≤4000∧∀ v,b7e q v→R v M):=propext ⟨fun z=>by obtain⟨_,_,_⟩:=z;walk_at "inj",fun h=>⟨q,rfl,h⟩⟩
theorem a2C{a b c d:Rat}{M:Mem}{R:DK}{Y:DXK}:a2g [v6 a c,v6 b d] M R Y=(R (a2e a b c d) M):=propext ⟨fun z=>by obtain⟨_,_,_,_,_,_⟩:=z;walk_at "inj",fun h=>⟨a,b,c,d,rfl,h⟩⟩
noncomputable abbrev a7l(a b c d y u:Rat)(M:Mem)(R:DK)(Y:DXK):Prop:=sz a+sz y+(sz b+sz u)≤8900∧sz c+sz y+(sz d+sz u)≤8900∧R (v6 (a*y+b*u) (c*y+d*u)) M
noncomputable def b8m:DSp:=fun ds M R Y=>∃(a b c d y u:Rat),ds=[a2e a b c d,v6 y u]∧a7l a b c d y u M R Y
theorem b3R{a b c d y u:Rat}{M:Mem}{R:DK}{Y:DXK}:b8m [a2e a b c d,v6 y u] M R Y=(a7l a b c d y u M R Y):=propext ⟨fun z=>by obtain⟨_,_,_,_,_,_,_,_⟩:=z;walk_at "inj",fun h=>⟨a,b,c,d,y,u,rfl,h⟩⟩
noncomputable abbrev a3g(x:Str × Rat)(y u:Rat)(M:Mem)(R:DK)(Y:DXK):Prop:=sz x.2+sz y+sz u≤8900∧R (v6 (y9 x y u).1 (y9 x y u).2) M
noncomputable def a4k:DSp:=fun ds M R Y=>∃(x:Str × Rat) (y u:Rat),ds=[f9 x,v6 y u]∧a3g x y u M R Y
theorem b1c{x:Str × Rat}{y u:Rat}{M:Mem}{R:DK}{Y:DXK}:a4k [f9 x,v6 y u] M R Y=(a3g x y u M R Y):=propext ⟨fun z=>by obtain⟨_,_,_,_,_⟩:=z;walk_at "inj",fun h=>⟨x,y,u,rfl,h⟩⟩
theorem b6P{k:Nat}:∀{ds:List D},(∀ x∈ds,cl k x=true)→clL k ds=true
 | [],_=>rfl
 | d :: r,h=>by
  show(cl k d && clL k r)=true
  rw[h d c9I,b6P (fun x hx=>h x (c9r _ hx))];rfl
theorem u3.put{p l:Addr}{M M':Mem}{o:MO}(h:u3 p M M')(hl:M l=none)(hp:l≠p):u3 p M (B9 M' l o):=⟨fun b u hb e=>by
  rw[A0 (by intro z;subst z;rw[hl]at e;cases e)];exact h.keep b u hb e,by
  obtain⟨x,y,z,e⟩:=h.pool.ex
  exact⟨x,y,z,by rw[A0 (Ne.symm hp)];exact e⟩⟩
theorem u3.del{p l:Addr}{M M':Mem}(h:u3 p M M')(hl:M l=none)(hp:l≠p):u3 p M (a0Q M' l):=⟨fun b u hb e=>by
  rw[a3r (by intro z;subst z;rw[hl]at e;cases e)];exact h.keep b u hb e,by
  obtain⟨x,y,z,e⟩:=h.pool.ex
  exact⟨x,y,z,by rw[a3r (Ne.symm hp)];exact e⟩⟩
theorem b6K{ds:List D}{n:Nat}:a1o ds none (some (n:Int))=ds.take n:=by
 unfold a1o HT.sIx
 simp only[List.drop_zero,Nat.sub_zero]
 rw[if_neg (by omega)]
 by_cases h:n≤ds.length
 ·congr 1;omega
 ·rw[d0d (by omega),d0d (by omega)]
end GM
set_option maxHeartbeats 1000000
namespace GM
open PySem PySem.Spec L2 DL
open RM (sz)
theorem L9{xs:List D}{r:Int}{M:Mem}{R:DK}(h0:0≤r)(h1:r<xs.length)(h:∀ d∈xs,R d M):gIx (.vl xs) (.int r) M R:=by
 obtain⟨z,e,hz⟩:=b9s h0 h1
 exact⟨z,e,h z hz⟩
local macro_rules|`(tactic| walk_at "inj")=>`(tactic| (rename_i e h;simp only[List.cons.injEq,and_true,true_and,GM.j7,GM.j3,GM.i7,GM.j4,GM.i8,D.tup.injEq,D.ref.injEq,D.int.injEq,D.str.injEq,D.bl.injEq,D.vl.injEq,c9i,and_assoc]at e;(repeat(obtain⟨e1,e⟩:=e;subst e1));subst e;exact h))
local macro_rules|`(tactic| walk_at "injs")=>`(tactic| (rename_i e o h;rcases o with o|o<;>(subst o;first|(exfalso;simp only[D.tup.injEq,List.cons.injEq,reduceCtorEq,false_and,and_false]at e;done)|(simp only[List.cons.injEq,and_true,true_and,GM.j7,GM.j3,GM.i7,GM.j4,GM.i8,D.tup.injEq,D.ref.injEq,D.int.injEq,D.str.injEq,D.bl.injEq,D.vl.injEq,c9i,and_assoc]at e;(repeat(obtain⟨e1,e⟩:=e;subst e1));subst e;exact h))))
structure b7d(w:Rat):Prop where
 n:w.num.natAbs≤4
 d:w.den≤4
 ne:w≠0
theorem small_one:b7d 1:=⟨by decide,by decide,by decide⟩
theorem b7d.sz{w:Rat}(h:b7d w):RM.sz w≤3:=by
 rw[← d0E w]
 exact c1W (by decide) (by have:=h.n;omega) (by have:=h.d;omega) (RM.E5 w)
end GM
namespace GM
open PySem PySem.Spec L2 DL
open RM (sz)
noncomputable abbrev Q4:=Rat × Rat × Rat × Rat
noncomputable def F6(m:Q4):D:=a2e m.1 m.2.1 m.2.2.1 m.2.2.2
noncomputable def O8(m k:Q4):Q4:=(m.1*k.1+m.2.1*k.2.2.1,m.1*k.2.1+m.2.1*k.2.2.2,m.2.2.1*k.1+m.2.2.2*k.2.2.1,m.2.2.1*k.2.1+m.2.2.2*k.2.2.2)
noncomputable def W9(m:Q4):Rat:=m.1*m.2.2.2 - m.2.1*m.2.2.1
noncomputable def CDQ(S:Nat)(m:Q4):Prop:=CD S m.1 m.2.1 m.2.2.1 m.2.2.2
noncomputable def pwQ(m:Q4):Nat→Q4
 | 0=>(1,0,0,1)
 | k+1=>O8 m (pwQ m k)
noncomputable def xwQ(m:Q4):Nat→Rat × Rat
 | 0=>(0,-1)
 | k+1=>((m.1+m.2.2.2)*(xwQ m k).1 - (xwQ m k).2,(xwQ m k).1)
theorem a7U{m k:Q4}(h1:m.1=k.1)(h2:m.2.1=k.2.1)(h3:m.2.2.1=k.2.2.1)(h4:m.2.2.2=k.2.2.2):m=k:=Prod.ext h1 (Prod.ext h2 (Prod.ext h3 h4))
theorem c0h{m:Q4}(hd:W9 m=1):∀ k,pwQ m k=(m.1*(xwQ m k).1 - (xwQ m k).2,m.2.1*(xwQ m k).1,m.2.2.1*(xwQ m k).1,m.2.2.2*(xwQ m k).1 - (xwQ m k).2)
 | 0=>by refine a7U ?_ ?_ ?_ ?_<;>(simp only[pwQ,xwQ];grind)
 | k+1=>by
  have ih:=c0h hd k
  have hd':m.1*m.2.2.2 - m.2.1*m.2.2.1=1:=hd
  show O8 m (pwQ m k)=_
  rw[ih]
  generalize h1:xwQ m k=xw at *
  refine a7U ?_ ?_ ?_ ?_<;>(simp only[O8,xwQ,h1];grind)
theorem b0E(a b c:Q4):O8 (O8 a b) c=O8 a (O8 b c):=by
 refine a7U ?_ ?_ ?_ ?_<;>(simp only[O8];grind)
theorem b5t(m:Q4)(k:Nat):∀ j,O8 (pwQ m j) (pwQ m k)=pwQ m (j+k)
 | 0=>by
  rw[d2c]
  refine a7U ?_ ?_ ?_ ?_<;>(simp only[O8,pwQ];grind)
 | j+1=>by
  rw[show j+1+k=(j+k)+1 by omega]
  show O8 (O8 m (pwQ m j)) (pwQ m k)=O8 m (pwQ m (j+k))
  rw[b0E,b5t m k j]
theorem CD.mul{S T:Nat}{m k:Q4}(h:CDQ S m)(g:CDQ T k):CDQ (S+T+1) (O8 m k):=by
 obtain⟨A,B,C,E,D,h0,hd,⟨h1,h2,h3,h4⟩,e1,e2,e3,e4⟩:=h.ex
 obtain⟨A',B',C',E',D',h0',hd',⟨h1',h2',h3',h4'⟩,e1',e2',e3',e4'⟩:=g.ex
 refine⟨A*A'+B*C',A*B'+B*E',C*A'+E*C',C*B'+E*E',D*D',c91 h0 h0',a0W (o7 hd hd') (by omega),⟨A3 (e7 h1 h1') (e7 h2 h3'),A3 (e7 h1 h2') (e7 h2 h4'),A3 (e7 h3 h1') (e7 h4 h3'),A3 (e7 h3 h2') (e7 h4 h4')⟩,?_,?_,?_,?_⟩
 all_goals (simp only[O8,c9p,c96,c82];grind)
theorem CD.tr{S:Nat}{a b c d:Rat}(h:CD S a b c d):sz (a+d)≤S+1:=by
 obtain⟨A,B,C,E,D,h0,hd,⟨h1,h2,h3,h4⟩,e1,e2,e3,e4⟩:=h.ex
 exact a9H (A:=A+E) (D:=D) (by omega) h0 (a0W hd (by omega)) (by rw[c96];grind) (A3 h1 h4)
theorem a5H{n:Int}{M:Mem}{R:DK}{Y:DXK}:a1z [.int n] M R Y=R (.bl true) M:=propext ⟨fun⟨_,e,h⟩=>by cases e;exact h,fun h=>⟨_,rfl,h⟩⟩
local macro_rules|`(tactic| walk_at "inj")=>`(tactic| (rename_i e h;simp only[List.cons.injEq,and_true,true_and,GM.j7,GM.j3,GM.i7,GM.j4,GM.i8,D.tup.injEq,D.ref.injEq,D.int.injEq,D.str.injEq,D.bl.injEq,D.vl.injEq,c9i,and_assoc]at e;(repeat(obtain⟨e1,e⟩:=e;subst e1));subst e;exact h))
local macro_rules|`(tactic| walk_at "injs")=>`(tactic| (rename_i e o h;rcases o with o|o<;>(subst o;first|(exfalso;simp only[D.tup.injEq,List.cons.injEq,reduceCtorEq,false_and,and_false]at e;done)|(simp only[List.cons.injEq,and_true,true_and,GM.j7,GM.j3,GM.i7,GM.j4,GM.i8,D.tup.injEq,D.ref.injEq,D.int.injEq,D.str.injEq,D.bl.injEq,D.vl.injEq,c9i,and_assoc]at e;(repeat(obtain⟨e1,e⟩:=e;subst e1));subst e;exact h))))
end GM
namespace GM
open PySem PySem.Spec L2 DL
open RM (sz)
noncomputable def y7(G:Rat)(x:Str × Rat):Str × Rat:=if x.1 = "gap" then(x.1,G*x.2)else if x.1 = "glass" then(x.1,x.2 / G)else x
theorem a3W(G:Rat)(x:Str × Rat):(y7 G x).1=x.1:=by
 unfold y7;split
 ·rfl
 ·split<;>rfl
theorem b5Y{G:Rat}(h:G≠0)(x:Str × Rat)(y u:Rat):y9 (y7 G x) (G*y) u=(G*(y9 x y u).1,(y9 x y u).2):=by
 unfold y9
 rw[a3W]
 unfold y7
 by_cases h1:x.1 = "gap"
 ·rw[if_pos h1,if_pos h1,if_pos h1]
  exact Prod.ext (by show G*y+G*x.2*u=G*(y+x.2*u);grind) rfl
 ·rw[if_neg h1,if_neg h1,if_neg h1]
  by_cases h2:x.1 = "glass"
  ·rw[if_pos h2,if_pos h2,if_pos h2]
   exact Prod.ext rfl (by show u - x.2 / G*(G*y)=u - x.2*y;grind)
  ·rw[if_neg h2,if_neg h2]
theorem b5G{G:Rat}(h:G≠0)(bs:List (Str × Rat))(y u:Rat):g8 (bs.map (y7 G)) (G*y,u)=(G*(g8 bs (y,u)).1,(g8 bs (y,u)).2):=by
 induction bs generalizing y u with
 | nil=>rfl
 | cons x r ih =>
  show g8 (r.map (y7 G)) (y9 (y7 G x) (G*y) u)=_
  rw[b5Y h x y u]
  exact ih _ _
noncomputable def O3(x:Str × Rat):Bool:=x.1 == "gap" || x.1 == "glass"
noncomputable def F4(bs:List (Str × Rat)):Nat:=(bs.filter O3).length
theorem a4I{x:Str × Rat}(h:O3 x=false)(y u:Rat):y9 x y u=(y,u):=by
 unfold O3 at h
 rw[Bool.or_eq_false_iff]at h
 unfold y9
 rw[if_neg (by have:=h.1;intro e;rw[e]at this;cases this),if_neg (by have:=h.2;intro e;rw[e]at this;cases this)]
theorem CD.ledk{S k:Nat}{x:Str × Rat}{y u y' u':Rat}(h:CD S y y' u u')(hx:sz x.2≤k):CD (S+(k+1)) (y9 x y u).1 (y9 x y' u').1 (y9 x y u).2 (y9 x y' u').2:=by
 unfold y9
 split
 ·exact h.step hx
 ·split
  ·have:=(h.swap.step (q:=-x.2) (k:=k) (by rw[RM.S6];exact hx)).swap
   rw[show u + -x.2*y=u - x.2*y by grind,show u' + -x.2*y'=u' - x.2*y' by grind]at this
   exact this
  ·exact h.mono (by omega)
theorem b8M{k:Nat}(bs:List (Str × Rat))(hb:∀ x∈bs,O3 x=true→sz x.2≤k):∀{S:Nat} {y u y' u':Rat},CD S y y' u u'→CD (S+(k+1)*F4 bs) (g8 bs (y,u)).1 (g8 bs (y',u')).1 (g8 bs (y,u)).2 (g8 bs (y',u')).2:=by
 induction bs with
 | nil=>intro S y u y' u' h;exact h.mono (by omega)
 | cons x r ih =>
  intro S y u y' u' h
  have hr:=fun z hz=>hb z (c9r _ hz)
  cases ha:O3 x with
  | false =>
   have e:F4 (x :: r)=F4 r:=by unfold F4;rw[c98,ha];rfl
   rw[e]
   show CD _ (g8 r (y9 x y u)).1 (g8 r (y9 x y' u')).1 (g8 r (y9 x y u)).2 (g8 r (y9 x y' u')).2
   rw[a4I ha,a4I ha]
   exact ih hr h
  | true =>
   have e:F4 (x :: r)=F4 r+1:=by unfold F4;rw[c98,ha];rfl
   rw[e,show S+(k+1)*(F4 r+1)=S+(k+1)+(k+1)*F4 r by rw[Nat.mul_succ];omega]
   exact ih hr (h.ledk (hb x c9I ha))
theorem CD.wide{S k:Nat}{a b c d G:Rat}(h:CD S a b c d)(hG:sz G≤k)(hp:0<G.num):CD (S+2*k) a (G*b) (c / G) d:=by
 obtain⟨A,B,C,E,D,h0,hd,⟨h1,h2,h3,h4⟩,e1,e2,e3,e4⟩:=h.ex
 have hn:=u4 G hG
 have hm:=t9 G hG
 have hm':(G.den:Int).natAbs<2 ^ k:=by rw[c8V];exact hm
 have e:=w6 G
 obtain⟨n,en⟩:∃ n:Nat,G.num=(n:Int):=⟨G.num.toNat,by omega⟩
 rw[en]at hn e hp
 rw[c8V]at hn
 rw[c87]at e
 have hn':(n:Int).natAbs<2 ^ k:=by rw[c8V];exact hn
 have g0:G≠0:=by
  intro z
  rw[z]at e
  have:(n:Rat)=0:=by grind
  have:n=0:=by exact_mod_cast this
  omega
 refine⟨A*((n:Int)*G.den),B*((n:Int)*n),C*((G.den:Int)*G.den),E*((n:Int)*G.den),D*(n*G.den),c91 h0 (c91 (by omega) G.den_nz),?_,⟨?_,?_,?_,?_⟩,?_,?_,?_,?_⟩
 ·rw[show S+2*k=S+(k+k)by omega];exact o7 hd (o7 hn hm)
 ·rw[show S+2*k=S+(k+k)by omega];exact e7 h1 (e7 hn' hm')
 ·rw[show S+2*k=S+(k+k)by omega];exact e7 h2 (e7 hn' hn')
 ·rw[show S+2*k=S+(k+k)by omega];exact e7 h3 (e7 hm' hm')
 ·rw[show S+2*k=S+(k+k)by omega];exact e7 h4 (e7 hn' hm')
 all_goals (simp only[c9p,c82,c87])
 ·grind
 ·grind
 ·have:c / G*G=c:=by grind
  grind
 ·grind
theorem b2H{G:Rat}(h:G≠0)(x:Str × Rat):y7 G (y7 (1 / G) x)=x:=by
 have e:=a3W (1 / G) x
 by_cases h1:x.1 = "gap"
 ·have e2:y7 (1 / G) x=(x.1,1 / G*x.2):=if_pos h1
  rw[e2]
  show(if x.1 = "gap" then(x.1,G*(1 / G*x.2))else _)=x
  rw[if_pos h1]
  exact Prod.ext rfl (by show G*(1 / G*x.2)=x.2;grind)
 ·by_cases h2:x.1 = "glass"
  ·have e2:y7 (1 / G) x=(x.1,x.2 / (1 / G)):=by unfold y7;rw[if_neg h1,if_pos h2]
   rw[e2]
   show(if x.1 = "gap" then _ else if x.1 = "glass" then(x.1,x.2 / (1 / G) / G)else _)=x
   rw[if_neg h1,if_pos h2]
   exact Prod.ext rfl (by show x.2 / (1 / G) / G=x.2;grind)
  ·have e2:y7 (1 / G) x=x:=by unfold y7;rw[if_neg h1,if_neg h2]
   rw[e2]
   unfold y7
   rw[if_neg h1,if_neg h2]
theorem a9N(G:Rat)(x:Str × Rat):O3 (y7 G x)=O3 x:=by unfold O3;rw[a3W]
theorem b3H(G:Rat)(xs:List (Str × Rat)):F4 (xs.map (y7 G))=F4 xs:=by
 induction xs with
 | nil=>rfl
 | cons x r ih =>
  unfold F4 at ih ⊢
  rw[c9F,c98,c98,a9N]
  split
  ·rw[c9B,c9B,ih]
  ·exact ih
theorem a19(xs ys:List (Str × Rat)):F4 (xs++ys)=F4 xs+F4 ys:=by unfold F4;rw[c9J,c9h]
theorem a9M(xs:List (Str × Rat)):F4 xs.reverse=F4 xs:=by unfold F4;rw[d1P,c9w]
theorem b3I(xs:List (Str × Rat))(i:Nat):F4 (xs.take i)≤F4 xs:=by
 have:=a19 (xs.take i) (xs.drop i)
 rw[d0J]at this
 omega
theorem b0u{G:Rat}(h:0<G.num):G≠0:=by
 intro z;rw[z]at h;exact absurd h (by decide)
noncomputable def tbQ(bs:List (Str × Rat)):Q4:=((g8 bs (1,0)).1,(g8 bs (0,1)).1,(g8 bs (1,0)).2,(g8 bs (0,1)).2)
theorem b79{G:Rat}(hp:0<G.num)(hG:sz G≤67){xs:List (Str × Rat)}(hx:∀ x∈xs,O3 x=true→sz (y7 (1 / G) x).2≤5)(ha:F4 xs≤14):CDQ 230 (tbQ xs):=by
 have g0:=b0u hp
 have e:xs=(xs.map (y7 (1 / G))).map (y7 G):=by
  rw[c9N]
  exact(List.map_id xs).symm.trans (d1Q fun x _=>(b2H g0 x).symm)
 have c:=b8M (k:=5) (xs.map (y7 (1 / G))) (fun x h=>by
  obtain⟨z,hz,rfl⟩:=c9t.mp h
  rw[a9N]
  exact hx z hz) CD.one
 rw[b3H]at c
 have c2:=(c.mono (show 1+(5+1)*F4 xs≤85 by omega)).wide hG hp
 have o:=b5G g0 (xs.map (y7 (1 / G)))
 rw[← e]at o
 have o1:=o (1 / G) 0
 have o2:=o 0 1
 rw[show G*(1 / G)=1 by grind]at o1
 rw[show G*(0:Rat)=0 by grind]at o2
 have l1:=G6 (xs.map (y7 (1 / G))) (1 / G) 0
 unfold CDQ tbQ
 rw[o1,o2]
 generalize g8 (xs.map (y7 (1 / G))) (1,0)=p at *
 generalize g8 (xs.map (y7 (1 / G))) (0,1)=q at *
 show CD 230 (G*(g8 (xs.map (y7 (1 / G))) (1 / G,0)).1) (G*q.1) (g8 (xs.map (y7 (1 / G))) (1 / G,0)).2 q.2
 rw[l1.1,l1.2,show G*(p.1*(1 / G)+q.1*0)=p.1 by grind,show p.2*(1 / G)+q.2*0=p.2 / G by grind]
 exact c2.mono (by omega)
theorem a2d(bs:List (Str × Rat)):W9 (tbQ bs)=1:=b8L bs
noncomputable def d8(near:Rat)(bs:List (Str × Rat))(far:Rat):List (Str × Rat):=bs++[(Str.ofString "glass",far)]++bs.reverse++[(Str.ofString "glass",near)]
structure C6(near:Rat)(bs:List (Str × Rat))(far:Rat):Prop where
 ex:∃ G:Rat,0<G.num∧sz G≤67∧sz (near*G)≤5∧sz (far*G)≤5∧∀ x∈bs,O3 x=true→sz (y7 (1 / G) x).2≤5
 act:F4 bs≤6
 len:bs.length≤9
 part:∀ x∈bs,sz x.2≤80∧((x.1 = "gap" ∧ 0≤x.2)∨x.1 = "glass" ∨ (x.1 = "stop" ∧ 0<x.2))
 zn:sz near≤80
 zf:sz far≤80
theorem a4L{G q:Rat}(h:sz (q*G)≤5):sz (y7 (1 / G) (Str.ofString "glass",q)).2≤5:=by
 have:y7 (1 / G) (Str.ofString "glass",q)=(Str.ofString "glass",q / (1 / G)):=by
  unfold y7
  rw[if_neg (show ¬ Str.ofString "glass" = Str.ofString "gap" by decide),if_pos rfl]
 rw[this]
 by_cases g:G=0
 ·rw[g]
  show sz (q / (1 / 0))≤5
  rw[show q / (1 / 0)=(0:Rat)by grind,RM.C9];decide
 ·rw[show q / (1 / G)=q*G by grind];exact h
theorem C6.cd{near far:Rat}{bs:List (Str × Rat)}(h:C6 near bs far)(i:Nat):CDQ 230 (tbQ ((d8 near bs far).take i)):=by
 obtain⟨G,hp,hG,hn,hf,hb⟩:=h.ex
 refine b79 hp hG (fun x hx ha=>?_) ?_
 ·have hx:=d0R hx
  unfold d8 at hx
  rcases c9g.mp hx with hx|hx
  ·rcases c9g.mp hx with hx|hx
   ·rcases c9g.mp hx with hx|hx
    ·exact hb x hx ha
    ·rw[c88.mp hx];exact a4L hf
   ·exact hb x (c99.mp hx) ha
  ·rw[c88.mp hx];exact a4L hn
 ·refine c85 (b3I _ _) ?_
  unfold d8
  rw[a19,a19,a19,a9M]
  have:=h.act
  have e1:F4 [(Str.ofString "glass",far)]=1:=rfl
  have e2:F4 [(Str.ofString "glass",near)]=1:=rfl
  omega
theorem C6.szs{near far:Rat}{bs:List (Str × Rat)}(h:C6 near bs far):∀ x∈d8 near bs far,sz x.2≤80:=by
 intro x hx
 unfold d8 at hx
 rcases c9g.mp hx with hx|hx
 ·rcases c9g.mp hx with hx|hx
  ·rcases c9g.mp hx with hx|hx
   ·exact(h.part x hx).1
   ·rw[c88.mp hx];exact h.zf
  ·exact(h.part x (c99.mp hx)).1
 ·rw[c88.mp hx];exact h.zn
theorem O2(near far:Rat)(bs:List (Str × Rat)):(d8 near bs far).length=2*bs.length+2:=by
 unfold d8
 simp only[c9h,c9w,c9B,d0i]
 omega
theorem V9{S T:Nat}{xs:List (Str × Rat)}{y u:Rat}(h:CDQ S (tbQ xs))(g:CD T y 0 u 0):CD (S+T+1) (g8 xs (y,u)).1 0 (g8 xs (y,u)).2 0:=by
 have c:=CD.mul (k:=(y,0,u,0)) h g
 have l:=G6 xs y u
 unfold CDQ O8 tbQ at c
 rw[l.1,l.2]
 rw[show ∀ a b:Rat,a*0+b*0=0 from fun a b=>by grind]at c
 rw[show ∀ a b:Rat,a*0+b*0=0 from fun a b=>by grind]at c
 exact c
theorem b9m(q:Rat)(m:Int):c9x q.num ((q.den:Int)*m)=q / (m:Rat):=by
 rw[c9S,c82,c87,← w6 q]
 have h:(q.den:Rat)≠0:=by
  intro z;exact q.den_nz (by exact_mod_cast z)
 grind
theorem c5s{m:Int}(h0:2≤m)(h1:m≤3):sz (m:Rat)≤2∧sz (1 - 1 / (m:Rat))≤2∧0<1 / (m:Rat)∧0<1 - 1 / (m:Rat):=by
 have:m=2∨m=3:=by omega
 rcases this with rfl|rfl
 ·exact⟨by decide +kernel,by decide +kernel,by decide +kernel,by decide +kernel⟩
 ·exact⟨by decide +kernel,by decide +kernel,by decide +kernel,by decide +kernel⟩
theorem a7I{q:Rat}(h:0<q):0<q.num:=by
 have:=(d12 0 q).mp h
 simpa using this
theorem a4o{t b:Int}{k:Nat}(hk:0<k)(ht:t.natAbs<2 ^ k)(h0:0<b)(hb:b.natAbs<2 ^ k):sz (c9x t b)≤k:=c85 (RM.M6 t b (by omega)) (d0S.mpr ⟨RM.a0l ht hk,RM.a0l hb hk⟩)
theorem b0t{t b:Int}(h:0<t)(h0:0<b):0<c9x t b:=by
 rw[c9S]
 have h1:(0:Rat)<(t:Rat):=by exact_mod_cast h
 have h2:(0:Rat)<(b:Rat):=by exact_mod_cast h0
 exact(d1I h2).mpr (by grind)
theorem a0J{ts bs:List Int}{k:Nat}(hk:0<k)(ht:∀ t∈ts,t.natAbs<2 ^ k)(hb:∀ b∈bs,0<b∧b.natAbs<2 ^ k):∀ t∈ts,∀ b∈bs,sz (c9x t b)≤k:=fun t h b g=>a4o hk (ht t h) (hb b g).1 (hb b g).2
theorem b2k{ts bs:List Int}{k:Nat}(hk:0<k)(ht:∀ t∈ts,0<t∧t.natAbs<2 ^ k)(hb:∀ b∈bs,0<b∧b.natAbs<2 ^ k):∀ t∈ts,∀ b∈bs,0<c9x t b∧sz (c9x t b)≤k:=fun t h b g=>⟨b0t (ht t h).1 (hb b g).1,a4o hk (ht t h).2 (hb b g).1 (hb b g).2⟩
theorem b2m{ts bs:List Int}{k:Nat}(hk:0<k)(ht:∀ t∈ts,0≤t∧t.natAbs<2 ^ k)(hb:∀ b∈bs,0<b∧b.natAbs<2 ^ k):∀ t∈ts,∀ b∈bs,0≤c9x t b∧sz (c9x t b)≤k:=fun t h b g=>⟨by
 by_cases z:t=0
 ·rw[z,Rat.zero_divInt];exact Rat.le_refl
 ·exact d1B (b0t (by have:=(ht t h).1;omega) (hb b g).1),a4o hk (ht t h).2 (hb b g).1 (hb b g).2⟩
theorem lg9{n:Nat}(h:n<128):n.log2<9000:=c80 (F0 (k:=7) h (by decide)) (by decide)
local macro_rules|`(tactic| walk_at "inj")=>`(tactic| (rename_i e h;simp only[List.cons.injEq,and_true,true_and,GM.j7,GM.j3,GM.i7,GM.j4,GM.i8,D.tup.injEq,D.ref.injEq,D.int.injEq,D.str.injEq,D.bl.injEq,D.vl.injEq,c9i,and_assoc]at e;(repeat(obtain⟨e1,e⟩:=e;subst e1));subst e;exact h))
local macro_rules|`(tactic| walk_at "injs")=>`(tactic| (rename_i e o h;rcases o with o|o<;>(subst o;first|(exfalso;simp only[D.tup.injEq,List.cons.injEq,reduceCtorEq,false_and,and_false]at e;done)|(simp only[List.cons.injEq,and_true,true_and,GM.j7,GM.j3,GM.i7,GM.j4,GM.i8,D.tup.injEq,D.ref.injEq,D.int.injEq,D.str.injEq,D.bl.injEq,D.vl.injEq,c9i,and_assoc]at e;(repeat(obtain⟨e1,e⟩:=e;subst e1));subst e;exact h))))
noncomputable abbrev a3e(p:Addr)(x y:D)(M:Mem)(R:DK)(Y:DXK):Prop:=C5 M p∧∃(ts bs:List Int) (P:Rat→Prop),x = .vl (ts.map D.int)∧y = .vl (bs.map D.int)∧((0<ts.length∧ts.length≤100)∧(0<bs.length∧bs.length≤100)∧(∀ b∈bs,0<b∧b≤1000)∧∀ t∈ts,∀ b∈bs,P (c9x t b))∧∀(q:Rat) M',P q→u3 p M M'→R (d9 q) M'
noncomputable def a2P:DSp:=fun ds M R Y=>∃(p:Addr) (x y:D),ds=[.ref p,x,y]∧a3e p x y M R Y
theorem b1a{p:Addr}{x y:D}{M:Mem}{R:DK}{Y:DXK}:a2P [.ref p,x,y] M R Y=(a3e p x y M R Y):=propext ⟨fun z=>by obtain⟨_,_,_,_,_⟩:=z;walk_at "inj",fun h=>⟨p,x,y,rfl,h⟩⟩
noncomputable abbrev a0w(p:Addr)(G:Rat)(M:Mem)(R:DK)(Y:DXK):Prop:=C5 M p∧(0<G∧sz G≤67)∧∀(qs:List Rat) M',qs.length≤3→(∀ q∈qs,0≤q∧sz q≤5)→u3 p M M'→R (.vl ((qs.map fun q=>(Str.ofString "gap",G*q)).map f9)) M'
noncomputable def a7g:DSp:=fun ds M R Y=>∃(p:Addr) (G:Rat),ds=[.ref p,d9 G]∧a0w p G M R Y
theorem a5U{p:Addr}{G:Rat}{M:Mem}{R:DK}{Y:DXK}:a7g [.ref p,d9 G] M R Y=(a0w p G M R Y):=propext ⟨fun z=>by obtain⟨_,_,_,_⟩:=z;walk_at "inj",fun h=>⟨p,G,rfl,h⟩⟩
noncomputable abbrev a0A(p:Addr)(x:D)(n:Int)(M:Mem)(R:DK)(Y:DXK):Prop:=C5 M p∧∃ bs:List (Str × Rat),x = .vl (bs.map f9)∧(0≤n∧n≤4∧bs.length≤20)∧∀(cs:List (Str × Rat)) M',cs.length≤bs.length+n.toNat→cs.filter O3=bs.filter O3→(∀ x∈cs,x∈bs∨(x.1 = "stop" ∧ 0<x.2∧sz x.2≤10))→u3 p M M'→R (.vl (cs.map f9)) M'
noncomputable def a3j:DSp:=fun ds M R Y=>∃(p:Addr) (x:D) (n:Int),ds=[.ref p,x,.int n]∧a0A p x n M R Y
theorem a5Y{p:Addr}{x:D}{n:Int}{M:Mem}{R:DK}{Y:DXK}:a3j [.ref p,x,.int n] M R Y=(a0A p x n M R Y):=propext ⟨fun z=>by obtain⟨_,_,_,_,_⟩:=z;walk_at "inj",fun h=>⟨p,x,n,rfl,h⟩⟩
noncomputable abbrev a3i(p:Addr)(M:Mem)(R:DK)(Y:DXK):Prop:=C5 M p∧∀(near:Rat) (bs:List (Str × Rat)) (far:Rat) M',C6 near bs far→bs.length≤7→F4 bs≤4→u3 p M M'→R (.tup [d9 near,.vl (bs.map f9),d9 far]) M'
noncomputable def a83:DSp:=fun ds M R Y=>∃(p:Addr),ds=[.ref p]∧a3i p M R Y
theorem b1e{p:Addr}{M:Mem}{R:DK}{Y:DXK}:a83 [.ref p] M R Y=(a3i p M R Y):=propext ⟨fun z=>by obtain⟨_,_,_⟩:=z;walk_at "inj",fun h=>⟨p,rfl,h⟩⟩
noncomputable def lpD(w:D)(n:D)(x:Str × Rat):D:=.tup [w,n,f9 x]
noncomputable def a6E(near:Rat)(bs:List (Str × Rat))(far:Rat):List D:=(bs.zipIdx.map fun x=>lpD (.str "forth") (.int (x.2:Int)) x.1)++[lpD .non .non (Str.ofString "glass",far)]++(bs.zipIdx.reverse.map fun x=>lpD (.str "back") (.int (x.2:Int)) x.1)++[lpD .non .non (Str.ofString "glass",near)]
noncomputable abbrev a0B(near:Rat)(bs:List (Str × Rat))(far:Rat)(M:Mem)(R:DK)(Y:DXK):Prop:=bs.length≤9∧R (.vl (a6E near bs far)) M
noncomputable def a3k:DSp:=fun ds M R Y=>∃(near:Rat) (bs:List (Str × Rat)) (far:Rat),ds=[.tup [d9 near,.vl (bs.map f9),d9 far]]∧a0B near bs far M R Y
theorem a5Z{near:Rat}{bs:List (Str × Rat)}{far:Rat}{M:Mem}{R:DK}{Y:DXK}:a3k [.tup [d9 near,.vl (bs.map f9),d9 far]] M R Y=(a0B near bs far M R Y):=propext ⟨fun z=>by obtain⟨_,_,_,_,_⟩:=z;walk_at "inj",fun h=>⟨near,bs,far,rfl,h⟩⟩
theorem a8G{G near far:Rat}{bs cs:List (Str × Rat)}(hp:0<G.num)(hG:sz G≤67)(hn:sz (near*G)≤5)(hf:sz (far*G)≤5)(zn:sz near≤80)(zf:sz far≤80)
  (hb:∀ x∈bs,sz (y7 (1 / G) x).2≤5∧sz x.2≤80∧((x.1 = "gap" ∧ 0≤x.2)∨x.1 = "glass")) (hl:bs.length≤4) (hc:cs.length≤7) (hfl:cs.filter O3=bs.filter O3)
  (hm:∀ x∈cs,x∈bs∨(x.1 = "stop" ∧ 0<x.2∧sz x.2≤10)):C6 near cs far∧cs.length≤7∧F4 cs≤4:=by
 have ha:F4 cs≤4:=by
  unfold F4;rw[hfl];exact c85 (d0q _ _) hl
 refine⟨⟨⟨G,hp,hG,hn,hf,fun x hx h=>?_⟩,by omega,by omega,fun x hx=>?_,zn,zf⟩,hc,ha⟩
 ·rcases hm x hx with h1|⟨h1,_⟩
  ·exact(hb x h1).1
  ·unfold O3 at h;rw[h1]at h;exact absurd h (by decide)
 ·rcases hm x hx with h1|⟨h1,h2,h3⟩
  ·obtain⟨_,h2,h3⟩:=hb x h1
   exact⟨h2,h3.elim .inl fun h=>.inr (.inl h)⟩
  ·exact⟨by omega,.inr (.inr ⟨h1,h2⟩)⟩
theorem b6q{G q:Rat}(h:G≠0):(y7 (1 / G) (Str.ofString "gap",G*q)).2=q:=by
 show(if Str.ofString "gap" = Str.ofString "gap" then(Str.ofString "gap",1 / G*(G*q))else _).2=q
 rw[if_pos rfl]
 show 1 / G*(G*q)=q
 grind
theorem b5I(x:Str × Rat):(y7 (1 / 1) x).2=x.2:=by
 unfold y7
 split
 ·show 1 / 1*x.2=x.2;grind
 ·split
  ·show x.2 / (1 / 1)=x.2;grind
  ·rfl
theorem a9p{G:Rat}(h:0<G.num){n b:Int}(hb:b≠0):c9x (n*(G.den:Int)) (b*G.num)=(n:Rat) / (b:Rat) / G:=by
 have hd:(G.den:Rat)≠0:=by
  intro z;exact G.den_nz (by exact_mod_cast z)
 have e:=w6 G
 have g0:=b0u h
 have b0:(b:Rat)≠0:=by
  intro z;exact hb (by exact_mod_cast z)
 rw[c9S,c82,c82,c87,← e]
 grind
theorem b6b{G:Rat}(h0:0<G)(hG:sz G≤67){qs:List Rat}(hl:qs.length≤3)(hq:∀ q∈qs,0≤q∧sz q≤5){cs:List (Str × Rat)}(hc:cs.length≤7)
  (hfl:cs.filter O3=(qs.map fun q=>(Str.ofString "gap",G*q)).filter O3) (hm:∀ x∈cs,x∈(qs.map fun q=>(Str.ofString "gap",G*q))∨(x.1 = "stop" ∧ 0<x.2∧sz x.2≤10)) {n f b:Int}
  (hn:n.natAbs≤13) (hf:f.natAbs≤13) (hb:b=1∨b=2):C6 ((n:Rat) / (b:Rat) / G) cs ((f:Rat) / (b:Rat) / G)∧cs.length≤7∧F4 cs≤4:=by
 have hp:0<G.num:=a7I h0
 have g0:=b0u hp
 have sm:∀ k:Int,k.natAbs≤13→sz ((k:Rat) / (b:Rat))≤5:=fun k hk=>by
  have:=a4o (t:=k) (b:=b) (k:=5) (by decide) (show k.natAbs<32 by omega) (by omega) (show b.natAbs<32 by omega)
  rw[c9S]at this
  exact this
 have z1:=RM.S7 ((n:Rat) / (b:Rat)) G g0
 have z2:=RM.S7 ((f:Rat) / (b:Rat)) G g0
 have y1:=sm n hn
 have y2:=sm f hf
 refine a8G hp hG ?_ ?_ (by omega) (by omega) (fun x hx=>?_) (by rw[c8Y];omega) hc hfl hm
 ·rw[show(n:Rat) / (b:Rat) / G*G=(n:Rat) / (b:Rat)by grind];exact y1
 ·rw[show(f:Rat) / (b:Rat) / G*G=(f:Rat) / (b:Rat)by grind];exact y2
 ·obtain⟨q,h1,rfl⟩:=c9t.mp hx
  have h2:=hq q h1
  have z3:=RM.y8 G q
  exact⟨by rw[b6q g0];exact h2.2,by show sz (G*q)≤80;omega,.inl ⟨rfl,c9s (d1B h0) h2.1⟩⟩
theorem a89{near far:Rat}{bs cs:List (Str × Rat)}(hn:sz near≤5)(hf:sz far≤5)(hb:∀ x∈bs,sz x.2≤5∧((x.1 = "gap" ∧ 0≤x.2)∨x.1 = "glass"))(hl:bs.length≤4)(hc:cs.length≤7)(hfl:cs.filter O3=bs.filter O3)
  (hm:∀ x∈cs,x∈bs∨(x.1 = "stop" ∧ 0<x.2∧sz x.2≤10)):C6 near cs far∧cs.length≤7∧F4 cs≤4 :=
 a8G (G:=1) (by decide) (by rw[RM.S5];decide) (by rw[show near*1=near by grind];exact hn) (by rw[show far*1=far by grind];exact hf) (by omega) (by omega)
  (fun x hx=>⟨by rw[b5I];exact(hb x hx).1,c85 (hb x hx).1 (by decide),(hb x hx).2⟩) hl hc hfl hm
theorem a2y(bs:List (Str × Rat)):S1 (bs.map f9)=bs.zipIdx.map fun x=>D.tup [.int (x.2:Int),f9 x.1]:=by
 unfold S1
 refine d0z (by simp) fun i h1 h2=>?_
 simp
theorem b6z(bs:List (Str × Rat)):a0Y ((bs.length:Int) - 1) bs.length=bs.zipIdx.reverse.map fun x=>D.int (x.2:Int):=by
 unfold a0Y
 refine d0z (by simp) fun i h1 h2=>?_
 have hi:i<bs.length:=by simpa using h1
 simp only[List.getElem_map,List.getElem_range,d1F,List.getElem_zipIdx,c9C]
 congr 1
 omega
noncomputable def j5(near:Rat)(bs:List (Str × Rat))(far:Rat):List (D × D × (Str × Rat)):=(bs.zipIdx.map fun x=>(D.str "forth",D.int (x.2:Int),x.1))++[(.non,.non,(Str.ofString "glass",far))]++(bs.zipIdx.reverse.map fun x=>(D.str "back",D.int (x.2:Int),x.1))++[(.non,.non,(Str.ofString "glass",near))]
theorem a7R(near far:Rat)(bs:List (Str × Rat)):a6E near bs far=(j5 near bs far).map fun z=>lpD z.1 z.2.1 z.2.2:=by
 unfold a6E j5
 simp only[c9f,c9N,c9F,d0e,d0A]
 rfl
theorem a13(near far:Rat)(bs:List (Str × Rat)):d8 near bs far=(j5 near bs far).map fun z=>z.2.2:=by
 unfold d8 j5
 simp only[c9f,c9N,c9F,d0e,d0A]
 have e1:∀ w:D,c97 ((fun z:D × D × (Str × Rat)=>z.2.2) ∘ fun x:(Str × Rat) × Nat=>(w,D.int (x.2:Int),x.1)) bs.zipIdx=bs:=fun w=>by
  have:((fun z:D × D × (Str × Rat)=>z.2.2) ∘ fun x:(Str × Rat) × Nat=>(w,D.int (x.2:Int),x.1))=Prod.fst:=rfl
  rw[this];exact List.zipIdx_map_fst 0 bs
 rw[e1,e1]
theorem b3r{near far:Rat}{bs:List (Str × Rat)}{i:Nat}{d:D}(h:(a6E near bs far)[i]? = some d):∃(w n:D) (x:Str × Rat),d = .tup [w,n,f9 x]∧(d8 near bs far)[i]? = some x:=by
 rw[a7R,c83]at h
 rw[a13,c83]
 cases e:(j5 near bs far)[i]? with
 | none=>rw[e]at h;cases h
 | some z =>
  rw[e]at h
  exact⟨z.1,z.2.1,z.2.2,(Option.some.inj h).symm,rfl⟩
theorem a6D(near far:Rat)(bs:List (Str × Rat)):(a6E near bs far).length=(d8 near bs far).length:=by rw[a7R,a13,c8Y,c8Y]
end GM
namespace GM
open PySem PySem.Spec L2 DL
open RM (sz)
theorem a8L{m k:Q4}(h:F6 m=F6 k):m=k:=by
 unfold F6 a2e at h
 injection h with h
 injection h with h1 h
 injection h with h2 h
 injection h with h3 h
 injection h with h4 _
 exact a7U (G5 h1) (G5 h2) (G5 h3) (G5 h4)
theorem b8c{q r:Rat}(h:r*r=q):sz r≤sz q:=by
 have e:=a31 r
 rw[h]at e
 refine RM.b1L (c85 (RM.X4 ?_) (RM.M8 q)) (c85 (RM.X4 ?_) (RM.E3 q))
 ·rw[e.1,c9q];exact d00 _
 ·rw[e.2];exact d00 _
noncomputable def trQ(m:Q4):Rat:=m.1+m.2.2.2
noncomputable def a1X(m:Q4):D:=if m=(1,0,0,1)then .int 1 else if m=(-1,0,0,-1)then .int 2 else if trQ m = -1 then .int 3 else if trQ m=0 then .int 4 else if trQ m=1 then .int 6 else .non
noncomputable abbrev u7(m:Q4):Prop:=m=(1,0,0,1)∨m=(-1,0,0,-1)∨trQ m = -1∨trQ m=0∨trQ m=1
theorem b1S{m:Q4}(h:u7 m):∃ n:Int,a1X m = .int n:=by
 unfold a1X
 by_cases h1:m=(1,0,0,1)
 ·exact⟨1,if_pos h1⟩
 ·rw[if_neg h1]
  by_cases h2:m=(-1,0,0,-1)
  ·exact⟨2,if_pos h2⟩
  ·rw[if_neg h2]
   by_cases h3:trQ m = -1
   ·exact⟨3,if_pos h3⟩
   ·rw[if_neg h3]
    by_cases h4:trQ m=0
    ·exact⟨4,if_pos h4⟩
    ·rw[if_neg h4]
     by_cases h5:trQ m=1
     ·exact⟨6,if_pos h5⟩
     ·rcases h with h|h|h|h|h<;>contradiction
theorem a7s{m:Q4}(h:¬ u7 m):a1X m = .non:=by
 unfold u7 at h
 unfold a1X
 rw[if_neg (fun e=>h (.inl e)),if_neg (fun e=>h (.inr (.inl e))),if_neg (fun e=>h (.inr (.inr (.inl e)))),if_neg (fun e=>h (.inr (.inr (.inr (.inl e))))),if_neg (fun e=>h (.inr (.inr (.inr (.inr e)))))]
noncomputable def kwS(m:Q4):Str:=if u7 m then "same" else if f6 (trQ m)=2 then "shear" else if f6 (trQ m)<2 then "turns" else "off"
noncomputable def c0p(m:Q4):D:=.tup [d9 m.2.2.1,d9 (m.2.2.2 - m.1),d9 (-m.2.1)]
noncomputable def b0Y(m:Q4):D:=if m.2.1=0 then v6 0 1 else v6 m.2.1 (trQ m / 2 - m.1)
noncomputable def b2E(t:Rat)(v:D):Prop:=(∃ r:Rat,0≤r∧r*r=t*t - 4∧v=d9 ((t - (if t<0 then -r else r)) / 2))∨((∀ r:Rat,r*r≠t*t - 4)∧v = .non)
noncomputable def c2L(m:Q4)(v:D):Prop:=(kwS m = "same" ∧ v=a1X m)∨(kwS m = "turns" ∧ v=c0p m)∨(kwS m = "shear" ∧ v=b0Y m)∨(kwS m = "off" ∧ b2E (trQ m) v)
theorem b5T(m:Q4):O8 m (1,0,0,1)=m∧O8 (1,0,0,1) m=m∧O8 m (-1,0,0,-1)=(-m.1,-m.2.1,-m.2.2.1,-m.2.2.2)∧O8 (-1,0,0,-1) m=(-m.1,-m.2.1,-m.2.2.1,-m.2.2.2):=by
 refine⟨?_,?_,?_,?_⟩<;>(refine a7U ?_ ?_ ?_ ?_<;>(simp only[O8];grind))
theorem C6.rev{near far:Rat}{bs:List (Str × Rat)}(h:C6 near bs far):C6 far bs.reverse near:=by
 obtain⟨G,g1,g2,g3,g4,g5⟩:=h.ex
 exact⟨⟨G,g1,g2,g4,g3,fun x hx=>g5 x (c99.mp hx)⟩,by rw[a9M];exact h.act,by rw[c9w];exact h.len,fun x hx=>h.part x (c99.mp hx),h.zf,h.zn⟩
noncomputable def L3(m:Q4)(r:Rat × Rat):Nat→Rat × Rat
 | 0=>r
 | k+1=>(m.1*(L3 m r k).1+m.2.1*(L3 m r k).2,m.2.2.1*(L3 m r k).1+m.2.2.2*(L3 m r k).2)
theorem b1T{bs:List (Str × Rat)}(r:Rat × Rat)(k:Nat):g8 bs (L3 (tbQ bs) r k)=L3 (tbQ bs) r (k+1):=by
 have l:=G6 bs (L3 (tbQ bs) r k).1 (L3 (tbQ bs) r k).2
 exact Prod.ext l.1 l.2
theorem b0r(m:Q4)(r:Rat × Rat):∀ k,L3 m r k=((pwQ m k).1*r.1+(pwQ m k).2.1*r.2,(pwQ m k).2.2.1*r.1+(pwQ m k).2.2.2*r.2)
 | 0=>by
  show r=_
  simp only[pwQ]
  exact Prod.ext (by grind) (by grind)
 | k+1=>by
  have ih:=b0r m r k
  show(_,_)=_
  rw[ih]
  simp only[pwQ,O8]
  exact Prod.ext (by grind) (by grind)
theorem b5m{m:Q4}(hd:W9 m=1)(r:Rat × Rat)(p q:Rat)(k:Nat):p*(L3 m r (k+2)).1+q*(L3 m r (k+2)).2=trQ m*(p*(L3 m r (k+1)).1+q*(L3 m r (k+1)).2) - (p*(L3 m r k).1+q*(L3 m r k).2):=by
 have hd':m.1*m.2.2.2 - m.2.1*m.2.2.1=1:=hd
 simp only[L3,trQ]
 grind
local macro_rules|`(tactic| walk_at "inj")=>`(tactic| (rename_i e h;simp only[List.cons.injEq,and_true,true_and,GM.j7,GM.j3,GM.i7,GM.j4,GM.i8,D.tup.injEq,D.ref.injEq,D.int.injEq,D.str.injEq,D.bl.injEq,D.vl.injEq,c9i,and_assoc]at e;(repeat(obtain⟨e1,e⟩:=e;subst e1));subst e;exact h))
local macro_rules|`(tactic| walk_at "injs")=>`(tactic| (rename_i e o h;rcases o with o|o<;>(subst o;first|(exfalso;simp only[D.tup.injEq,List.cons.injEq,reduceCtorEq,false_and,and_false]at e;done)|(simp only[List.cons.injEq,and_true,true_and,GM.j7,GM.j3,GM.i7,GM.j4,GM.i8,D.tup.injEq,D.ref.injEq,D.int.injEq,D.str.injEq,D.bl.injEq,D.vl.injEq,c9i,and_assoc]at e;(repeat(obtain⟨e1,e⟩:=e;subst e1));subst e;exact h))))
noncomputable abbrev a68(x:D)(M:Mem)(R:DK)(Y:DXK):Prop:=∃ m:Q4,x=F6 m∧CDQ 230 m∧R (d9 (trQ m)) M
noncomputable def a1C:DSp:=fun ds M R Y=>∃(x:D),ds=[x]∧a68 x M R Y
theorem b3M{x:D}{M:Mem}{R:DK}{Y:DXK}:a1C [x] M R Y=(a68 x M R Y):=propext ⟨fun z=>by obtain⟨_,_,_⟩:=z;walk_at "inj",fun h=>⟨x,rfl,h⟩⟩
noncomputable abbrev a7e(x:D)(M:Mem)(R:DK)(Y:DXK):Prop:=∃ m:Q4,x=F6 m∧CDQ 230 m∧R (a1X m) M
noncomputable def b0h:DSp:=fun ds M R Y=>∃(x:D),ds=[x]∧a7e x M R Y
theorem b3P{x:D}{M:Mem}{R:DK}{Y:DXK}:b0h [x] M R Y=(a7e x M R Y):=propext ⟨fun z=>by obtain⟨_,_,_⟩:=z;walk_at "inj",fun h=>⟨x,rfl,h⟩⟩
noncomputable abbrev b1R(x:D)(M:Mem)(R:DK)(Y:DXK):Prop:=∃ m:Q4,x=F6 m∧CDQ 230 m∧R (.str (kwS m)) M
noncomputable def sKw:DSp:=fun ds M R Y=>∃(x:D),ds=[x]∧b1R x M R Y
theorem b9N{x:D}{M:Mem}{R:DK}{Y:DXK}:sKw [x] M R Y=(b1R x M R Y):=propext ⟨fun z=>by obtain⟨_,_,_⟩:=z;walk_at "inj",fun h=>⟨x,rfl,h⟩⟩
noncomputable abbrev a0C(x:D)(M:Mem)(R:DK)(Y:DXK):Prop:=∃ m:Q4,x=F6 m∧CDQ 230 m∧R (c0p m) M
noncomputable def a7o:DSp:=fun ds M R Y=>∃(x:D),ds=[x]∧a0C x M R Y
theorem a50{x:D}{M:Mem}{R:DK}{Y:DXK}:a7o [x] M R Y=(a0C x M R Y):=propext ⟨fun z=>by obtain⟨_,_,_⟩:=z;walk_at "inj",fun h=>⟨x,rfl,h⟩⟩
noncomputable abbrev a1W(x:D)(M:Mem)(R:DK)(Y:DXK):Prop:=∃ m:Q4,x=F6 m∧CDQ 230 m∧R (b0Y m) M
noncomputable def b0q:DSp:=fun ds M R Y=>∃(x:D),ds=[x]∧a1W x M R Y
theorem a8t{x:D}{M:Mem}{R:DK}{Y:DXK}:b0q [x] M R Y=(a1W x M R Y):=propext ⟨fun z=>by obtain⟨_,_,_⟩:=z;walk_at "inj",fun h=>⟨x,rfl,h⟩⟩
noncomputable abbrev a7d(t:Rat)(M:Mem)(R:DK)(Y:DXK):Prop:=sz t≤231∧∀ v,b2E t v→R v M
noncomputable def c1f:DSp:=fun ds M R Y=>∃(t:Rat),ds=[d9 t]∧a7d t M R Y
theorem b3O{t:Rat}{M:Mem}{R:DK}{Y:DXK}:c1f [d9 t] M R Y=(a7d t M R Y):=propext ⟨fun z=>by obtain⟨_,_,_⟩:=z;walk_at "inj",fun h=>⟨t,rfl,h⟩⟩
end GM
namespace GM
open PySem PySem.Spec L2 DL
open RM (sz)
theorem O4(a b:Rat):f6 (a*b)=f6 a*f6 b:=by
 have h1:=a72 (a*b)
 have h2:0≤f6 a*f6 b:=c9s (a72 a) (a72 b)
 have h3:=a71 (a*b)
 have h4:=a71 a
 have h5:=a71 b
 have e:f6 (a*b)*f6 (a*b)=(f6 a*f6 b)*(f6 a*f6 b):=by grind
 have f:(f6 (a*b) - f6 a*f6 b)*(f6 (a*b)+f6 a*f6 b)=0:=by grind
 rcases c9A.mp f with z|z<;>grind
theorem b5k{m:Q4}(hd:W9 m=1)(h:u7 m):∃ n:Nat,a1X m = .int (n:Int)∧(n=1∨n=2∨n=3∨n=4∨n=6)∧pwQ m n=(1,0,0,1):=by
 have e:=c0h hd
 unfold a1X
 by_cases h1:m=(1,0,0,1)
 ·exact⟨1,by rw[if_pos h1];rfl,by decide,by rw[h1];decide +kernel⟩
 ·rw[if_neg h1]
  by_cases h2:m=(-1,0,0,-1)
  ·exact⟨2,by rw[if_pos h2];rfl,by decide,by rw[h2];decide +kernel⟩
  ·rw[if_neg h2]
   by_cases h3:trQ m = -1
   ·refine⟨3,by rw[if_pos h3];rfl,by decide,?_⟩
    have h3':m.1+m.2.2.2 = -1:=h3
    rw[e 3]
    simp only[xwQ,h3']
    exact a7U (by grind) (by grind) (by grind) (by grind)
   ·rw[if_neg h3]
    by_cases h4:trQ m=0
    ·refine⟨4,by rw[if_pos h4];rfl,by decide,?_⟩
     have h3':m.1+m.2.2.2=0:=h4
     rw[e 4]
     simp only[xwQ,h3']
     exact a7U (by grind) (by grind) (by grind) (by grind)
    ·rw[if_neg h4]
     by_cases h5:trQ m=1
     ·refine⟨6,by rw[if_pos h5];rfl,by decide,?_⟩
      have h3':m.1+m.2.2.2=1:=h5
      rw[e 6]
      simp only[xwQ,h3']
      exact a7U (by grind) (by grind) (by grind) (by grind)
     ·rcases h with h|h|h|h|h<;>contradiction
theorem c1c{t r:Rat}(h:¬ f6 t<2)(h2:¬ f6 t=2)(r0:0≤r)(r1:r*r=t*t - 4):∀ k,k=(t - (if t<0 then -r else r)) / 2→k<1∧-1<k∧k*k - t*k+1=0:=by
 intro k hk
 unfold f6 at h h2
 by_cases ht:t<0
 ·rw[if_pos ht]at hk
  rw[if_neg (by grind)]at h h2
  have e:k+k=t+r:=by grind
  have hr:r < -t:=by
   rcases d06 (a:=r) (b:=(-t))with z|z
   ·rcases Decidable.em (r = -t)with y|y
    ·exfalso;rw[y]at r1;grind
    ·grind
   ·exfalso
    have:-t * -t≤r*r:=Rat.le_trans (d0N z (by grind)) (d0K z r0)
    grind
  have kk:k*k - t*k+1=0:=by grind
  refine⟨by grind,?_,kk⟩
  rcases d06 (a:=k) (b:=(-1))with z|z
  ·exfalso
   have e2:(k+1)*(k - t - 1)=k*k - t*k - t - 1:=by grind
   have e3:k - t - 1≥0:=by grind
   have:0≤(-1 - k)*(k - t - 1):=c9s (by grind) (by grind)
   grind
  ·rcases Decidable.em (k = -1)with y|y
   ·exfalso;rw[y]at kk;grind
   ·grind
 ·rw[if_neg ht]at hk
  rw[if_pos (by grind)]at h h2
  have e:k+k=t - r:=by grind
  have kk:k*k - t*k+1=0:=by grind
  have hr:r<t:=by
   rcases d06 (a:=r) (b:=t)with z|z
   ·rcases Decidable.em (r=t)with y|y
    ·exfalso;rw[y]at r1;grind
    ·grind
   ·exfalso
    have:t*t≤r*r:=Rat.le_trans (d0N z (by grind)) (d0K z r0)
    grind
  refine⟨?_,by grind,kk⟩
  rcases d06 (a:=1) (b:=k)with z|z
  ·exfalso
   have:0≤(k - 1)*(t - 1 - k):=c9s (by grind) (by grind)
   grind
  ·rcases Decidable.em (k=1)with y|y
   ·exfalso;rw[y]at kk;grind
   ·grind
theorem lz(a y b u:Rat):sz (a*y+b*u)≤sz a+sz y+sz b+sz u+1:=by
 have h1:=RM.y8 a y
 have h2:=RM.y8 b u
 have h3:=RM.a01 (a*y) (b*u)
 omega
theorem K7(m:Q4):(u7 m∧kwS m=Str.ofString "same")∨(¬ u7 m∧f6 (trQ m)=2∧kwS m=Str.ofString "shear")∨(¬ u7 m∧¬ f6 (trQ m)=2∧f6 (trQ m)<2∧kwS m=Str.ofString "turns")∨(¬ u7 m∧¬ f6 (trQ m)=2∧¬ f6 (trQ m)<2∧kwS m=Str.ofString "off"):=by
 unfold kwS
 by_cases h1:u7 m
 ·exact .inl ⟨h1,if_pos h1⟩
 ·rw[if_neg h1]
  by_cases h2:f6 (trQ m)=2
  ·exact .inr (.inl ⟨h1,h2,if_pos h2⟩)
  ·rw[if_neg h2]
   by_cases h3:f6 (trQ m)<2
   ·exact .inr (.inr (.inl ⟨h1,h2,h3,if_pos h3⟩))
   ·exact .inr (.inr (.inr ⟨h1,h2,h3,if_neg h3⟩))
noncomputable def hD(h:Rat × List (Str × Rat) × Rat):D:=.tup [d9 h.1,.vl (h.2.1.map f9),d9 h.2.2]
local macro_rules|`(tactic| walk_at "inj")=>`(tactic| (rename_i e h;simp only[List.cons.injEq,and_true,true_and,GM.j7,GM.j3,GM.i7,GM.j4,GM.i8,D.tup.injEq,D.ref.injEq,D.int.injEq,D.str.injEq,D.bl.injEq,D.vl.injEq,c9i,and_assoc]at e;(repeat(obtain⟨e1,e⟩:=e;subst e1));subst e;exact h))
local macro_rules|`(tactic| walk_at "injs")=>`(tactic| (rename_i e o h;rcases o with o|o<;>(subst o;first|(exfalso;simp only[D.tup.injEq,List.cons.injEq,reduceCtorEq,false_and,and_false]at e;done)|(simp only[List.cons.injEq,and_true,true_and,GM.j7,GM.j3,GM.i7,GM.j4,GM.i8,D.tup.injEq,D.ref.injEq,D.int.injEq,D.str.injEq,D.bl.injEq,D.vl.injEq,c9i,and_assoc]at e;(repeat(obtain⟨e1,e⟩:=e;subst e1));subst e;exact h))))
end GM
namespace GM
open PySem PySem.Spec L2 DL
open RM (sz)
local macro_rules|`(tactic| walk_at "inj")=>`(tactic| (rename_i e h;simp only[List.cons.injEq,and_true,true_and,GM.j7,GM.j3,GM.i7,GM.j4,GM.i8,D.tup.injEq,D.ref.injEq,D.int.injEq,D.str.injEq,D.bl.injEq,D.vl.injEq,c9i,and_assoc]at e;(repeat(obtain⟨e1,e⟩:=e;subst e1));subst e;exact h))
local macro_rules|`(tactic| walk_at "injs")=>`(tactic| (rename_i e o h;rcases o with o|o<;>(subst o;first|(exfalso;simp only[D.tup.injEq,List.cons.injEq,reduceCtorEq,false_and,and_false]at e;done)|(simp only[List.cons.injEq,and_true,true_and,GM.j7,GM.j3,GM.i7,GM.j4,GM.i8,D.tup.injEq,D.ref.injEq,D.int.injEq,D.str.injEq,D.bl.injEq,D.vl.injEq,c9i,and_assoc]at e;(repeat(obtain⟨e1,e⟩:=e;subst e1));subst e;exact h))))
noncomputable abbrev a0a(xs:List D)(M:Mem)(R:DK)(Y:DXK):Prop:=R (.vl xs.reverse) M
noncomputable def a67:DSp:=fun ds M R Y=>∃(x0:D) (xs:List D),ds=[x0]∧(x0 = .vl (xs)∨x0 = .tup (xs))∧a0a xs M R Y
theorem a8d{xs:List D}{M:Mem}{R:DK}{Y:DXK}:a67 [.vl (xs)] M R Y=(a0a xs M R Y):=propext ⟨fun z=>by obtain⟨_,_,_,_,_⟩:=z;walk_at "injs",fun h=>⟨_,xs,rfl,.inl rfl,h⟩⟩
theorem a3t{xs:List D}{M:Mem}{R:DK}{Y:DXK}:a67 [.tup (xs)] M R Y=(a0a xs M R Y):=propext ⟨fun z=>by obtain⟨_,_,_,_,_⟩:=z;walk_at "injs",fun h=>⟨_,xs,rfl,.inr rfl,h⟩⟩
noncomputable abbrev a0b(near:Rat)(bs:List (Str × Rat))(far:Rat)(M:Mem)(R:DK)(Y:DXK):Prop:=bs.length≤9∧R (.vl ((d8 near bs far).map f9)) M
noncomputable def a4f:DSp:=fun ds M R Y=>∃(x0:D) (near:Rat) (bs:List (Str × Rat)) (far:Rat),ds=[.tup [d9 near,x0,d9 far]]∧(x0 = .vl (bs.map f9)∨x0 = .tup (bs.map f9))∧a0b near bs far M R Y
theorem a8g{near:Rat}{bs:List (Str × Rat)}{far:Rat}{M:Mem}{R:DK}{Y:DXK}:a4f [.tup [d9 near,.vl (bs.map f9),d9 far]] M R Y=(a0b near bs far M R Y):=propext ⟨fun z=>by obtain⟨_,_,_,_,_,_,_⟩:=z;walk_at "injs",fun h=>⟨_,near,bs,far,rfl,.inl rfl,h⟩⟩
theorem a3v{near:Rat}{bs:List (Str × Rat)}{far:Rat}{M:Mem}{R:DK}{Y:DXK}:a4f [.tup [d9 near,.tup (bs.map f9),d9 far]] M R Y=(a0b near bs far M R Y):=propext ⟨fun z=>by obtain⟨_,_,_,_,_,_,_⟩:=z;walk_at "injs",fun h=>⟨_,near,bs,far,rfl,.inr rfl,h⟩⟩
end GM
namespace GM
open PySem PySem.Spec L2 DL
open RM (sz)
noncomputable def rtN(m:Q4):Nat:=if m=(1,0,0,1)then 1 else if m=(-1,0,0,-1)then 2 else if trQ m = -1 then 3 else if trQ m=0 then 4 else if trQ m=1 then 6 else 0
theorem a2n(m:Q4)(h:u7 m):a1X m = .int (rtN m:Int):=by
 unfold a1X rtN
 by_cases h1:m=(1,0,0,1)
 ·rw[if_pos h1,if_pos h1];rfl
 ·rw[if_neg h1,if_neg h1]
  by_cases h2:m=(-1,0,0,-1)
  ·rw[if_pos h2,if_pos h2];rfl
  ·rw[if_neg h2,if_neg h2]
   by_cases h3:trQ m = -1
   ·rw[if_pos h3,if_pos h3];rfl
   ·rw[if_neg h3,if_neg h3]
    by_cases h4:trQ m=0
    ·rw[if_pos h4,if_pos h4];rfl
    ·rw[if_neg h4,if_neg h4]
     by_cases h5:trQ m=1
     ·rw[if_pos h5,if_pos h5];rfl
     ·rcases h with h|h|h|h|h<;>contradiction
theorem b8o{m:Q4}(h:¬ u7 m):rtN m=0:=by
 unfold u7 at h
 unfold rtN
 rw[if_neg (fun e=>h (.inl e)),if_neg (fun e=>h (.inr (.inl e))),if_neg (fun e=>h (.inr (.inr (.inl e)))),if_neg (fun e=>h (.inr (.inr (.inr (.inl e))))),if_neg (fun e=>h (.inr (.inr (.inr (.inr e)))))]
theorem c1k{m:Q4}:u7 m↔0<rtN m:=by
 constructor
 ·intro h
  have e:=a2n m h
  unfold rtN
  rcases h with h|h|h|h|h
  ·rw[if_pos h];decide
  all_goals (repeat' split)
  all_goals first|decide|contradiction
 ·intro h
  by_cases hs:u7 m
  ·exact hs
  ·rw[b8o hs]at h;omega
theorem b1Y(k:Nat):∀{bs:List (Str × Rat)},(∀ x∈bs,x.1 = "gap" ∨ x.1 = "glass" ∨ x.1 = "stop")→clL (k+2) (bs.map f9)=true
 | [],_=>rfl
 | x :: r,h=>by
  have c:PyData.canLay0 (.str x.1)=true:=by
   rcases h x c9I with e|e|e<;>(rw[e];decide +kernel)
  have ih:=b1Y k (bs:=r) fun y hy=>h y (c9r _ hy)
  rw[c9F]
  show((PyData.canLay0 (.str x.1) && (cl (k+1) (d9 x.2) && true)) && clL (k+2) (r.map f9))=true
  rw[c,ih];rfl
theorem C6.cl{near far:Rat}{bs:List (Str × Rat)}(h:C6 near bs far):clL 58 (bs.map f9)=true:=b1Y 56 fun x hx=>by
 rcases(h.part x hx).2 with⟨e,_⟩|e|⟨e,_⟩
 ·exact .inl e
 ·exact .inr (.inl e)
 ·exact .inr (.inr e)
theorem cdA:CD 1 1 0 0 0:=⟨1,0,0,0,1,by decide,by decide,⟨by decide,by decide,by decide,by decide⟩,by grind,by grind,by grind,by grind⟩
theorem cdB:CD 1 0 0 1 0:=⟨0,0,1,0,1,by decide,by decide,⟨by decide,by decide,by decide,by decide⟩,by grind,by grind,by grind,by grind⟩
theorem X5{t:Rat}:f6 t<2 ↔ -2<t∧t<2:=by
 unfold f6;split<;>constructor<;>grind
local macro_rules|`(tactic| walk_at "inj")=>`(tactic| (rename_i e h;simp only[List.cons.injEq,and_true,true_and,GM.j7,GM.j3,GM.i7,GM.j4,GM.i8,D.tup.injEq,D.ref.injEq,D.int.injEq,D.str.injEq,D.bl.injEq,D.vl.injEq,c9i,and_assoc]at e;(repeat(obtain⟨e1,e⟩:=e;subst e1));subst e;exact h))
local macro_rules|`(tactic| walk_at "injs")=>`(tactic| (rename_i e o h;rcases o with o|o<;>(subst o;first|(exfalso;simp only[D.tup.injEq,List.cons.injEq,reduceCtorEq,false_and,and_false]at e;done)|(simp only[List.cons.injEq,and_true,true_and,GM.j7,GM.j3,GM.i7,GM.j4,GM.i8,D.tup.injEq,D.ref.injEq,D.int.injEq,D.str.injEq,D.bl.injEq,D.vl.injEq,c9i,and_assoc]at e;(repeat(obtain⟨e1,e⟩:=e;subst e1));subst e;exact h))))
end GM
namespace GM
open PySem PySem.Spec L2 DL
open RM (sz)
noncomputable def J3(t x f:Rat):Rat:=4*(x*x - t*(x*f)+f*f) / (4 - t*t)
theorem b1K{t:Rat}(h1:-2<t)(h2:t<2):0<4 - t*t:=by
 have:0<(2 - t)*(2+t):=c9L (by grind) (by grind)
 grind
theorem b8r{D V B n:Rat}(h1:n≠0)(h2:B≠0)(h3:D≠0):4*(n*V*B)*n / (B*(D*(n*n)))=4*V / D:=by
 have nz:B*(D*(n*n))≠0:=by
  intro z
  rcases c9A.mp z with z|z
  ·exact h2 z
  ·rcases c9A.mp z with z|z
   ·exact h3 z
   ·rcases c9A.mp z with z|z<;>exact h1 z
 have e1:4*(n*V*B)*n / (B*(D*(n*n)))*(B*(D*(n*n)))=4*(n*V*B)*n:=by grind
 have e2:4*V / D*D=4*V:=by grind
 have:(4*(n*V*B)*n / (B*(D*(n*n))) - 4*V / D)*(B*(D*(n*n)))=0:=by
  generalize 4*(n*V*B)*n / (B*(D*(n*n)))=L at *
  generalize 4*V / D=W at *
  grind
 rcases c9A.mp this with z|z
 ·grind
 ·exact absurd z nz
theorem K3{q:Rat}{b:Nat}(h:q.den ∣ b):((q.num*((b:Int).fdiv (q.den:Int)):Int):Rat)=q*(b:Rat)∧(q.num*((b:Int).fdiv (q.den:Int))).natAbs≤q.num.natAbs*b:=by
 obtain⟨k,rfl⟩:=h
 have e:((q.den*k:Nat):Int).fdiv (q.den:Int)=(k:Int):=by
  rw[K2 (by omega) (by omega),c9P]
  exact d0B _ (by have:=q.den_pos;omega)
 rw[e]
 constructor
 ·rw[c82,c9p,← w6 q,c87];grind
 ·rw[c9q,c8V]
  exact d0Z _ (d1u k q.den_pos)
theorem b7a{a b:Int}{k:Nat}(h1:a.natAbs<2 ^ k)(h2:b.natAbs<2 ^ k):(a+b).natAbs<2 ^ (k+1):=A3 h1 h2
theorem Y5{a b:Int}{k:Nat}(h1:a.natAbs<2 ^ k)(h2:b.natAbs<2 ^ k):(a - b).natAbs<2 ^ (k+1):=by
 rw[Int.sub_eq_add_neg];exact A3 h1 (by rw[d0c];exact h2)
theorem r9{n k l:Nat}(h:n<2 ^ k)(hk:k≤l):n<2 ^ l:=c80 h (c9j (by decide) hk)
local macro_rules|`(tactic| walk_at "inj")=>`(tactic| (rename_i e h;simp only[List.cons.injEq,and_true,true_and,GM.j7,GM.j3,GM.i7,GM.j4,GM.i8,D.tup.injEq,D.ref.injEq,D.int.injEq,D.str.injEq,D.bl.injEq,D.vl.injEq,c9i,and_assoc]at e;(repeat(obtain⟨e1,e⟩:=e;subst e1));subst e;exact h))
local macro_rules|`(tactic| walk_at "injs")=>`(tactic| (rename_i e o h;rcases o with o|o<;>(subst o;first|(exfalso;simp only[D.tup.injEq,List.cons.injEq,reduceCtorEq,false_and,and_false]at e;done)|(simp only[List.cons.injEq,and_true,true_and,GM.j7,GM.j3,GM.i7,GM.j4,GM.i8,D.tup.injEq,D.ref.injEq,D.int.injEq,D.str.injEq,D.bl.injEq,D.vl.injEq,c9i,and_assoc]at e;(repeat(obtain⟨e1,e⟩:=e;subst e1));subst e;exact h))))
noncomputable abbrev a1K(p q y u:Rat)(M:Mem)(R:DK)(Y:DXK):Prop:=sz p+sz y+(sz q+sz u)≤8900∧R (d9 (p*y+q*u)) M
noncomputable def a7h:DSp:=fun ds M R Y=>∃(p q y u:Rat),ds=[d9 p,d9 q,v6 y u]∧a1K p q y u M R Y
theorem a8j{p q y u:Rat}{M:Mem}{R:DK}{Y:DXK}:a7h [d9 p,d9 q,v6 y u] M R Y=(a1K p q y u M R Y):=propext ⟨fun z=>by obtain⟨_,_,_,_,_,_⟩:=z;walk_at "inj",fun h=>⟨p,q,y,u,rfl,h⟩⟩
end GM
namespace GM
open PySem PySem.Spec L2 DL
open RM (sz)
noncomputable def A5(L:List (Str × Rat)):Nat→List (Rat × Rat × Rat)
 | 0=>[]
 | i+1=>A5 L i++(match L[i]? with|some x=>if x.1 = "stop" then[((g8 (L.take i) (1,0)).1,(g8 (L.take i) (0,1)).1,x.2)]else[]|none=>[])
noncomputable def F7(T:List (D × D × (Str × Rat))):Nat→List (D × D)
 | 0=>[]
 | i+1=>F7 T i++(match T[i]? with|some x=>if x.2.2.1 = "stop" then[(x.1,x.2.1)]else[]|none=>[])
noncomputable def hlD(w:D × D)(l:Rat × Rat × Rat):D:=.tup [w.1,w.2,p5 l]
noncomputable def hlN(T:List (D × D × (Str × Rat)))(i:Nat):List D:=List.zipWith hlD (F7 T i) (A5 (T.map fun z=>z.2.2) i)
theorem O9(T:List (D × D × (Str × Rat))):∀ i,(F7 T i).length=(A5 (T.map fun z=>z.2.2) i).length
 | 0=>rfl
 | i+1=>by
  have ih:=O9 T i
  unfold F7 A5
  rw[c9h,c9h,ih,c83]
  cases T[i]? with
  | none=>rfl
  | some x =>
   show _+(if x.2.2.1 = "stop" then[(x.1,x.2.1)]else[]).length=_+(if x.2.2.1 = "stop" then _ else[]).length
   split<;>rfl
theorem K5(L:List (Str × Rat)):∀ i,(A5 L i).length≤i
 | 0=>c9b _
 | i+1=>by
  have ih:=K5 L i
  unfold A5
  rw[c9h]
  cases L[i]? with
  | none=>exact d1b ih
  | some x =>
   show _+(if x.1 = "stop" then _ else[]).length≤_
   split
   ·exact d1r ih
   ·exact d1b ih
theorem a1x{L:List (Str × Rat)}{i:Nat}{x:Str × Rat}(h:L[i]? = some x):A5 L (i+1)=if x.1 = "stop" then A5 L i++[((g8 (L.take i) (1,0)).1,(g8 (L.take i) (0,1)).1,x.2)]else A5 L i:=by
 show A5 L i++(match L[i]? with|some x=>if x.1 = "stop" then[((g8 (L.take i) (1,0)).1,(g8 (L.take i) (0,1)).1,x.2)]else[]|none=>[])=_
 rw[h]
 show A5 L i++(if x.1 = "stop" then _ else[])=_
 split
 ·rfl
 ·exact c9M _
theorem c2k{T:List (D × D × (Str × Rat))}{i:Nat}{w n:D}{x:Str × Rat}(h:T[i]? = some (w,n,x)):hlN T (i+1)=if x.1 = "stop" then hlN T i++[.tup [w,n,p5 ((g8 ((T.map fun z=>z.2.2).take i) (1,0)).1,(g8 ((T.map fun z=>z.2.2).take i) (0,1)).1,x.2)]]else hlN T i:=by
 have hl:=O9 T i
 unfold hlN
 have h2:(T.map fun z=>z.2.2)[i]? = some x:=by rw[c83,h];rfl
 rw[a1x h2]
 have e:F7 T (i+1)=if x.1 = "stop" then F7 T i++[(w,n)]else F7 T i:=by
  show F7 T i++(match T[i]? with|some x=>if x.2.2.1 = "stop" then[(x.1,x.2.1)]else[]|none=>[])=_
  rw[h]
  show F7 T i++(if x.1 = "stop" then _ else[])=_
  split
  ·rfl
  ·exact c9M _
 rw[e]
 split
 ·rw[List.zipWith_append hl];rfl
 ·rfl
theorem K4(T:List (D × D × (Str × Rat))):∀ i,F7 T i=((T.take i).filter fun z=>z.2.2.1 == Str.ofString "stop").map fun z=>(z.1,z.2.1)
 | 0=>rfl
 | i+1=>by
  have ih:=K4 T i
  unfold F7
  rw[ih,c9T,c9J,c9f]
  cases h:T[i]? with
  | none=>rfl
  | some x =>
   show _++(if x.2.2.1 = "stop" then[(x.1,x.2.1)]else[])=_++((d1i _ [x]).map _)
   by_cases e:x.2.2.1=Str.ofString "stop"
   ·rw[if_pos e,c98,if_pos (by rw[e];exact beq_self_eq_true _)];rfl
   ·rw[if_neg e,c98,if_neg (fun z=>e (eq_of_beq z))];rfl
noncomputable def frW(bs:List (Str × Rat)):List ((Str × Rat) × Nat):=bs.zipIdx.filter fun x=>x.1.1 == Str.ofString "stop"
theorem b2U(near far:Rat)(bs:List (Str × Rat)):F7 (j5 near bs far) (j5 near bs far).length=((frW bs).map fun x=>(D.str "forth",D.int (x.2:Int)))++((frW bs).reverse.map fun x=>(D.str "back",D.int (x.2:Int))):=by
 rw[K4,c9k]
 unfold j5 frW
 rw[c9J,c9J,c9J,List.filter_map,List.filter_map,c9f,c9f,c9f,c9N,c9N]
 have g:∀ q:Rat,d1i (fun z:D × D × (Str × Rat)=>z.2.2.1 == Str.ofString "stop") [(D.non,D.non,(Str.ofString "glass",q))]=[]:=fun q=>by
  rw[c98,if_neg (by show ¬ (Str.ofString "glass" == Str.ofString "stop")=true;decide)];rfl
 rw[g,g,d0e,c9M,c9M,d1P]
 rfl
theorem I0(near far:Rat)(bs:List (Str × Rat)):(j5 near bs far).map (fun z=>z.2.2)=d8 near bs far:=(a13 near far bs).symm
theorem B3(near far:Rat)(bs:List (Str × Rat)):(j5 near bs far).length=(d8 near bs far).length:=by rw[a13,c8Y]
theorem b89(T:List (D × D × (Str × Rat)))(i:Nat):(hlN T i).length≤i:=by
 unfold hlN
 rw[d1R,← O9,Nat.min_self,O9]
 exact K5 _ i
theorem b0Q{near far:Rat}{bs:List (Str × Rat)}{i:Nat}{d:D}(h:(a6E near bs far)[i]? = some d):∃(w n:D) (x:Str × Rat),d = .tup [w,n,f9 x]∧(j5 near bs far)[i]? = some (w,n,x)∧(d8 near bs far)[i]? = some x:=by
 rw[a7R,c83]at h
 rw[a13,c83]
 cases e:(j5 near bs far)[i]? with
 | none=>rw[e]at h;cases h
 | some z =>
  rw[e]at h
  exact⟨z.1,z.2.1,z.2.2,(Option.some.inj h).symm,rfl,rfl⟩
noncomputable def fwD(x:(Str × Rat) × Nat):D:=.tup [.str "forth",.int (x.2:Int)]
noncomputable def bwD(x:(Str × Rat) × Nat):D:=.tup [.str "back",.int (x.2:Int)]
noncomputable def prD(w:D × D):D:=.tup [w.1,w.2]
theorem c2t(near far:Rat)(bs:List (Str × Rat)):(frW bs).map fwD++(frW bs).reverse.map bwD=(F7 (j5 near bs far) (j5 near bs far).length).map prD:=by
 rw[b2U,c9f,c9N,c9N];rfl
theorem c2j(near far:Rat)(bs:List (Str × Rat)):((F7 (j5 near bs far) (j5 near bs far).length).zip (A5 (d8 near bs far) (d8 near bs far).length)).map (fun z=>hlD z.1 z.2)=hlN (j5 near bs far) (j5 near bs far).length:=by
 unfold hlN
 rw[I0,B3,d01,d1s]
theorem c0R(ws:List (D × D))(ls:List (Rat × Rat × Rat)):Y1 (ws.map prD) (ls.map p5)=(ws.zip ls).map fun z=>D.tup [prD z.1,p5 z.2]:=by
 unfold Y1
 rw[d01,d1s]
 rw[d2i]
theorem b2s(bs:List (Str × Rat)):(frW bs).length≤bs.length:=by
 unfold frW
 have:=d0q (fun x:(Str × Rat) × Nat=>x.1.1 == Str.ofString "stop") bs.zipIdx
 rw[c9C]at this
 exact this
theorem b4V{T:List (D × D × (Str × Rat))}{i:Nat}{w:D × D}(h:w∈F7 T i):∃ z∈T,z.1=w.1∧z.2.1=w.2:=by
 rw[K4]at h
 obtain⟨z,hz,rfl⟩:=c9t.mp h
 exact⟨z,d0R (d0h.mp hz).1,rfl,rfl⟩
theorem b6m{near far:Rat}{bs:List (Str × Rat)}{z:D × D × (Str × Rat)}(h:z∈j5 near bs far)(k:Nat):cl (k+1) z.1=true∧cl (k+1) z.2.1=true:=by
 have f:cl (k+1) (D.str (Str.ofString "forth"))=true:=by show PyData.canLay0 (.str (Str.ofString "forth"))=true;decide +kernel
 have b:cl (k+1) (D.str (Str.ofString "back"))=true:=by show PyData.canLay0 (.str (Str.ofString "back"))=true;decide +kernel
 unfold j5 at h
 rcases c9g.mp h with h|h
 ·rcases c9g.mp h with h|h
  ·rcases c9g.mp h with h|h
   ·obtain⟨x,_,rfl⟩:=c9t.mp h
    exact⟨f,rfl⟩
   ·rw[c88.mp h];exact⟨rfl,rfl⟩
  ·obtain⟨x,_,rfl⟩:=c9t.mp h
   exact⟨b,rfl⟩
 ·rw[c88.mp h];exact⟨rfl,rfl⟩
theorem b1M{L:List (Str × Rat)}(h:∀ i,CDQ 230 (tbQ (L.take i))):∀ i,∀ l∈A5 L i,sz l.1≤230∧sz l.2.1≤230
 | 0,l,hl=>by cases hl
 | i+1,l,hl=>by
  unfold A5 at hl
  rcases c9g.mp hl with hl|hl
  ·exact b1M h i l hl
  ·cases e:L[i]? with
   | none=>rw[e]at hl;cases hl
   | some x =>
    rw[e]at hl
    have hl:l∈(if x.1 = "stop" then[((g8 (L.take i) (1,0)).1,(g8 (L.take i) (0,1)).1,x.2)]else[]):=hl
    split at hl
    ·rw[c88.mp hl]
     have t4:=CD.t4 (h i)
     exact⟨t4.a,t4.b⟩
    ·cases hl
theorem a7P(near far:Rat)(bs:List (Str × Rat)):hlN (j5 near bs far) (j5 near bs far).length=((F7 (j5 near bs far) (j5 near bs far).length).zip (A5 (d8 near bs far) (j5 near bs far).length)).map (fun z=>hlD z.1 z.2):=by
 unfold hlN
 rw[I0,d01,d1s]
local macro_rules|`(tactic| walk_at "inj")=>`(tactic| (rename_i e h;simp only[List.cons.injEq,and_true,true_and,GM.j7,GM.j3,GM.i7,GM.j4,GM.i8,D.tup.injEq,D.ref.injEq,D.int.injEq,D.str.injEq,D.bl.injEq,D.vl.injEq,c9i,and_assoc]at e;(repeat(obtain⟨e1,e⟩:=e;subst e1));subst e;exact h))
local macro_rules|`(tactic| walk_at "injs")=>`(tactic| (rename_i e o h;rcases o with o|o<;>(subst o;first|(exfalso;simp only[D.tup.injEq,List.cons.injEq,reduceCtorEq,false_and,and_false]at e;done)|(simp only[List.cons.injEq,and_true,true_and,GM.j7,GM.j3,GM.i7,GM.j4,GM.i8,D.tup.injEq,D.ref.injEq,D.int.injEq,D.str.injEq,D.bl.injEq,D.vl.injEq,c9i,and_assoc]at e;(repeat(obtain⟨e1,e⟩:=e;subst e1));subst e;exact h))))
end GM
namespace GM
open PySem PySem.Spec L2 DL
open RM (sz)
structure B1(near:Rat)(bs:List (Str × Rat))(far:Rat):Prop where
 cd:∀ i,CDQ 230 (tbQ ((d8 near bs far).take i))
 szs:∀ x∈d8 near bs far,sz x.2≤3000
 len:bs.length≤9
 part:∀ x∈bs,(x.1 = "gap" ∨ x.1 = "glass")∨(x.1 = "stop" ∧ 0<x.2)
theorem C6.w{near far:Rat}{bs:List (Str × Rat)}(h:C6 near bs far):B1 near bs far :=
 ⟨h.cd,fun x hx=>c85 (h.szs x hx) (by decide),h.len,fun x hx=>by
  rcases(h.part x hx).2 with h|h|h
  ·exact .inl (.inl h.1)
  ·exact .inl (.inr h)
  ·exact .inr h⟩
theorem b5l{S:Nat}{L:List (Str × Rat)}{y u:Rat}(h:∀ i,CDQ 230 (tbQ (L.take i)))(g:CD S y 0 u 0)(i:Nat):sz ((g8 (L.take i) (1,0)).1*y+(g8 (L.take i) (0,1)).1*u)≤231+S∧sz ((g8 (L.take i) (1,0)).1*(g8 L (y,u)).1+(g8 (L.take i) (0,1)).1*(g8 L (y,u)).2)≤462+S:=by
 have c1:=V9 (h i) g
 have cL:=h L.length
 rw[c9k]at cL
 have c2:=V9 cL g
 have c3:=V9 (h i) c2
 have e1:=(G6 (L.take i) y u).1
 have e2:=(G6 (L.take i) (g8 L (y,u)).1 (g8 L (y,u)).2).1
 have t1:=c1.t2.y
 have t3:=c3.t2.y
 rw[e1]at t1
 rw[e2]at t3
 exact⟨by omega,by omega⟩
theorem R1{L:List (Str × Rat)}:∀ i,∀ l∈A5 L i,∃(j:Nat) (x:Str × Rat),L[j]? = some x∧x.1 = "stop" ∧ l=((g8 (L.take j) (1,0)).1,(g8 (L.take j) (0,1)).1,x.2)
 | 0,l,hl=>by cases hl
 | i+1,l,hl=>by
  cases e:L[i]? with
  | none =>
   have:A5 L (i+1)=A5 L i++[]:=by
    show A5 L i++_=_
    rw[e]
   rw[this,c9M]at hl
   exact R1 i l hl
  | some x =>
   rw[a1x e]at hl
   by_cases hx:x.1 = "stop"
   ·rw[if_pos hx]at hl
    rcases c9g.mp hl with hl|hl
    ·exact R1 i l hl
    ·exact⟨i,x,e,hx,c88.mp hl⟩
   ·rw[if_neg hx]at hl
    exact R1 i l hl
theorem b5V{q:Rat}{T B:Int}(b0:0<B):q.num*B<T*(q.den:Int)↔q<c9x T B:=by
 have hB:(0:Rat)<(B:Rat):=by exact_mod_cast b0
 have hd:(0:Rat)<(q.den:Rat):=by
  have:=q.den_pos
  exact_mod_cast this
 rw[c9S,d1I hB]
 have e:=w6 q
 have e1:(q.num*B<T*(q.den:Int))↔((q.num:Rat)*(B:Rat)<(T:Rat)*(q.den:Rat)):=by
  rw[← c82,← c87,← c82,d1v]
 rw[e1,← e]
 constructor
 ·intro h
  apply c9a
  intro n
  have h1:=c9s (a:=q*(B:Rat) - (T:Rat)) (b:=(q.den:Rat)) (by grind) (by grind)
  grind
 ·intro h
  have h1:=c9L (a:=(T:Rat) - q*(B:Rat)) (b:=(q.den:Rat)) (by grind) hd
  grind
noncomputable def swQ(t x f:Rat):Rat:=x*x - t*(x*f)+f*f
noncomputable def p8(m:Q4)(x f r:Rat):Bool :=
 if u7 m then false else if f6 (trQ m)<2 then decide (r*r<J3 (trQ m) x f)else if swQ (trQ m) x f≠0 then true else if f6 (trQ m)=2 then false else decide (f6 x<f6 f∨r<f6 x)
theorem c4p{T:List (D × D × (Str × Rat))}{i k:Nat}{l:Rat × Rat × Rat}(h:(A5 (T.map fun z=>z.2.2) i)[k]? = some l):∃ w,(hlN T i)[k]? = some (hlD w l):=by
 have hk:=(c8W.mp h).1
 rw[← O9 T i]at hk
 refine⟨(F7 T i)[k],?_⟩
 unfold hlN
 rw[c95,h,c9d hk]
theorem b6i(T:List (D × D × (Str × Rat)))(i:Nat):(hlN T i).length=(A5 (T.map fun z=>z.2.2) i).length:=by
 unfold hlN
 rw[d1R,O9];omega
theorem CD.ray2{y u:Rat}{k l:Nat}(h1:sz y≤k)(h2:sz u≤l):CD (k+l) y 0 u 0:=by
 have n1:=u4 y h1
 have d1:=t9 y h1
 have n2:=u4 u h2
 have d2:=t9 u h2
 have d1':(y.den:Int).natAbs<2 ^ k:=by rw[c8V];exact d1
 have d2':(u.den:Int).natAbs<2 ^ l:=by rw[c8V];exact d2
 have e1:=w6 y
 have e2:=w6 u
 refine⟨y.num*(u.den:Int),0,u.num*(y.den:Int),0,y.den*u.den,c91 y.den_nz u.den_nz,o7 d1 d2,⟨e7 n1 d2',c90 _,by rw[Nat.add_comm k l];exact e7 n2 d1',c90 _⟩,?_,?_,?_,?_⟩
 ·rw[c9p,c82,c87,← e1];grind
 ·show(0:Rat)*_=((0:Int):Rat);grind
 ·rw[c9p,c82,c87,← e2];grind
 ·show(0:Rat)*_=((0:Int):Rat);grind
theorem c4h{t k:Rat}(h:k*k - t*k+1=0):sz k≤sz t:=by
 have e1:=w6 k
 have e2:=w6 t
 have kd:(k.den:Rat)≠0:=by intro z;exact k.den_nz (by exact_mod_cast z)
 have tdn:(t.den:Rat)≠0:=by intro z;exact t.den_nz (by exact_mod_cast z)
 have main:(k.num*k.num+(k.den:Int)*(k.den:Int))*(t.den:Int)=t.num*(k.num*(k.den:Int)):=by
  have:(((k.num*k.num+(k.den:Int)*(k.den:Int))*(t.den:Int):Int):Rat)=((t.num*(k.num*(k.den:Int)):Int):Rat):=by
   rw[c82,c96,c82,c82,c82,c82,c87,c87,← e1,← e2]
   grind
  exact_mod_cast this
 have cop:Nat.Coprime k.num.natAbs k.den:=k.reduced
 have main':(k.num.natAbs*k.num.natAbs+k.den*k.den)*t.den=t.num.natAbs*(k.num.natAbs*k.den):=by
  have hm:=congrArg Int.natAbs main
  rw[c9q,c9q,c9q,c8V,c8V]at hm
  rw[← hm]
  congr 1
  have a1:0≤k.num*k.num:=by
   rcases Int.le_total 0 k.num with h|h
   ·exact Int.mul_nonneg h h
   ·exact Int.mul_nonneg_of_nonpos_of_nonpos h h
  have a2:(k.num.natAbs*k.num.natAbs:Nat)=(k.num*k.num).natAbs:=(c9q _ _).symm
  have a3:((k.den:Int)*(k.den:Int))=((k.den*k.den:Nat):Int):=by rw[c9P]
  rw[a2,a3]
  omega
 have d0:=t.den_pos
 have key:∀{P Q d n:Nat},Nat.Coprime P Q→(P*P+Q*Q)*d=n*(P*Q)→P ∣ d∧Q ∣ d:=fun{P Q d n} hc he=>by
  have h1:P ∣ Q*Q*d:=by
   have:P ∣ (P*P+Q*Q)*d:=by rw[he];exact⟨n*Q,by rw[d1c]⟩
   rw[d1S]at this
   exact(d17 ⟨P*d,by rw[d1W]⟩).mp this
  have h2:Q ∣ P*P*d:=by
   have:Q ∣ (P*P+Q*Q)*d:=by rw[he];exact⟨n*P,by rw[d2d P Q,d1c]⟩
   rw[Nat.add_comm,d1S]at this
   exact(d17 ⟨Q*d,by rw[d1W]⟩).mp this
  exact⟨(Nat.Coprime.mul_right hc hc).dvd_of_dvd_mul_left h1,(Nat.Coprime.mul_right hc.symm hc.symm).dvd_of_dvd_mul_left h2⟩
 obtain⟨p1,p2⟩:=key cop main'
 exact RM.b1L (c85 (RM.X4 (d1j d0 p1)) (RM.E3 t)) (c85 (RM.X4 (d1j d0 p2)) (RM.E3 t))
theorem c1b{t k:Rat}(h:¬ f6 t<2)(h2:¬ f6 t=2)(hs:b2E t (d9 k)):k≠0∧sz k≤sz t:=by
 rcases hs with⟨r,r0,r1,e⟩|⟨_,e⟩
 ·have e:k=(t - (if t<0 then -r else r)) / 2:=j7.mp e
  obtain⟨_,_,q⟩:=c1c h h2 r0 r1 k e
  exact⟨fun z=>by rw[z]at q;grind,c4h q⟩
 ·cases e
theorem c4O:a9R 10 20:=⟨by decide,by decide,by decide⟩
theorem c0G:a9R 10 40:=⟨by decide,by decide,by decide⟩
theorem c4N:a9R 10 25:=⟨by decide,by decide,by decide⟩
theorem b5J{N k:Nat}(h0:0<N)(h:N<2 ^ k):∃ q:Rat,D.tup [D.int 1,D.int (N:Int)]=d9 q∧sz q≤k+1:=by
 have hn:(0:Int)<(((N:Int):Rat)).num:=by show(0:Int)<(N:Int);omega
 refine⟨(((N:Int):Rat))⁻¹,c4k hn,?_⟩
 have hne:((N:Int):Rat)≠0:=by intro z;exact absurd (show(N:Int)=0 by exact_mod_cast z) (by omega)
 have e:(((N:Int):Rat))⁻¹=1 / ((N:Int):Rat):=by grind
 rw[e]
 have s:=RM.S7 1 ((N:Int):Rat) hne
 have s1:sz (1:Rat)=1:=RM.S5
 have hk:0<k:=by
  rcases d0o k with z|z
  ·rw[z]at h;omega
  ·exact z
 have s2:sz ((N:Int):Rat)≤k:=RM.b1L (RM.a0l (by show(N:Int).natAbs<_;rw[c8V];exact h) hk) (RM.a0l (show 1<2 ^ k from d07 (by omega)) hk)
 omega
theorem b88{T:List (D × D × (Str × Rat))}{i k:Nat}{d:D}(h:(hlN T i)[k]? = some d):∃ w l,d=hlD w l∧(A5 (T.map fun z=>z.2.2) i)[k]? = some l:=by
 unfold hlN at h
 rw[c95]at h
 cases h1:(F7 T i)[k]? with
 | none=>rw[h1]at h;simp at h
 | some w =>
  cases h2:(A5 (T.map fun z=>z.2.2) i)[k]? with
  | none=>rw[h1,h2]at h;simp at h
  | some l=>rw[h1,h2]at h;exact⟨w,l,(Option.some.inj h).symm,rfl⟩
theorem b6j{T:List (D × D × (Str × Rat))}{i k:Nat}{d:D}(h:(hlN T i)[k]? = some d):∃ w l,d=hlD w l∧(A5 (T.map fun z=>z.2.2) i)[k]? = some l∧w∈F7 T i:=by
 unfold hlN at h
 rw[c95]at h
 cases h1:(F7 T i)[k]? with
 | none=>rw[h1]at h;simp at h
 | some w =>
  cases h2:(A5 (T.map fun z=>z.2.2) i)[k]? with
  | none=>rw[h1,h2]at h;simp at h
  | some l=>rw[h1,h2]at h;exact⟨w,l,(Option.some.inj h).symm,rfl,c81 h1⟩
theorem B1.line{near far:Rat}{bs:List (Str × Rat)}(hw:B1 near bs far){y u:Rat}(cd:CD 1000 y 0 u 0){l:Rat × Rat × Rat}(hl:l∈A5 (d8 near bs far) (d8 near bs far).length) :
  (sz l.1≤230∧sz l.2.1≤230)∧(sz l.2.2≤3000∧0<l.2.2)∧sz (l.1*y+l.2.1*u)≤1231∧sz (l.1*(g8 (d8 near bs far) (y,u)).1+l.2.1*(g8 (d8 near bs far) (y,u)).2)≤1462:=by
 obtain⟨j,px,hj,hpx,el⟩:=R1 _ l hl
 obtain⟨z1,z2⟩:=b5l hw.cd cd j
 have hpz:=hw.szs px (c81 hj)
 have hp0:0<px.2:=by
  have hm:=c81 hj
  unfold d8 at hm
  have inb:px∈bs→0<px.2:=fun h=>by
   rcases hw.part px h with h|h
   ·rw[hpx]at h;exact absurd h (by decide)
   ·exact h.2
  rcases c9g.mp hm with hm|hm
  ·rcases c9g.mp hm with hm|hm
   ·rcases c9g.mp hm with hm|hm
    ·exact inb hm
    ·rw[c88.mp hm]at hpx;exact absurd hpx (show ¬ Str.ofString "glass" = Str.ofString "stop" by decide)
   ·exact inb (c99.mp hm)
  ·rw[c88.mp hm]at hpx;exact absurd hpx (show ¬ Str.ofString "glass" = Str.ofString "stop" by decide)
 have lj:=CD.t4 (hw.cd j)
 have lj1:sz (g8 ((d8 near bs far).take j) (1,0)).1≤230:=lj.a
 have lj2:sz (g8 ((d8 near bs far).take j) (0,1)).1≤230:=lj.b
 rw[el]
 exact⟨⟨lj1,lj2⟩,⟨hpz,hp0⟩,by omega,by omega⟩
theorem b4U{t x f:Rat}(hx:x≠0):swQ t x f=x*x*(1 - t*(f / x)+(f / x)*(f / x)):=by
 unfold swQ
 have:f=(f / x)*x:=by grind
 generalize f / x=p at *
 rw[this];grind
theorem c0L{x f:Rat}(hx:x≠0):f6 f=f6 (f / x)*f6 x:=by
 rw[← O4]
 congr 1
 grind
theorem a4P{x:Rat}(hx:x≠0):0<f6 x:=by unfold f6;split<;>grind
theorem b5p{t x f:Rat}(ht:sz t≤231)(hx:sz x≤1231)(hf:sz f≤1462)(t1:-2<t)(t2:t<2):sz (J3 t x f)≤8800:=by
 have h4:=b1K t1 t2
 have m1:=RM.y8 x x
 have m2:=RM.y8 x f
 have m3:=RM.y8 t (x*f)
 have m4:=RM.S4 (x*x) (t*(x*f))
 have m5:=RM.y8 f f
 have m6:=RM.a01 (x*x - t*(x*f)) (f*f)
 have m7:=RM.y8 4 (x*x - t*(x*f)+f*f)
 have m8:=RM.y8 t t
 have m9:=RM.S4 4 (t*t)
 have s4:sz (4:Rat)≤3:=by decide +kernel
 have d:=RM.S7 (4*(x*x - t*(x*f)+f*f)) (4 - t*t) (fun z=>by rw[z]at h4;exact absurd h4 (by decide))
 unfold J3
 omega
theorem b5r{S:Nat}{L:List (Str × Rat)}{y u:Rat}(h:CDQ 230 (tbQ L))(g:CD S y 0 u 0):CD (230+S+1) y (g8 L (y,u)).1 u (g8 L (y,u)).2:=by
 have h:CD 230 (g8 L (1,0)).1 (g8 L (0,1)).1 (g8 L (1,0)).2 (g8 L (0,1)).2:=h
 have l:=G6 L y u
 rw[l.1,l.2]
 generalize (g8 L (1,0)).1=a at *
 generalize (g8 L (0,1)).1=b at *
 generalize (g8 L (1,0)).2=c at *
 generalize (g8 L (0,1)).2=d at *
 obtain⟨A,B,C,E,D0,h0,hd,⟨h1,h2,h3,h4⟩,e1,e2,e3,e4⟩:=h.ex
 obtain⟨Y,_,U,_,D1,k0,kd,⟨k1,_,k3,_⟩,f1,_,f3,_⟩:=g.ex
 have hd':(D0:Int).natAbs<2 ^ 230:=by rw[c8V];exact hd
 have up:∀{n:Nat},n<2 ^ (230+S)→n<2 ^ (230+S+1):=fun h=>c80 h (c9j (by decide) (by omega))
 refine⟨(D0:Int)*Y,A*Y+B*U,(D0:Int)*U,C*Y+E*U,D0*D1,c91 h0 k0,up (o7 hd kd),⟨up (e7 hd' k1),A3 (e7 h1 k1) (e7 h2 k3),up (e7 hd' k3),A3 (e7 h3 k1) (e7 h4 k3)⟩,?_,?_,?_,?_⟩
 ·rw[c9p,c82,c87,← f1];grind
 ·rw[c9p,c96,c82,c82,← f1,← f3,← e1,← e2];grind
 ·rw[c9p,c82,c87,← f3];grind
 ·rw[c9p,c96,c82,c82,← f1,← f3,← e3,← e4];grind
theorem b9n{A Z q:Rat}(hz:Z≠0)(hq:q≠0):A / Z=A*q / (Z*q):=by grind
theorem b8q{t x f a b:Rat}{S:Nat}(ht:sz t≤231)(h:CD S x f a b)(t1:-2<t)(t2:t<2):(J3 t x f).num.natAbs<2 ^ (2*S+480):=by
 obtain⟨X,F,_,_,D0,h0,_,⟨h1,h2,_,_⟩,e1,e2,_,_⟩:=h.ex
 have td:=t9 t ht
 have tn:=u4 t ht
 have td':(t.den:Int).natAbs<2 ^ 231:=by rw[c8V];exact td
 have e:=w6 t
 have h4:=b1K t1 t2
 have d0:(t.den:Rat)≠0:=by intro z;exact t.den_nz (by exact_mod_cast z)
 have D0n:(D0:Rat)≠0:=by intro z;exact h0 (by exact_mod_cast z)
 have key:J3 t x f=c9x (4*((t.den:Int)*((t.den:Int)*(X*X+F*F) - t.num*(X*F)))) ((4*((t.den:Int)*(t.den:Int)) - t.num*t.num)*((D0:Int)*(D0:Int))):=by
  rw[c9S]
  simp only[c82,d0r,c96,c87]
  rw[← e1,← e2,← e,show((4:Int):Rat)=4 from rfl]
  unfold J3
  generalize (t.den:Rat)=n at *
  generalize (D0:Rat)=w at *
  have hz:4 - t*t≠0:=fun z=>by rw[z]at h4;exact absurd h4 (by decide)
  rw[show 4*(n*(n*(x*w*(x*w)+f*w*(f*w)) - t*n*(x*w*(f*w))))=(4*(x*x - t*(x*f)+f*f))*((n*n)*(w*w))by grind,show(4*(n*n) - t*n*(t*n))*(w*w)=(4 - t*t)*((n*n)*(w*w))by grind]
  have nz:n*n*(w*w)≠0:=by grind
  exact b9n hz nz
 rw[key]
 refine c9e (RM.b5P _ _) ?_
 have xx:=e7 h1 h1
 have ff:=e7 h2 h2
 have xf:=e7 h1 h2
 have s1:=e7 td' (A3 xx ff)
 have s2:=e7 tn xf
 have s3:=e7 td' (Y5 s1 (r9 s2 (show 231+(S+S)≤231+(S+S+1)by omega)))
 exact r9 (e7 (show(4:Int).natAbs<2 ^ 3 by decide) s3) (by omega)
theorem b5U{near far:Rat}{bs:List (Str × Rat)}(hw:B1 near bs far){y u:Rat}(cd:CD 1000 y 0 u 0){l:Rat × Rat × Rat}(hl:l∈A5 (d8 near bs far) (d8 near bs far).length)(t1:-2<trQ (tbQ (d8 near bs far)))(t2:trQ (tbQ (d8 near bs far))<2) :
  (J3 (trQ (tbQ (d8 near bs far))) (l.1*y+l.2.1*u) (l.1*(g8 (d8 near bs far) (y,u)).1+l.2.1*(g8 (d8 near bs far) (y,u)).2)).num.natAbs<2 ^ 3500:=by
 have cL:=hw.cd (d8 near bs far).length
 rw[c9k]at cL
 have zt:sz (trQ (tbQ (d8 near bs far)))≤231:=CD.tr cL
 obtain⟨j,px,hj,hpx,el⟩:=R1 _ l hl
 have c:=CD.mul (k:=(y,(g8 (d8 near bs far) (y,u)).1,u,(g8 (d8 near bs far) (y,u)).2)) (hw.cd j) (b5r cL cd)
 have n:=b8q zt c t1 t2
 rw[el]
 exact r9 n (by omega)
theorem b3A{ds:List D}{n:Nat}:a1o ds (some (n:Int)) none=ds.drop n:=by
 unfold a1o
 rw[HT.b8n,HT.b5i]
 by_cases h:n≤ds.length
 ·rw[Nat.min_eq_left h,d0d (by rw[d0l];omega)]
 ·rw[Nat.min_eq_right (by omega),d1w (by omega),d1w (by omega),d1X]
theorem b6L{bs:List (Str × Rat)}{k:Nat}(h:k<bs.length)(x:Str × Rat):a1o (bs.map f9) none (some (k:Int))++[f9 x]++a1o (bs.map f9) (some ((k:Int)+1)) none=(bs.set k x).map f9:=by
 rw[b6K,show(k:Int)+1=((k+1:Nat):Int)by omega,b3A,List.set_eq_take_append_cons_drop,if_pos h,c9f,c9F,d1k,List.map_drop,d18]
 rfl
theorem c5M:a9R 10 9:=⟨by decide,by decide,by decide⟩
noncomputable def erS(x:Str × Rat):Str × Rat:=if x.1 = "stop" then(Str.ofString "stop",0)else x
theorem c1Z(x:Str × Rat)(y u:Rat):y9 (erS x) y u=y9 x y u:=by
 unfold erS
 split
 ·rename_i h
  obtain⟨w,q⟩:=x
  have h:w=Str.ofString "stop" := h
  subst h
  unfold y9
  rfl
 ·rfl
theorem a7w(xs:List (Str × Rat)):∀ r:Rat × Rat,g8 (xs.map erS) r=g8 xs r:=by
 induction xs with
 | nil=>intro r;rfl
 | cons x xs ih =>
  intro r
  show g8 (xs.map erS) (y9 (erS x) r.1 r.2)=g8 xs (y9 x r.1 r.2)
  rw[c1Z,ih]
theorem c3w{xs ys:List (Str × Rat)}(h:xs.map erS=ys.map erS):tbQ xs=tbQ ys:=by
 unfold tbQ
 rw[← a7w xs,← a7w xs,← a7w ys,← a7w ys,h]
theorem b9a(near far:Rat){bs cs:List (Str × Rat)}(h:bs.map erS=cs.map erS):(d8 near bs far).map erS=(d8 near cs far).map erS:=by
 unfold d8
 simp only[c9f,d0A,h]
theorem C6.set{near far:Rat}{bs:List (Str × Rat)}(h:C6 near bs far){at':Nat}{q0 q:Rat}(hat:bs[at']? = some (Str.ofString "stop",q0))(hq:0<q)(hz:sz q≤3000):B1 near (bs.set at' (Str.ofString "stop",q)) far:=by
 have hl:=(c8W.mp hat).1
 have hm:(bs.set at' (Str.ofString "stop",q)).map erS=bs.map erS:=by
  apply List.ext_getElem?
  intro i
  rw[c83,c83,d16]
  by_cases e:at'=i
  ·subst e
   rw[if_pos rfl,if_pos hl,hat];rfl
  ·rw[if_neg e]
 refine⟨fun i=>?_,fun x hx=>?_,by rw[d1x];exact h.len,fun x hx=>?_⟩
 ·rw[c3w (ys:=(d8 near bs far).take i) (by rw[d1k,d1k,b9a near far hm])]
  exact h.cd i
 ·have inb:∀ x∈bs.set at' (Str.ofString "stop",q),sz x.2≤3000:=fun x hx=>by
   rcases d0w hx with hx|rfl
   ·exact c85 (h.part x hx).1 (by decide)
   ·exact hz
  unfold d8 at hx
  rcases c9g.mp hx with hx|hx
  ·rcases c9g.mp hx with hx|hx
   ·rcases c9g.mp hx with hx|hx
    ·exact inb x hx
    ·rw[c88.mp hx];exact c85 h.zf (by decide)
   ·exact inb x (c99.mp hx)
  ·rw[c88.mp hx];exact c85 h.zn (by decide)
 ·rcases d0w hx with hx|rfl
  ·exact h.w.part x hx
  ·exact .inr ⟨rfl,hq⟩
local macro_rules|`(tactic| walk_at "inj")=>`(tactic| (rename_i e h;simp only[List.cons.injEq,and_true,true_and,GM.j7,GM.j3,GM.i7,GM.j4,GM.i8,D.tup.injEq,D.ref.injEq,D.int.injEq,D.str.injEq,D.bl.injEq,D.vl.injEq,c9i,and_assoc]at e;(repeat(obtain⟨e1,e⟩:=e;subst e1));subst e;exact h))
local macro_rules|`(tactic| walk_at "injs")=>`(tactic| (rename_i e o h;rcases o with o|o<;>(subst o;first|(exfalso;simp only[D.tup.injEq,List.cons.injEq,reduceCtorEq,false_and,and_false]at e;done)|(simp only[List.cons.injEq,and_true,true_and,GM.j7,GM.j3,GM.i7,GM.j4,GM.i8,D.tup.injEq,D.ref.injEq,D.int.injEq,D.str.injEq,D.bl.injEq,D.vl.injEq,c9i,and_assoc]at e;(repeat(obtain⟨e1,e⟩:=e;subst e1));subst e;exact h))))
noncomputable abbrev a27(bs:List (Str × Rat))(M:Mem)(R:DK)(Y:DXK):Prop:=(((∀ x∈bs,sz x.2≤3000)∧bs.length≤40)∧∀ i,CDQ 230 (tbQ (bs.take i)))∧R (F6 (tbQ bs)) M
noncomputable def b5e:DSp:=fun ds M R Y=>∃(bs:List (Str × Rat)),ds=[.vl (bs.map f9)]∧a27 bs M R Y
theorem b06{bs:List (Str × Rat)}{M:Mem}{R:DK}{Y:DXK}:b5e [.vl (bs.map f9)] M R Y=(a27 bs M R Y):=propext ⟨fun z=>by obtain⟨_,_,_⟩:=z;walk_at "inj",fun h=>⟨bs,rfl,h⟩⟩
noncomputable abbrev a1G(near:Rat)(bs:List (Str × Rat))(far:Rat)(M:Mem)(R:DK)(Y:DXK):Prop:=B1 near bs far∧R (F6 (tbQ (d8 near bs far))) M
noncomputable def a1H:DSp:=fun ds M R Y=>∃(x0:D) (near:Rat) (bs:List (Str × Rat)) (far:Rat),ds=[.tup [d9 near,x0,d9 far]]∧(x0 = .vl (bs.map f9)∨x0 = .tup (bs.map f9))∧a1G near bs far M R Y
theorem b07{near:Rat}{bs:List (Str × Rat)}{far:Rat}{M:Mem}{R:DK}{Y:DXK}:a1H [.tup [d9 near,.vl (bs.map f9),d9 far]] M R Y=(a1G near bs far M R Y):=propext ⟨fun z=>by obtain⟨_,_,_,_,_,_,_⟩:=z;walk_at "injs",fun h=>⟨_,near,bs,far,rfl,.inl rfl,h⟩⟩
theorem a5S{near:Rat}{bs:List (Str × Rat)}{far:Rat}{M:Mem}{R:DK}{Y:DXK}:a1H [.tup [d9 near,.tup (bs.map f9),d9 far]] M R Y=(a1G near bs far M R Y):=propext ⟨fun z=>by obtain⟨_,_,_,_,_,_,_⟩:=z;walk_at "injs",fun h=>⟨_,near,bs,far,rfl,.inr rfl,h⟩⟩
noncomputable abbrev a0y(bs:List (Str × Rat))(M:Mem)(R:DK)(Y:DXK):Prop:=(((∀ x∈bs,sz x.2≤3000)∧bs.length≤40)∧∀ i,CDQ 230 (tbQ (bs.take i)))∧R (.vl ((A5 bs bs.length).map p5)) M
noncomputable def a7k:DSp:=fun ds M R Y=>∃(bs:List (Str × Rat)),ds=[.vl (bs.map f9)]∧a0y bs M R Y
theorem a5W{bs:List (Str × Rat)}{M:Mem}{R:DK}{Y:DXK}:a7k [.vl (bs.map f9)] M R Y=(a0y bs M R Y):=propext ⟨fun z=>by obtain⟨_,_,_⟩:=z;walk_at "inj",fun h=>⟨bs,rfl,h⟩⟩
noncomputable abbrev N7(near:Rat)(bs:List (Str × Rat))(far:Rat)(M:Mem)(R:DK)(Y:DXK):Prop:=B1 near bs far∧∀ p,M p=none→R (.ref p) (B9 M p (.lst (hlN (j5 near bs far) (j5 near bs far).length)))
noncomputable def N8:DSp:=fun ds M R Y=>∃(x0:D) (near:Rat) (bs:List (Str × Rat)) (far:Rat),ds=[.tup [d9 near,x0,d9 far]]∧(x0 = .vl (bs.map f9)∨x0 = .tup (bs.map f9))∧N7 near bs far M R Y
theorem a3C{near:Rat}{bs:List (Str × Rat)}{far:Rat}{M:Mem}{R:DK}{Y:DXK}:N8 [.tup [d9 near,.vl (bs.map f9),d9 far]] M R Y=(N7 near bs far M R Y):=propext ⟨fun z=>by obtain⟨_,_,_,_,_,_,_⟩:=z;walk_at "injs",fun h=>⟨_,near,bs,far,rfl,.inl rfl,h⟩⟩
theorem a1t{near:Rat}{bs:List (Str × Rat)}{far:Rat}{M:Mem}{R:DK}{Y:DXK}:N8 [.tup [d9 near,.tup (bs.map f9),d9 far]] M R Y=(N7 near bs far M R Y):=propext ⟨fun z=>by obtain⟨_,_,_,_,_,_,_⟩:=z;walk_at "injs",fun h=>⟨_,near,bs,far,rfl,.inr rfl,h⟩⟩
noncomputable abbrev V7(near:Rat)(bs:List (Str × Rat))(far:Rat)(y u:Rat)(M:Mem)(R:DK)(Y:DXK):Prop:=(B1 near bs far∧∃ S,CD S y 0 u 0∧S≤2000)∧R (v6 (g8 (d8 near bs far) (y,u)).1 (g8 (d8 near bs far) (y,u)).2) M
noncomputable def a0d:DSp:=fun ds M R Y=>∃(near:Rat) (bs:List (Str × Rat)) (far:Rat) (y u:Rat),ds=[.tup [d9 near,.vl (bs.map f9),d9 far],v6 y u]∧V7 near bs far y u M R Y
theorem a3D{near:Rat}{bs:List (Str × Rat)}{far:Rat}{y u:Rat}{M:Mem}{R:DK}{Y:DXK}:a0d [.tup [d9 near,.vl (bs.map f9),d9 far],v6 y u] M R Y=(V7 near bs far y u M R Y):=propext ⟨fun z=>by obtain⟨_,_,_,_,_,_,_⟩:=z;walk_at "inj",fun h=>⟨near,bs,far,y,u,rfl,h⟩⟩
noncomputable abbrev a1P(q:Rat)(T B:Int)(M:Mem)(R:DK)(Y:DXK):Prop:=(0<B∧sz q≤9000∧B.natAbs<2 ^ 9000∧T.natAbs<2 ^ 20000)∧R (.bl (decide (q<c9x T B))) M
noncomputable def a4j:DSp:=fun ds M R Y=>∃(q:Rat) (T B:Int),ds=[d9 q,.tup [.int T,.int B]]∧a1P q T B M R Y
theorem a8n{q:Rat}{T B:Int}{M:Mem}{R:DK}{Y:DXK}:a4j [d9 q,.tup [.int T,.int B]] M R Y=(a1P q T B M R Y):=propext ⟨fun z=>by obtain⟨_,_,_,_,_⟩:=z;walk_at "inj",fun h=>⟨q,T,B,rfl,h⟩⟩
noncomputable abbrev a0p(N:Nat)(M:Mem)(R:DK)(Y:DXK):Prop:=N<2 ^ 20000∧∀ a:Nat,a*a≤N→N<(a+1)*(a+1)→R (.int (a:Int)) M
noncomputable def a66:DSp:=fun ds M R Y=>∃(N:Nat),ds=[.int (N:Int)]∧a0p N M R Y
theorem a5L{N:Nat}{M:Mem}{R:DK}{Y:DXK}:a66 [.int (N:Int)] M R Y=(a0p N M R Y):=propext ⟨fun z=>by obtain⟨_,_,_⟩:=z;walk_at "inj",fun h=>⟨N,rfl,h⟩⟩
noncomputable abbrev a0u(y u g:Rat)(M:Mem)(R:DK)(Y:DXK):Prop:=(sz y+sz g≤8900∧sz u+sz g≤8900)∧R (v6 (y*g) (u*g)) M
noncomputable def a3a:DSp:=fun ds M R Y=>∃(y u g:Rat),ds=[v6 y u,d9 g]∧a0u y u g M R Y
theorem a5Q{y u g:Rat}{M:Mem}{R:DK}{Y:DXK}:a3a [v6 y u,d9 g] M R Y=(a0u y u g M R Y):=propext ⟨fun z=>by obtain⟨_,_,_,_,_⟩:=z;walk_at "inj",fun h=>⟨y,u,g,rfl,h⟩⟩
noncomputable abbrev a0D(near:Rat)(bs:List (Str × Rat))(far:Rat)(b:Bool)(M:Mem)(R:DK)(Y:DXK):Prop:=C6 near bs far∧∀(y u:Rat),(sz y≤463∧sz u≤463∧sz y+sz u≤700)→R (v6 y u) M
noncomputable def a7r:DSp:=fun ds M R Y=>∃(near:Rat) (bs:List (Str × Rat)) (far:Rat) (b:Bool),ds=[.tup [d9 near,.vl (bs.map f9),d9 far],.bl b]∧a0D near bs far b M R Y
theorem a52{near:Rat}{bs:List (Str × Rat)}{far:Rat}{b:Bool}{M:Mem}{R:DK}{Y:DXK}:a7r [.tup [d9 near,.vl (bs.map f9),d9 far],.bl b] M R Y=(a0D near bs far b M R Y):=propext ⟨fun z=>by obtain⟨_,_,_,_,_,_⟩:=z;walk_at "inj",fun h=>⟨near,bs,far,b,rfl,h⟩⟩
noncomputable abbrev a1I(p:Addr)(x y:D)(M:Mem)(R:DK)(Y:DXK):Prop:=C5 M p∧∃(ts bs:List Int) (P:Rat→Prop),x = .vl (ts.map D.int)∧y = .vl (bs.map D.int)∧((0<ts.length∧ts.length≤100)∧(0<bs.length∧bs.length≤100)∧(∀ b∈bs,0<b∧b.natAbs<2 ^ 133)∧∀ t∈ts,∀ b∈bs,P (c9x t b))∧∀(q:Rat) M',P q→u3 p M M'→R (d9 q) M'
noncomputable def b0i:DSp:=fun ds M R Y=>∃(p:Addr) (x y:D),ds=[.ref p,x,y]∧a1I p x y M R Y
theorem a8h{p:Addr}{x y:D}{M:Mem}{R:DK}{Y:DXK}:b0i [.ref p,x,y] M R Y=(a1I p x y M R Y):=propext ⟨fun z=>by obtain⟨_,_,_,_,_⟩:=z;walk_at "inj",fun h=>⟨p,x,y,rfl,h⟩⟩
noncomputable abbrev a3d(p:Addr)(near:Rat)(bs:List (Str × Rat))(far:Rat)(M:Mem)(R:DK)(Y:DXK):Prop:=C5 M p∧C6 near bs far∧∀(y u:Rat) M',CD 1000 y 0 u 0→u3 p M M'→R (v6 y u) M'
noncomputable def b5g:DSp:=fun ds M R Y=>∃(p:Addr) (near:Rat) (bs:List (Str × Rat)) (far:Rat),ds=[.ref p,.tup [d9 near,.vl (bs.map f9),d9 far]]∧a3d p near bs far M R Y
theorem b09{p:Addr}{near:Rat}{bs:List (Str × Rat)}{far:Rat}{M:Mem}{R:DK}{Y:DXK}:b5g [.ref p,.tup [d9 near,.vl (bs.map f9),d9 far]] M R Y=(a3d p near bs far M R Y):=propext ⟨fun z=>by obtain⟨_,_,_,_,_,_⟩:=z;walk_at "inj",fun h=>⟨p,near,bs,far,rfl,h⟩⟩
noncomputable abbrev V5(near:Rat)(bs:List (Str × Rat))(far:Rat)(M:Mem)(R:DK)(Y:DXK):Prop:=B1 near bs far∧R (.vl (hlN (j5 near bs far) (j5 near bs far).length)) M
noncomputable def a1N:DSp:=fun ds M R Y=>∃(near:Rat) (bs:List (Str × Rat)) (far:Rat),ds=[.tup [d9 near,.vl (bs.map f9),d9 far]]∧V5 near bs far M R Y
theorem a3y{near:Rat}{bs:List (Str × Rat)}{far:Rat}{M:Mem}{R:DK}{Y:DXK}:a1N [.tup [d9 near,.vl (bs.map f9),d9 far]] M R Y=(V5 near bs far M R Y):=propext ⟨fun z=>by obtain⟨_,_,_,_,_⟩:=z;walk_at "inj",fun h=>⟨near,bs,far,rfl,h⟩⟩
noncomputable abbrev a7j(near:Rat)(bs:List (Str × Rat))(far:Rat)(M:Mem)(R:DK)(Y:DXK):Prop:=B1 near bs far∧R (d9 (trQ (tbQ (d8 near bs far)))) M
noncomputable def c1g:DSp:=fun ds M R Y=>∃(near:Rat) (bs:List (Str × Rat)) (far:Rat),ds=[.tup [d9 near,.vl (bs.map f9),d9 far]]∧a7j near bs far M R Y
theorem b3Q{near:Rat}{bs:List (Str × Rat)}{far:Rat}{M:Mem}{R:DK}{Y:DXK}:c1g [.tup [d9 near,.vl (bs.map f9),d9 far]] M R Y=(a7j near bs far M R Y):=propext ⟨fun z=>by obtain⟨_,_,_,_,_⟩:=z;walk_at "inj",fun h=>⟨near,bs,far,rfl,h⟩⟩
noncomputable def c0l(L:List (Str × Rat))(y u:Rat)(l:Rat × Rat × Rat):D:=.tup [d9 (l.1*y+l.2.1*u),d9 (l.1*(g8 L (y,u)).1+l.2.1*(g8 L (y,u)).2),d9 l.2.2]
noncomputable abbrev R3(near:Rat)(bs:List (Str × Rat))(far:Rat)(y u p q:Rat)(M:Mem)(R:DK)(Y:DXK):Prop:=(B1 near bs far∧CD 1000 y 0 u 0∧(sz p≤230∧sz q≤230)∧sz (p*y+q*u)≤1231∧sz (p*(g8 (d8 near bs far) (y,u)).1+q*(g8 (d8 near bs far) (y,u)).2)≤1462∧-2<trQ (tbQ (d8 near bs far))∧trQ (tbQ (d8 near bs far))<2)∧R (d9 (J3 (trQ (tbQ (d8 near bs far))) (p*y+q*u) (p*(g8 (d8 near bs far) (y,u)).1+q*(g8 (d8 near bs far) (y,u)).2))) M
noncomputable def a3b:DSp:=fun ds M R Y=>∃(x0:D) (near:Rat) (bs:List (Str × Rat)) (far:Rat) (y u p q:Rat),ds=[.tup [d9 near,x0,d9 far],v6 y u,d9 p,d9 q]∧(x0 = .vl (bs.map f9)∨x0 = .tup (bs.map f9))∧R3 near bs far y u p q M R Y
theorem a5T{near:Rat}{bs:List (Str × Rat)}{far:Rat}{y u p q:Rat}{M:Mem}{R:DK}{Y:DXK}:a3b [.tup [d9 near,.vl (bs.map f9),d9 far],v6 y u,d9 p,d9 q] M R Y=(R3 near bs far y u p q M R Y):=propext ⟨fun z=>by obtain⟨_,_,_,_,_,_,_,_,_,_,_⟩:=z;walk_at "injs",fun h=>⟨_,near,bs,far,y,u,p,q,rfl,.inl rfl,h⟩⟩
theorem a2D{near:Rat}{bs:List (Str × Rat)}{far:Rat}{y u p q:Rat}{M:Mem}{R:DK}{Y:DXK}:a3b [.tup [d9 near,.tup (bs.map f9),d9 far],v6 y u,d9 p,d9 q] M R Y=(R3 near bs far y u p q M R Y):=propext ⟨fun z=>by obtain⟨_,_,_,_,_,_,_,_,_,_,_⟩:=z;walk_at "injs",fun h=>⟨_,near,bs,far,y,u,p,q,rfl,.inr rfl,h⟩⟩
end GM
namespace DL
open PySem PySem.Spec L2
theorem b6N{e0:Ev}{g:DTG}{te:DTE}{ds:List D}{stay:Mem→Prop}{M1:Mem}{E:List D→Mem→Prop}{β:Type}(out:β→D)(Rl:Nat→β→Prop)(hn:ds.length≤1000)(hst:stay M1)
  (step:∀ i d,ds[i]? = some d→∀ Q:DK,(∀ b,Rl i b→Q (out b) M1)→g d e0 M1 fun e2 M2=>te e2 M2 Q) (h:∀ bs:List β,bs.length=ds.length→(∀ i b,bs[i]? = some b→Rl i b)→E (bs.map out) M1):∃ W,a4R e0 g b9o te ds stay M1 E W:=by
 refine⟨fun i ys M=>M=M1∧∃ bs:List β,bs.length=i∧(∀ j b,bs[j]? = some b→Rl j b)∧ys=bs.map out,⟨⟨rfl,[],rfl,(fun j b z=>by simp at z),rfl⟩,fun i ys M _ w=>by rw[w.1];exact hst,fun i d ys M hd w=>?_,fun ys M w=>?_⟩⟩
 ·obtain⟨rfl,bs,hl,hok,rfl⟩:=w
  have hi:i<ds.length:=(c8W.mp hd).1
  refine step i d hd _ fun b hb=>⟨?_,rfl,bs++[b],by simp[hl],fun j c hc=>?_,by simp⟩
  ·rw[c8Y,hl];exact c80 (c80 hi hn) (show 1000≤sizeLine by decide)
  ·rcases c93 j bs.length with z|z
   ·rw[d0v z]at hc;exact hok j c hc
   ·rw[d0t z]at hc
    have hj:j - bs.length=0:=by
     have:=(c8W.mp hc).1
     simp at this;omega
    rw[hj]at hc
    have e:b=c:=by simpa using hc
    have ej:j=i:=by omega
    rw[ej,← e];exact hb
 ·obtain⟨rfl,bs,hl,hok,rfl⟩:=w
  exact h bs hl hok
end DL
namespace GM
open PySem PySem.Spec L2 DL
open RM (sz)
noncomputable def stQ(t:Rat)(p:Rat × Rat):Nat→Rat × Rat
 | 0=>p
 | n+1=>((stQ t p n).2,t*(stQ t p n).2 - (stQ t p n).1)
noncomputable def A7(t:Rat)(l:Rat × Rat × Rat)(n:Nat):Prop:=l.2.2<f6 (stQ t (l.1,l.2.1) n).1
instance c4S(t:Rat)(l:Rat × Rat × Rat)(n:Nat):Decidable (A7 t l n):=by unfold A7;infer_instance
noncomputable def Q9(t:Rat)(l:Rat × Rat × Rat)(N:Nat):Option Nat:=(c9H N).find? fun n=>decide (A7 t l n)
theorem b0I{t:Rat}{l:Rat × Rat × Rat}{N:Nat}(h:∀ n,n<N→¬ A7 t l n):Q9 t l N=none:=by
 unfold Q9
 rw[d0f]
 intro n hn
 rw[decide_eq_true_eq]
 exact h n (c9Q.mp hn)
theorem b0H{t:Rat}{l:Rat × Rat × Rat}{N n:Nat}(hn:n<N)(hb:A7 t l n)(h:∀ j,j<n→¬ A7 t l j):Q9 t l N=some n:=by
 unfold Q9
 rw[d0k]
 refine⟨decide_eq_true hb,c9Q.mpr hn,fun j hj=>?_⟩
 rw[decide_eq_false (h j hj)];rfl
noncomputable def c1L:Option Nat→D
 | none=>.non
 | some n=>.int (n:Int)
noncomputable def y4(t:Rat)(ls:List (Rat × Rat × Rat))(k n:Nat):Bool:=match ls[k]? with|some l=>decide (A7 t l n)|none=>false
noncomputable def M9(t:Rat)(ls:List (Rat × Rat × Rat))(ws:List Nat)(N:Nat):Option (Nat × Nat) :=
 match (c9H N).find? fun n=>ws.any fun k=>y4 t ls k n with
 | none=>none
 | some n=>(ws.find? fun k=>y4 t ls k n).map fun k=>(n,k)
theorem a3Z{t:Rat}{ls:List (Rat × Rat × Rat)}{ws:List Nat}{N:Nat}(h:∀ n,n<N→∀ k∈ws,y4 t ls k n=false):M9 t ls ws N=none:=by
 unfold M9
 rw[d0f.mpr fun n hn=>?_]
 rw[d0O,d0s]
 exact fun k hk=>by rw[h n (c9Q.mp hn) k hk];decide
theorem a90{t:Rat}{ls:List (Rat × Rat × Rat)}{ws:List Nat}{N n i k:Nat}(hn:n<N)(hi:ws[i]? = some k)(hb:y4 t ls k n=true)(h1:∀ j,j<n→∀ k∈ws,y4 t ls k j=false)
  (h2:∀ j,j<i→∀ k',ws[j]? = some k'→y4 t ls k' n=false):M9 t ls ws N=some (n,k):=by
 unfold M9
 have hk:=c81 hi
 have e:(c9H N).find? (fun n=>ws.any fun k=>y4 t ls k n)=some n:=by
  rw[d0k]
  refine⟨d2j.mpr ⟨k,hk,hb⟩,c9Q.mpr hn,fun j hj=>?_⟩
  have:(ws.any fun k=>y4 t ls k j)=false:=d0s.mpr fun k hk=>by rw[h1 j hj k hk];decide
  rw[this];rfl
 rw[e]
 have hl:=(c8W.mp hi).1
 have e2:ws.find? (fun k=>y4 t ls k n)=some k:=by
  rw[d0L]
  refine⟨hb,i,hl,(c8W.mp hi).2,fun j hj=>?_⟩
  rw[h2 j hj _ (c9d (Nat.lt_trans hj hl))];rfl
 show(ws.find? fun k=>y4 t ls k n).map (fun k=>(n,k))=_
 rw[e2];rfl
noncomputable def a30:Option (Nat × Nat)→D
 | none=>.non
 | some z=>.tup [.int (z.1:Int),.int (z.2:Int)]
theorem b2D(a:Int):f6 (a:Rat)=((a.natAbs:Nat):Rat):=by
 rw[← c87]
 unfold f6
 split
 ·rename_i h
  have h:0≤a:=by exact_mod_cast h
  rw[show((a.natAbs:Nat):Int)=a by omega]
 ·rename_i h
  have h:¬ 0≤a:=fun z=>h (by exact_mod_cast z)
  rw[show((a.natAbs:Nat):Int) = -a by omega,d1A]
structure a5F(t:Rat)(l:Rat × Rat × Rat)(n:Nat)(s:Int × Int × Int):Prop where
 ex:∃ W:Nat,0<W∧(s.1:Rat)=(stQ t (l.1,l.2.1) n).1*(W:Rat)∧(s.2.1:Rat)=(stQ t (l.1,l.2.1) n).2*((W:Rat)*(t.den:Rat))∧(s.2.2:Rat)=l.2.2*(W:Rat)
 b1:s.1.natAbs<2 ^ (12000+470*n)
 b2:s.2.1.natAbs<2 ^ (12000+470*n)
 b3:s.2.2.natAbs<2 ^ (12000+470*n)
noncomputable def stD(s:Int × Int × Int):D:=.tup [.int s.1,.int s.2.1,.int s.2.2]
theorem a5F.bey{t:Rat}{l:Rat × Rat × Rat}{n:Nat}{s:Int × Int × Int}(h:a5F t l n s):(s.2.2<(s.1.natAbs:Int))↔A7 t l n:=by
 obtain⟨W,W0,e1,_,e3⟩:=h.ex
 have W0:(0:Rat)<(W:Rat):=by exact_mod_cast W0
 unfold A7
 have e4:=b2D s.1
 rw[e1,O4,show f6 (W:Rat)=(W:Rat)by unfold f6;rw[if_pos (by grind)]]at e4
 generalize (stQ t (l.1,l.2.1) n).1=x at *
 have c:(s.2.2<(s.1.natAbs:Int))↔((s.2.2:Rat)<((s.1.natAbs:Nat):Rat)):=by
  rw[← c87,d1v]
 rw[c,e3,← e4]
 generalize f6 x=a at *
 constructor
 ·intro z
  apply c9a
  intro nz
  have:=c9s (a:=l.2.2 - a) (b:=(W:Rat)) (by grind) (by grind)
  grind
 ·intro z
  have:=c9L (a:=a - l.2.2) (b:=(W:Rat)) (by grind) W0
  grind
theorem a5F.next{t:Rat}{l:Rat × Rat × Rat}{n:Nat}{s:Int × Int × Int}(ht:sz t≤231)(h:a5F t l n s):a5F t l (n+1) (s.2.1,t.num*s.2.1 - (t.den:Int)*(t.den:Int)*s.1,s.2.2*(t.den:Int)):=by
 obtain⟨W,W0,e1,e2,e3⟩:=h.ex
 have td:=t9 t ht
 have tn:=u4 t ht
 have td':(t.den:Int).natAbs<2 ^ 231:=by rw[c8V];exact td
 have e:=w6 t
 refine⟨⟨W*t.den,d0G W0 t.den_pos,?_,?_,?_⟩,?_,?_,?_⟩
 ·show(s.2.1:Rat)=(stQ t (l.1,l.2.1) n).2*((W*t.den:Nat):Rat)
  rw[e2,c9p]
 ·show((t.num*s.2.1 - (t.den:Int)*(t.den:Int)*s.1:Int):Rat)=(t*(stQ t (l.1,l.2.1) n).2 - (stQ t (l.1,l.2.1) n).1)*(((W*t.den:Nat):Rat)*(t.den:Rat))
  rw[d0r,c82,c82,c82,c87,e1,e2,← e,c9p]
  grind
 ·show((s.2.2*(t.den:Int):Int):Rat)=l.2.2*((W*t.den:Nat):Rat)
  rw[c82,e3,c87,c9p]
  grind
 ·exact r9 h.b2 (by omega)
 ·have m1:=e7 tn h.b2
  have m2:=e7 (e7 td' td') h.b1
  exact r9 (Y5 (r9 m1 (show _≤462+(12000+470*n)by omega)) (r9 m2 (by omega))) (by omega)
 ·exact r9 (e7 h.b3 td') (by omega)
noncomputable def szs(qs:List Rat):Nat:=(qs.map sz).sum
theorem a23{qs:List Rat}{q:Rat}(h:q∈qs):sz q≤szs qs:=by
 induction qs with
 | nil=>cases h
 | cons a r ih =>
  show sz q≤sz a+szs r
  rcases c9l.mp h with rfl|h
  ·omega
  ·have:=ih h;omega
theorem b4T{qs:List Rat}{i:Nat}{q:Rat}(h:qs[i]? = some q):szs (qs.take (i+1))=szs (qs.take i)+sz q:=by
 rw[c9T,h]
 unfold szs
 rw[c9f,List.sum_append];rfl
theorem c07(qs:List Rat)(i:Nat):szs (qs.take i)≤szs qs:=by
 have h:=congrArg szs (d0J i qs)
 unfold szs at h ⊢
 rw[c9f,List.sum_append]at h
 omega
local macro_rules|`(tactic| walk_at "inj")=>`(tactic| (rename_i e h;simp only[List.cons.injEq,and_true,true_and,GM.j7,GM.j3,GM.i7,GM.j4,GM.i8,D.tup.injEq,D.ref.injEq,D.int.injEq,D.str.injEq,D.bl.injEq,D.vl.injEq,c9i,and_assoc]at e;(repeat(obtain⟨e1,e⟩:=e;subst e1));subst e;exact h))
local macro_rules|`(tactic| walk_at "injs")=>`(tactic| (rename_i e o h;rcases o with o|o<;>(subst o;first|(exfalso;simp only[D.tup.injEq,List.cons.injEq,reduceCtorEq,false_and,and_false]at e;done)|(simp only[List.cons.injEq,and_true,true_and,GM.j7,GM.j3,GM.i7,GM.j4,GM.i8,D.tup.injEq,D.ref.injEq,D.int.injEq,D.str.injEq,D.bl.injEq,D.vl.injEq,c9i,and_assoc]at e;(repeat(obtain⟨e1,e⟩:=e;subst e1));subst e;exact h))))
noncomputable abbrev a7q(x:D)(M:Mem)(R:DK)(Y:DXK):Prop:=∃ qs:List Rat,(x = .tup (qs.map d9)∨x = .vl (qs.map d9))∧szs qs≤8500∧∀ B:Nat,0<B→B≤2 ^ szs qs→(∀ q∈qs,q.den ∣ B)→B ∣ (qs.map fun q:Rat=>q.den).prod→R (.int (B:Int)) M
noncomputable def b5j:DSp:=fun ds M R Y=>∃(x:D),ds=[x]∧a7q x M R Y
theorem b3T{x:D}{M:Mem}{R:DK}{Y:DXK}:b5j [x] M R Y=(a7q x M R Y):=propext ⟨fun z=>by obtain⟨_,_,_⟩:=z;walk_at "inj",fun h=>⟨x,rfl,h⟩⟩
noncomputable abbrev a7b(x:D)(b:Nat)(M:Mem)(R:DK)(Y:DXK):Prop:=∃ qs:List Rat,(x = .tup (qs.map d9)∨x = .vl (qs.map d9))∧(qs.length≤1000∧b≤2 ^ 8500∧0<b∧(∀ q∈qs,q.den ∣ b∧sz q≤8900))∧R (.vl (qs.map fun q=>.int (q.num*(b:Int).fdiv (q.den:Int)))) M
noncomputable def b5f:DSp:=fun ds M R Y=>∃(x:D) (b:Nat),ds=[x,.int (b:Int)]∧a7b x b M R Y
theorem b3N{x:D}{b:Nat}{M:Mem}{R:DK}{Y:DXK}:b5f [x,.int (b:Int)] M R Y=(a7b x b M R Y):=propext ⟨fun z=>by obtain⟨_,_,_,_⟩:=z;walk_at "inj",fun h=>⟨x,b,rfl,h⟩⟩
noncomputable abbrev V8(t x f r:Rat)(M:Mem)(R:DK)(Y:DXK):Prop:=(sz t≤231∧sz x+sz f+sz r≤8400∧sz x≤3000∧sz f≤3000∧sz r≤3000)∧∀ s:Int × Int × Int,a5F t (x,f,r) 0 s→R (stD s) M
noncomputable def a4m:DSp:=fun ds M R Y=>∃(t x f r:Rat),ds=[d9 t,d9 x,d9 f,d9 r]∧V8 t x f r M R Y
theorem a3E{t x f r:Rat}{M:Mem}{R:DK}{Y:DXK}:a4m [d9 t,d9 x,d9 f,d9 r] M R Y=(V8 t x f r M R Y):=propext ⟨fun z=>by obtain⟨_,_,_,_,_,_⟩:=z;walk_at "inj",fun h=>⟨t,x,f,r,rfl,h⟩⟩
noncomputable abbrev a0x(t:Rat)(x:D)(M:Mem)(R:DK)(Y:DXK):Prop:=∃ s:Int × Int × Int,x=stD s∧(sz t≤231∧∃ k,s.1.natAbs<2 ^ k∧s.2.1.natAbs<2 ^ k∧s.2.2.natAbs<2 ^ k∧k≤60000)∧R (stD (s.2.1,t.num*s.2.1 - (t.den:Int)*(t.den:Int)*s.1,s.2.2*(t.den:Int))) M
noncomputable def a7i:DSp:=fun ds M R Y=>∃(t:Rat) (x:D),ds=[d9 t,x]∧a0x t x M R Y
theorem a5V{t:Rat}{x:D}{M:Mem}{R:DK}{Y:DXK}:a7i [d9 t,x] M R Y=(a0x t x M R Y):=propext ⟨fun z=>by obtain⟨_,_,_,_⟩:=z;walk_at "inj",fun h=>⟨t,x,rfl,h⟩⟩
theorem c2u{a b:Int}{q:Rat}(b0:0<b):c9x a b=q↔a*(q.den:Int)=q.num*b:=by
 have hB:(b:Rat)≠0:=by intro z;exact absurd (show b=0 by exact_mod_cast z) (by omega)
 have hd:(q.den:Rat)≠0:=by intro z;exact q.den_nz (by exact_mod_cast z)
 have e:=w6 q
 rw[c9S]
 have e1:(a*(q.den:Int)=q.num*b)↔((a:Rat)*(q.den:Rat)=(q.num:Rat)*(b:Rat)):=by
  rw[← c82,← c87,← c82,Rat.intCast_inj]
 rw[e1,← e]
 constructor
 ·intro h;rw[← h];grind
 ·intro h
  have:(a:Rat)=q*(b:Rat):=by grind
  rw[this];grind
noncomputable abbrev a3f(a b:Int)(M:Mem)(R:DK)(Y:DXK):Prop:=(b≠0∧c9z a.natAbs b.natAbs<2 ^ 9000)∧R (d9 (c9x a b)) M
noncomputable def b1Q:DSp:=fun ds M R Y=>∃(a b:Int),ds=[.int a,.int b]∧a3f a b M R Y
theorem b1b{a b:Int}{M:Mem}{R:DK}{Y:DXK}:b1Q [.int a,.int b] M R Y=(a3f a b M R Y):=propext ⟨fun z=>by obtain⟨_,_,_,_⟩:=z;walk_at "inj",fun h=>⟨a,b,rfl,h⟩⟩
noncomputable abbrev a0q(q r:Rat)(M:Mem)(R:DK)(Y:DXK):Prop:=(sz q+sz r≤40000∧c9z (q.num*r.num).natAbs ((q.den:Int)*(r.den:Int)).natAbs<2 ^ 9000)∧R (d9 (q*r)) M
noncomputable def a69:DSp:=fun ds M R Y=>∃(q r:Rat),ds=[d9 q,d9 r]∧a0q q r M R Y
theorem a5M{q r:Rat}{M:Mem}{R:DK}{Y:DXK}:a69 [d9 q,d9 r] M R Y=(a0q q r M R Y):=propext ⟨fun z=>by obtain⟨_,_,_,_⟩:=z;walk_at "inj",fun h=>⟨q,r,rfl,h⟩⟩
noncomputable abbrev a1J(q r:Rat)(M:Mem)(R:DK)(Y:DXK):Prop:=(sz q+sz r≤40000∧c9z (q.num*(r.den:Int)+r.num*(q.den:Int)).natAbs ((q.den:Int)*(r.den:Int)).natAbs<2 ^ 9000)∧R (d9 (q+r)) M
noncomputable def b0j:DSp:=fun ds M R Y=>∃(q r:Rat),ds=[d9 q,d9 r]∧a1J q r M R Y
theorem a8i{q r:Rat}{M:Mem}{R:DK}{Y:DXK}:b0j [d9 q,d9 r] M R Y=(a1J q r M R Y):=propext ⟨fun z=>by obtain⟨_,_,_,_⟩:=z;walk_at "inj",fun h=>⟨q,r,rfl,h⟩⟩
noncomputable abbrev a1S(x:D)(M:Mem)(R:DK)(Y:DXK):Prop:=((∃ q:Rat,x=d9 q∧R (.bl true) M) ∨ ∃ n:Int,x = .int n∧R (.bl false) M)
noncomputable def a7n:DSp:=fun ds M R Y=>∃(x:D),ds=[x]∧a1S x M R Y
theorem a8q{x:D}{M:Mem}{R:DK}{Y:DXK}:a7n [x] M R Y=(a1S x M R Y):=propext ⟨fun z=>by obtain⟨_,_,_⟩:=z;walk_at "inj",fun h=>⟨x,rfl,h⟩⟩
noncomputable abbrev a0o(x:D)(M:Mem)(R:DK)(Y:DXK):Prop:=((∃ q:Rat,x=d9 q∧R (.bl false) M) ∨ ∃ n:Int,x = .int n∧R (.bl true) M)
noncomputable def a65:DSp:=fun ds M R Y=>∃(x:D),ds=[x]∧a0o x M R Y
theorem a5K{x:D}{M:Mem}{R:DK}{Y:DXK}:a65 [x] M R Y=(a0o x M R Y):=propext ⟨fun z=>by obtain⟨_,_,_⟩:=z;walk_at "inj",fun h=>⟨x,rfl,h⟩⟩
noncomputable abbrev a1F(a b:Int)(q:Rat)(M:Mem)(R:DK)(Y:DXK):Prop:=(0<b∧a.natAbs<2 ^ 20000∧b.natAbs<2 ^ 9000∧sz q≤9000)∧R (.bl (decide (c9x a b=q))) M
noncomputable def b0g:DSp:=fun ds M R Y=>∃(a b:Int) (q:Rat),ds=[.tup [.int a,.int b],d9 q]∧a1F a b q M R Y
theorem a8f{a b:Int}{q:Rat}{M:Mem}{R:DK}{Y:DXK}:b0g [.tup [.int a,.int b],d9 q] M R Y=(a1F a b q M R Y):=propext ⟨fun z=>by obtain⟨_,_,_,_,_⟩:=z;walk_at "inj",fun h=>⟨a,b,q,rfl,h⟩⟩
noncomputable abbrev a0s(t x f:Rat)(M:Mem)(R:DK)(Y:DXK):Prop:=(sz t≤231∧sz x+sz f≤4200)∧∀(T B:Int),0<B→B.natAbs<2 ^ 8402→T.natAbs<2 ^ 17100→(T:Rat)=t.den*(x*x - t*(x*f)+f*f)*B→R (.tup [.int T,.int B]) M
noncomputable def a28:DSp:=fun ds M R Y=>∃(t x f:Rat),ds=[d9 t,d9 x,d9 f]∧a0s t x f M R Y
theorem a5O{t x f:Rat}{M:Mem}{R:DK}{Y:DXK}:a28 [d9 t,d9 x,d9 f] M R Y=(a0s t x f M R Y):=propext ⟨fun z=>by obtain⟨_,_,_,_,_⟩:=z;walk_at "inj",fun h=>⟨t,x,f,rfl,h⟩⟩
noncomputable abbrev a3c(t x f:Rat)(M:Mem)(R:DK)(Y:DXK):Prop:=(sz t≤231∧-2<t∧t<2∧sz x+sz f≤4200)∧∀(T B:Int),0<B→B.natAbs<2 ^ 8870→T.natAbs<2 ^ 17400→c9x T B=J3 t x f→R (.tup [.int T,.int B]) M
noncomputable def a6p:DSp:=fun ds M R Y=>∃(t x f:Rat),ds=[d9 t,d9 x,d9 f]∧a3c t x f M R Y
theorem b08{t x f:Rat}{M:Mem}{R:DK}{Y:DXK}:a6p [d9 t,d9 x,d9 f] M R Y=(a3c t x f M R Y):=propext ⟨fun z=>by obtain⟨_,_,_,_,_⟩:=z;walk_at "inj",fun h=>⟨t,x,f,rfl,h⟩⟩
noncomputable abbrev a0t(w:D)(t x f r:Rat)(M:Mem)(R:DK)(Y:DXK):Prop:=∃ m:Q4,w = .str (kwS m)∧t=trQ m∧(CDQ 230 m∧W9 m=1∧sz x+sz f≤4200∧sz r≤3000∧0<r)∧R (.bl (p8 m x f r)) M
noncomputable def a29:DSp:=fun ds M R Y=>∃(w:D) (t x f r:Rat),ds=[w,d9 t,d9 x,d9 f,d9 r]∧a0t w t x f r M R Y
theorem a5P{w:D}{t x f r:Rat}{M:Mem}{R:DK}{Y:DXK}:a29 [w,d9 t,d9 x,d9 f,d9 r] M R Y=(a0t w t x f r M R Y):=propext ⟨fun z=>by obtain⟨_,_,_,_,_,_,_⟩:=z;walk_at "inj",fun h=>⟨w,t,x,f,r,rfl,h⟩⟩
structure a2a(l:Rat × Rat × Rat):Prop where
 xf:sz l.1+sz l.2.1≤4200
 x:sz l.1≤3000
 f:sz l.2.1≤3000
 r:sz l.2.2≤3000
 p:0<l.2.2
noncomputable abbrev a1D(t:Rat)(x y:D)(N:Nat)(M:Mem)(R:DK)(Y:DXK):Prop:=∃(ls:List (Rat × Rat × Rat)) (ws:List Nat),x = .vl (ls.map p5)∧y = .vl (ws.map fun k:Nat=>D.int (k:Int))∧(sz t≤231∧(ls.length≤40∧ws.length≤40)∧N≤60∧(∀ l∈ls,a2a l)∧∀ k∈ws,k<ls.length)∧R (a30 (M9 t ls ws N)) M
noncomputable def a7c:DSp:=fun ds M R Y=>∃(t:Rat) (x y:D) (N:Nat),ds=[d9 t,x,y,.int (N:Int)]∧a1D t x y N M R Y
theorem Y3{t:Rat}{x y:D}{N:Nat}{M:Mem}{R:DK}{Y:DXK}:a7c [d9 t,x,y,.int (N:Int)] M R Y=(a1D t x y N M R Y):=propext ⟨fun z=>by obtain⟨_,_,_,_,_,_⟩:=z;walk_at "inj",fun h=>⟨t,x,y,N,rfl,h⟩⟩
inductive En where
 | one (w:Str)
 | int (w:Str) (n:Int)
 | rat (w:Str) (q:Rat)
noncomputable def enD:En→D
 | .one w=>.tup [.str w]
 | .int w n=>.tup [.str w,.int n]
 | .rat w q=>.tup [.str w,d9 q]
noncomputable def X7(m:Q4)(l:Rat × Rat × Rat):En→Prop
 | .one w=>w = "nought" ∧ l.1=0∧l.2.1=0
 | .int w n=>w = "round" ∧ u7 m∧n=(rtN m:Int)∧∀ j,j<rtN m→¬ A7 (trQ m) l j
 | .rat w q=>(w = "reach" ∧ (¬ u7 m∧f6 (trQ m)<2)∧J3 (trQ m) l.1 l.2.1=q∧¬ l.2.2*l.2.2<q)∨(w = "kept" ∧ ¬ 1<f6 q∧q*q+1=trQ m*q∧q*l.1=l.2.1∧¬ l.2.2<f6 l.1)
noncomputable def P1(m:Q4)(l:Rat × Rat × Rat)(e:En):Bool:=@decide (X7 m l e) (c9R _)
theorem a4F{m:Q4}{l:Rat × Rat × Rat}{e:En}(h:X7 m l e):P1 m l e=true:=@decide_eq_true _ (c9R _) h
theorem F8{m:Q4}{l:Rat × Rat × Rat}{e:En}(h:¬ X7 m l e):P1 m l e=false:=@decide_eq_false _ (c9R _) h
theorem c1Y{m:Q4}{l:Rat × Rat × Rat}{e:En}:P1 m l e=true↔X7 m l e:=@decide_eq_true_iff _ (c9R _)
theorem c2p(q:Rat):c9z (q.num*q.num).natAbs ((q.den:Int)*(q.den:Int)).natAbs<2 ^ 9000:=by
 rw[c9q,← c9P,c8V]
 have h:Nat.Coprime q.num.natAbs q.den:=q.reduced
 have:c9z (q.num.natAbs*q.num.natAbs) (q.den*q.den)=1:=Nat.Coprime.mul_left (Nat.Coprime.mul_right h h) (Nat.Coprime.mul_right h h)
 rw[this];exact d07 (by decide)
theorem c2q{q r:Rat}(hq:sz q≤4000)(hr:sz r≤8990):c9z (q.num*r.num).natAbs ((q.den:Int)*(r.den:Int)).natAbs<2 ^ 9000:=by
 rw[c9q,← c9P,c8V]
 have h1:Nat.Coprime q.num.natAbs q.den:=q.reduced
 have h2:Nat.Coprime r.num.natAbs r.den:=r.reduced
 by_cases z:q.num=0
 ·have qd:q.den=1:=by rw[z]at h1;simpa using h1
  rw[z,qd]
  show c9z (0*_) (1*r.den)<_
  rw[Nat.zero_mul,Nat.gcd_zero_left,Nat.one_mul]
  exact r9 (t9 r hr) (by decide)
 ·have d1:c9z (q.num.natAbs*r.num.natAbs) (q.den*r.den) ∣ c9z (q.num.natAbs*r.num.natAbs) q.den*c9z (q.num.natAbs*r.num.natAbs) r.den:=Nat.gcd_mul_right_dvd_mul_gcd _ _ _
  have e1:c9z (q.num.natAbs*r.num.natAbs) q.den=c9z r.num.natAbs q.den:=Nat.Coprime.gcd_mul_left_cancel _ h1
  have e2:c9z (q.num.natAbs*r.num.natAbs) r.den=c9z q.num.natAbs r.den:=Nat.Coprime.gcd_mul_right_cancel _ h2
  rw[e1,e2]at d1
  have p1:c9z r.num.natAbs q.den≤q.den:=d1q _ q.den_pos
  have p2:c9z q.num.natAbs r.den≤q.num.natAbs:=Nat.gcd_le_left _ (d1H.mpr z)
  have p3:=o7 (t9 q hq) (u4 q hq)
  have p4:0<c9z r.num.natAbs q.den*c9z q.num.natAbs r.den:=d0G (d0j _ q.den_pos) (d0j _ r.den_pos)
  exact r9 (c9e (c85 (d1j p4 d1) (d0n p1 p2)) p3) (by decide)
theorem b9c(q:Rat):c9z (q.num*((1:Rat).den:Int)+(1:Rat).num*(q.den:Int)).natAbs ((q.den:Int)*((1:Rat).den:Int)).natAbs<2 ^ 9000:=by
 have h:Nat.Coprime q.num.natAbs q.den:=q.reduced
 have e1:((1:Rat).den:Int)=1:=rfl
 have e2:(1:Rat).num=1:=rfl
 rw[e1,e2,d2k,d2k,d1L,c8V]
 have:c9z (q.num+(q.den:Int)).natAbs q.den=1:=by
  have g:d11 (q.num+(q.den:Int)) (q.den:Int)=d11 q.num (q.den:Int):=Int.gcd_add_self_left ..
  exact g.trans h
 rw[this];exact d07 (by decide)
theorem c4g{t k:Rat}(h:k*k+1=t*k):sz k≤sz t:=c4h (by grind)
noncomputable abbrev a0v(x:D)(l:Rat × Rat × Rat)(d:D)(M:Mem)(R:DK)(Y:DXK):Prop:=∃ m,x=F6 m∧(CDQ 230 m∧W9 m=1∧a2a l)∧((∃ q:Rat,d=d9 q∧R (.bl false) M) ∨ ∃ n:Int,d = .int n∧R (.bl (P1 m l (.int "round" n))) M)
noncomputable def a7f:DSp:=fun ds M R Y=>∃(x:D) (l:Rat × Rat × Rat) (d:D),ds=[x,p5 l,d]∧a0v x l d M R Y
theorem a5R{x:D}{l:Rat × Rat × Rat}{d:D}{M:Mem}{R:DK}{Y:DXK}:a7f [x,p5 l,d] M R Y=(a0v x l d M R Y):=propext ⟨fun z=>by obtain⟨_,_,_,_,_⟩:=z;walk_at "inj",fun h=>⟨x,l,d,rfl,h⟩⟩
noncomputable abbrev V3(x:D)(l:Rat × Rat × Rat)(d:D)(M:Mem)(R:DK)(Y:DXK):Prop:=∃ m,x=F6 m∧(CDQ 230 m∧W9 m=1∧a2a l)∧((∃ q:Rat,d=d9 q∧sz q≤8900∧R (.bl (P1 m l (.rat "reach" q))) M) ∨ ∃ n:Int,d = .int n∧R (.bl false) M)
noncomputable def a4g:DSp:=fun ds M R Y=>∃(x:D) (l:Rat × Rat × Rat) (d:D),ds=[x,p5 l,d]∧V3 x l d M R Y
theorem a3w{x:D}{l:Rat × Rat × Rat}{d:D}{M:Mem}{R:DK}{Y:DXK}:a4g [x,p5 l,d] M R Y=(V3 x l d M R Y):=propext ⟨fun z=>by obtain⟨_,_,_,_,_⟩:=z;walk_at "inj",fun h=>⟨x,l,d,rfl,h⟩⟩
noncomputable abbrev a1R(x:D)(l:Rat × Rat × Rat)(d:D)(M:Mem)(R:DK)(Y:DXK):Prop:=∃ m,x=F6 m∧(CDQ 230 m∧W9 m=1∧a2a l)∧((∃ q:Rat,d=d9 q∧sz q≤8890∧R (.bl (P1 m l (.rat "kept" q))) M) ∨ ∃ n:Int,d = .int n∧R (.bl false) M)
noncomputable def b0n:DSp:=fun ds M R Y=>∃(x:D) (l:Rat × Rat × Rat) (d:D),ds=[x,p5 l,d]∧a1R x l d M R Y
theorem a8p{x:D}{l:Rat × Rat × Rat}{d:D}{M:Mem}{R:DK}{Y:DXK}:b0n [x,p5 l,d] M R Y=(a1R x l d M R Y):=propext ⟨fun z=>by obtain⟨_,_,_,_,_⟩:=z;walk_at "inj",fun h=>⟨x,l,d,rfl,h⟩⟩
noncomputable def b02:En→Prop
 | .one w=>cl 57 (.str w)=true
 | .int w n=>cl 57 (.str w)=true∧n.natAbs<2 ^ 20
 | .rat w q=>cl 57 (.str w)=true∧sz q≤8890
noncomputable abbrev a1O(x:D)(l:Rat × Rat × Rat)(d:D)(M:Mem)(R:DK)(Y:DXK):Prop:=∃ m,x=F6 m∧(CDQ 230 m∧W9 m=1∧a2a l)∧∃ e:En,d=enD e∧b02 e∧R (.bl (P1 m l e)) M
noncomputable def b0m:DSp:=fun ds M R Y=>∃(x:D) (l:Rat × Rat × Rat) (d:D),ds=[x,p5 l,d]∧a1O x l d M R Y
theorem a8m{x:D}{l:Rat × Rat × Rat}{d:D}{M:Mem}{R:DK}{Y:DXK}:b0m [x,p5 l,d] M R Y=(a1O x l d M R Y):=propext ⟨fun z=>by obtain⟨_,_,_,_,_⟩:=z;walk_at "inj",fun h=>⟨x,l,d,rfl,h⟩⟩
noncomputable def C7(L:List (Str × Rat))(y u:Rat)(l:Rat × Rat × Rat):Rat × Rat × Rat:=(l.1*y+l.2.1*u,l.1*(g8 L (y,u)).1+l.2.1*(g8 L (y,u)).2,l.2.2)
noncomputable def p6(near:Rat)(bs:List (Str × Rat))(far:Rat)(y u:Rat):List (Rat × Rat × Rat):=(A5 (d8 near bs far) (d8 near bs far).length).map (C7 (d8 near bs far) y u)
noncomputable def a4q(m:Q4)(ls:List (Rat × Rat × Rat))(es:List En):Bool:=decide (es.length=ls.length) && (ls.zip es).all fun z=>P1 m z.1 z.2
theorem B1.ln{near far:Rat}{bs:List (Str × Rat)}(hw:B1 near bs far){y u:Rat}{S:Nat}(cd:CD S y 0 u 0)(hS:S≤1700){l:Rat × Rat × Rat}(hl:l∈A5 (d8 near bs far) (d8 near bs far).length):a2a (C7 (d8 near bs far) y u l)∧sz l.1≤230∧sz l.2.1≤230:=by
 obtain⟨⟨a1,a2⟩,⟨a3,a4⟩,_,_⟩:=hw.line (y:=0) (u:=0) ((CD.ray2 (k:=1) (l:=1) (by rw[RM.C9];decide) (by rw[RM.C9];decide)).mono (by decide)) hl
 obtain⟨j,px,hj,hpx,el⟩:=R1 _ l hl
 obtain⟨z1,z2⟩:=b5l hw.cd cd j
 have e1:(g8 ((d8 near bs far).take j) (1,0)).1=l.1:=by rw[el]
 have e2:(g8 ((d8 near bs far).take j) (0,1)).1=l.2.1:=by rw[el]
 rw[e1,e2]at z1 z2
 have w1:sz (C7 (d8 near bs far) y u l).1≤231+S:=z1
 have w2:sz (C7 (d8 near bs far) y u l).2.1≤462+S:=z2
 exact⟨⟨by omega,by omega,by omega,a3,a4⟩,a1,a2⟩
theorem a0h{near far:Rat}{bs:List (Str × Rat)}(hw:B1 near bs far){y u:Rat}{S:Nat}(cd:CD S y 0 u 0)(hS:S≤1700):∀ l∈p6 near bs far y u,a2a l:=fun l hl=>by
 obtain⟨l0,h0,rfl⟩:=c9t.mp hl
 exact(hw.ln cd hS h0).1
theorem a2x(near far:Rat)(bs:List (Str × Rat))(y u:Rat):(p6 near bs far y u).length≤2*bs.length+2:=by
 have:=K5 (d8 near bs far) (d8 near bs far).length
 have:=O2 near far bs
 unfold p6
 rw[c8Y];omega
theorem a5G(near far:Rat)(bs:List (Str × Rat)):(((F7 (j5 near bs far) (j5 near bs far).length).zip (A5 (d8 near bs far) (j5 near bs far).length)).map fun z=>p5 z.2)=(A5 (d8 near bs far) (d8 near bs far).length).map p5:=by
 have h:=O9 (j5 near bs far) (j5 near bs far).length
 rw[I0]at h
 rw[show(fun z:(D × D) × (Rat × Rat × Rat)=>p5 z.2)=p5 ∘ Prod.snd from rfl,← c9N,List.map_snd_zip (by omega),B3]
noncomputable abbrev L8(x:D)(y u:Rat)(z:D)(M:Mem)(R:DK)(Y:DXK):Prop:=∃(L:List (Str × Rat)) (ls:List (Rat × Rat × Rat)),x=F6 (tbQ L)∧z = .vl (ls.map p5)∧(∃ S,CDQ 230 (tbQ L)∧CD S y 0 u 0∧S≤1700∧ls.length≤40∧∀ l∈ls,sz l.1≤230∧sz l.2.1≤230)∧R (.vl ((ls.map (C7 L y u)).map p5)) M
noncomputable def N9:DSp:=fun ds M R Y=>∃(x:D) (y u:Rat) (z:D),ds=[x,v6 y u,z]∧L8 x y u z M R Y
theorem a1u{x:D}{y u:Rat}{z:D}{M:Mem}{R:DK}{Y:DXK}:N9 [x,v6 y u,z] M R Y=(L8 x y u z M R Y):=propext ⟨fun z=>by obtain⟨_,_,_,_,_,_⟩:=z;walk_at "inj",fun h=>⟨x,y,u,z,rfl,h⟩⟩
noncomputable abbrev a1L(x0:D)(y u:Rat)(x:D)(M:Mem)(R:DK)(Y:DXK):Prop:=∃(near:Rat) (bs:List (Str × Rat)) (far:Rat) (es:List En),x0 = .tup [d9 near,.vl (bs.map f9),d9 far]∧(x = .vl (es.map enD)∨x = .tup (es.map enD))∧((B1 near bs far∧∃ S,CD S y 0 u 0∧S≤1700)∧es.length≤40∧∀ e∈es,b02 e)∧R (.bl (a4q (tbQ (d8 near bs far)) (p6 near bs far y u) es)) M
noncomputable def b0k:DSp:=fun ds M R Y=>∃(x0:D) (y u:Rat) (x:D),ds=[x0,v6 y u,x]∧a1L x0 y u x M R Y
theorem a8k{x0:D}{y u:Rat}{x:D}{M:Mem}{R:DK}{Y:DXK}:b0k [x0,v6 y u,x] M R Y=(a1L x0 y u x M R Y):=propext ⟨fun z=>by obtain⟨_,_,_,_,_,_⟩:=z;walk_at "inj",fun h=>⟨x0,y,u,x,rfl,h⟩⟩
noncomputable abbrev V4(near:Rat)(bs:List (Str × Rat))(far:Rat)(y u:Rat)(M:Mem)(R:DK)(Y:DXK):Prop:=(B1 near bs far∧CD 1000 y 0 u 0)∧R (.vl ((p6 near bs far y u).map p5)) M
noncomputable def a4h:DSp:=fun ds M R Y=>∃(near:Rat) (bs:List (Str × Rat)) (far:Rat) (y u:Rat),ds=[.tup [d9 near,.vl (bs.map f9),d9 far],v6 y u]∧V4 near bs far y u M R Y
theorem a3x{near:Rat}{bs:List (Str × Rat)}{far:Rat}{y u:Rat}{M:Mem}{R:DK}{Y:DXK}:a4h [.tup [d9 near,.vl (bs.map f9),d9 far],v6 y u] M R Y=(V4 near bs far y u M R Y):=propext ⟨fun z=>by obtain⟨_,_,_,_,_,_,_⟩:=z;walk_at "inj",fun h=>⟨near,bs,far,y,u,rfl,h⟩⟩
noncomputable abbrev a1M(t x f r:Rat)(N:Nat)(M:Mem)(R:DK)(Y:DXK):Prop:=(sz t≤231∧a2a (x,f,r)∧N≤100)∧R (c1L (Q9 t (x,f,r) N)) M
noncomputable def b0l:DSp:=fun ds M R Y=>∃(t x f r:Rat) (N:Nat),ds=[d9 t,d9 x,d9 f,d9 r,.int (N:Int)]∧a1M t x f r N M R Y
theorem a8l{t x f r:Rat}{N:Nat}{M:Mem}{R:DK}{Y:DXK}:b0l [d9 t,d9 x,d9 f,d9 r,.int (N:Int)] M R Y=(a1M t x f r N M R Y):=propext ⟨fun z=>by obtain⟨_,_,_,_,_,_,_⟩:=z;walk_at "inj",fun h=>⟨t,x,f,r,N,rfl,h⟩⟩
end GM
namespace L2
open PySem PySem.Spec PyProof.Rows
theorem b3F(a d:Value):argsOk "min" ⟨[a],[(Str.ofString "default",d)]⟩:=by unfold argsOk;kernel_rfl
noncomputable def D9(h0 h:Heap):Prop:=∀ b o,h0.get? b=some o→h.get? b=some o
noncomputable def b2G(prog:Program)(w:World)(A:Around)(h0:Heap)(P:Nat→Value→Prop)(bt:Nat→Nat→Bool):Prop :=
 ∀ i j x y (s:Shared) (Q:Value→Shared→Prop) (E:Value→Shared→Prop),D9 h0 s.heap→P i x→P j y→Q (.bool (bt i j)) s→wpAny (model prog w) A (richCompare .Lt x y) Q E s
section
variable {prog:Program} {w:World} {A:Around} {R:Result→Shared→Prop} {I S:Addr} {fp wr:List Addr} {n:Nat} {P:Nat→Value→Prop} {St:Nat→Heap→Prop} {bt:Nat→Nat→Bool} {h0:Heap}
theorem b2a:(toString "min" ++ toString ".loop" : String) = "min.loop" := by decide
noncomputable abbrev dfl:List (Str × Value):=[(Str.ofString "default",.none)]
theorem b0F(W:Walks prog w A.in1 I fp wr n P St)(cmp:b2G prog w A.in1 h0 P bt)(nf:S∉fp)(n0:h0.get? S=none)(w0:∀ b∈wr,h0.get? b=none) :
  ∀(k j:Nat) (s:Shared) (x:Value) (c:Nat),j+1+k=n→D9 h0 s.heap→St (j+1) s.heap→P (argBest bt j) x→s.heap.get? S=some { cls:=.type "list",dict:=none,data:=.seq #[x,x] c,slots:=#[] } →
  (∀ v h2 tk,P (argBest bt (n - 1)) v→D9 h0 h2→R (.ok (.ret v)) { s with heap:=h2,toks:=tk })→codeAny (model prog w) A (.builtin "min.loop" ⟨[.ref I,.none,.ref S],dfl⟩) R s:=by
 have nw:S∉wr:=fun z=>nf (W.sub _ z)
 have onw:∀{h h2:Heap},D9 h0 h→(∀ b o,b∉wr→h.get? b=some o→h2.get? b=some o)→D9 h0 h2:=fun st kp b o e=>kp b o (fun z=>by rw[w0 b z]at e;cases e) (st b o e)
 have onS:∀{h:Heap} {g:Obj→Obj},D9 h0 h→D9 h0 (h.update S g):=fun st b o e=>(c9v _ _ (fun z:S=b=>by rw[← z,n0]at e;cases e)).trans (st b o e)
 intro k
 induction k with
 | zero =>
  intro j s x c ej st hst px oS fin
  refine codeAny_builtin F.entry_min_loop ?_
  rw[Around.under_plainId F.plain_min_loop _]
  show wpAny _ A.in1 (seqItems? (.ref S) >>= _) _ _ s
  refine c8T (wpAny_seqItems oS rfl ?_)
  show wpAny _ A.in1 (tryCatch (pyNext (.ref I)) _ >>= _) _ _ s
  have ej:j+1=n:=by omega
  refine c8T (wpAny_tryCatch (W.done s _ _ (ej▸hst) fun h2 tk kp=>?_))
  have oS2:=kp S _ nw oS
  show wpAny _ A.in1 (updateSeq S (fun _=>#[]) >>= _) _ _ _
  refine c8T ?_
  refine wpAny_updateSeq oS2 rfl (c8T (wpAny_letGo (c84 ?_)))
  exact fin x _ tk (by rw[← ej];exact px) (onS (onw st kp))
 | succ k ih =>
  intro j s x c ej st hst px oS fin
  refine codeAny_builtin F.entry_min_loop ?_
  rw[Around.under_plainId F.plain_min_loop _]
  show wpAny _ A.in1 (seqItems? (.ref S) >>= _) _ _ s
  refine c8T (wpAny_seqItems oS rfl ?_)
  show wpAny _ A.in1 (tryCatch (pyNext (.ref I)) _ >>= _) _ _ s
  refine c8T (wpAny_tryCatch (W.item (j+1) s _ _ (by omega) hst fun y h2 tk py hst2 kp=>?_))
  have oS2:=kp S _ nw oS
  have st2:=onw st kp
  show wpAny _ A.in1 (tryCatch (holding [y,y] (richCompare .Lt y x >>= _)) _ >>= _) _ _ _
  refine c8T (wpAny_tryCatch (wpAny_holding (c8T (cmp (j+1) (argBest bt j) y x _ _ _ st2 py px ?_))))
  refine c8T (wpAny_holding (wpAny_truthy_bool ?_))
  refine c8T (wpAny_letGo (c84 ?_))
  cases hb:bt (j+1) (argBest bt j)with
  | true =>
   simp only[if_true]
   refine c8T ?_
   refine wpAny_updateSeq oS2 rfl (c8T (wpAny_letGo ?_))
   rw[b2a]
   refine c84 ⟨plainId_quiet F.plain_min_loop _,ih (j+1) _ y _ (by omega) (onS st2) (W.frame _ _ _ hst2 fun b bf o e=>?_) (by simp only[argBest,hb,if_true];exact py) (c9E _ oS2 rfl) fin⟩
   exact(c9v _ _ (fun z:S=b=>nf (by rw[z];exact bf))).trans e
  | false =>
   simp only[c9U,if_false]
   refine c8T (wpAny_letGo ?_)
   rw[b2a]
   exact c84 ⟨plainId_quiet F.plain_min_loop _,ih (j+1) _ x c (by omega) st2 hst2 (by simp only[argBest,hb,c9U,if_false];exact px) oS2 fin⟩
theorem b0G(W:Walks prog w A.in1 I fp wr n P St)(cmp:b2G prog w A.in1 h0 P bt)(nf:S∉fp)(n0:h0.get? S=none)(w0:∀ b∈wr,h0.get? b=none){s:Shared}{c:Nat}(st:D9 h0 s.heap)(hst:St 0 s.heap)
  (oS:s.heap.get? S=some { cls:=.type "list",dict:=none,data:=.seq #[] c,slots:=#[] })
  (fin0:n=0→∀ h2 tk,D9 h0 h2→R (.ok (.ret .none)) { s with heap:=h2,toks:=tk })
  (fin:0<n→∀ v h2 tk,P (argBest bt (n - 1)) v→D9 h0 h2→R (.ok (.ret v)) { s with heap:=h2,toks:=tk }):codeAny (model prog w) A (.builtin "min.loop" ⟨[.ref I,.none,.ref S],dfl⟩) R s:=by
 have nw:S∉wr:=fun z=>nf (W.sub _ z)
 have onw:∀{h h2:Heap},D9 h0 h→(∀ b o,b∉wr→h.get? b=some o→h2.get? b=some o)→D9 h0 h2:=fun st kp b o e=>kp b o (fun z=>by rw[w0 b z]at e;cases e) (st b o e)
 have onS:∀{h:Heap} {g:Obj→Obj},D9 h0 h→D9 h0 (h.update S g):=fun st b o e=>(c9v _ _ (fun z:S=b=>by rw[← z,n0]at e;cases e)).trans (st b o e)
 refine codeAny_builtin F.entry_min_loop ?_
 rw[Around.under_plainId F.plain_min_loop _]
 show wpAny _ A.in1 (seqItems? (.ref S) >>= _) _ _ s
 refine c8T (wpAny_seqItems oS rfl ?_)
 show wpAny _ A.in1 (tryCatch (pyNext (.ref I)) _ >>= _) _ _ s
 rcases d0o n with z|z
 ·subst z
  refine c8T (wpAny_tryCatch (W.done s _ _ hst fun h2 tk kp=>?_))
  show wpAny _ A.in1 (rule _ >>= _) _ _ _
  exact c8T (wpAny_rule (c84 (fin0 rfl h2 tk (onw st kp))))
 ·refine c8T (wpAny_tryCatch (W.item 0 s _ _ z hst fun y h2 tk py hst2 kp=>?_))
  have oS2:=kp S _ nw oS
  show wpAny _ A.in1 (updateSeq S (fun _=>#[y,y]) >>= _) _ _ _
  refine c8T ?_
  refine wpAny_updateSeq oS2 rfl ?_
  rw[b2a]
  refine c84 ⟨plainId_quiet F.plain_min_loop _,b0F W cmp nf n0 w0 (n - 1) 0 _ y _ (by omega) (onS (onw st kp)) (W.frame _ _ _ hst2 fun b bf o e=>?_) py (c9E _ oS2 rfl) (fin z)⟩
  exact(c9v _ _ (fun z:S=b=>nf (by rw[z];exact bf))).trans e
theorem b0W{l:Addr}{vs:Array Value}{s:Shared}{Q:Value→Shared→Prop}{E:Value→Shared→Prop}(hh:A.handled=none)(hl:s.heap.IsList l vs)(cmp:b2G prog w A.in1 s.heap (fun i v=>vs[i]? = some v) bt)
  (fin0:vs.size=0→∀ h2 tk,D9 s.heap h2→Q .none { s with heap:=h2,toks:=tk })
  (fin:0<vs.size→∀ v h2 tk,vs[argBest bt (vs.size - 1)]? = some v→D9 s.heap h2→Q v { s with heap:=h2,toks:=tk }) :
  wpAny (model prog w) A (call (.builtin "min") [.ref l] dfl) Q E s:=by
 have lt:l<s.heap.objs.size:=by obtain⟨o,ho,_⟩:=hl;exact c89 ho
 refine kmb_tree F.kind_min F.plain_min F.entry_min (b3F _ _) ?_
 show wpAny _ A.in1 (Builtin.Builtins.bindParams "min" ["key","default"] 0 ⟨[],dfl⟩ >>= _) _ _ s
 refine c8T (wpAny_of_eq (a:=[none,some .none]) rfl ?_)
 refine c8T (c84 ?_)
 refine c8T (wpAny_pyIter_list hl ?_)
 refine c8T (wpAny_newObj_type ?_)
 rw[b2a]
 have z1:(s.heap.push { cls:=.type "list_iterator",data:=.fields #[.ref l,.int 0 0] }).objs.size=s.heap.objs.size+1:=c9V ..
 have fr:∀ b,s.heap.objs.size≤b→s.heap.get? b=none:=fun b hb=>d1D hb
 refine c84 ⟨plainId_quiet F.plain_min_loop _,?_⟩
 refine b0G (Walks.list (A:=A.in1) hh s.heap.objs.size l (c9y lt) vs) cmp (fun hm=>?_) (fr _ (by rw[z1];omega)) (fun b hb=>by rw[c88.mp hb];exact fr _ (c9b _)) (fun b o e=>c8X _ (c8X _ e)) ⟨⟨_,c8X _ (c86 _ rfl),rfl,rfl⟩,(hl.push _).push _⟩ (c86 _ rfl) (fun z h2 tk st=>fin0 z h2 tk st) (fun z v h2 tk pv st=>fin z v h2 tk pv st)
 rcases c9l.mp hm with hm|hm
 ·rw[z1]at hm;exact c92 (Nat.lt_succ_self _) hm
 ·have e:=c88.mp hm
  rw[z1]at e
  rw[← e]at lt
  exact d0a _ (Nat.lt_of_succ_lt lt)
end
end L2
namespace L2
open PySem PySem.Spec PyProof.Rows
theorem D9.tup{h h2:Heap}{a:Addr}{its:Array Value}(st:D9 h h2)(t:IsTup h a its):IsTup h2 a its:=by
 obtain⟨o,ho,r⟩:=t
 exact⟨o,st a o ho,r⟩
theorem b81{a b c d:Int}:HT.D5 [a,b] [c,d]=true↔a<c∨(a=c∧b<d):=by
 rw[HT.a1k]
 by_cases h:a=c
 ·rw[if_pos h,HT.a1k]
  by_cases h2:b=d
  ·rw[if_pos h2,HT.a0X];simp;omega
  ·rw[if_neg h2,decide_eq_true_eq];omega
 ·rw[if_neg h,decide_eq_true_eq];omega
theorem c0J(p:Nat→Int × Int):∀ k,argBest (fun i j=>HT.D5 [(p i).1,(p i).2] [(p j).1,(p j).2]) k≤k∧∀ j,j≤k→¬ HT.D5 [(p j).1,(p j).2] [(p (argBest (fun i j=>HT.D5 [(p i).1,(p i).2] [(p j).1,(p j).2]) k)).1,(p (argBest (fun i j=>HT.D5 [(p i).1,(p i).2] [(p j).1,(p j).2]) k)).2]=true
 | 0=>⟨c9b _,fun j hj=>by
  obtain rfl:j=0:=by omega
  show ¬ HT.D5 [(p 0).1,(p 0).2] [(p 0).1,(p 0).2]=true
  rw[b81];omega⟩
 | k+1=>by
  obtain⟨h1,h2⟩:=c0J p k
  generalize hb:argBest (fun i j=>HT.D5 [(p i).1,(p i).2] [(p j).1,(p j).2]) k=b at *
  have e:argBest (fun i j=>HT.D5 [(p i).1,(p i).2] [(p j).1,(p j).2]) (k+1)=if HT.D5 [(p (k+1)).1,(p (k+1)).2] [(p b).1,(p b).2]=true then k+1 else b:=by
   rw[← hb];rfl
  rw[e]
  by_cases h:HT.D5 [(p (k+1)).1,(p (k+1)).2] [(p b).1,(p b).2]=true
  ·rw[if_pos h]
   refine⟨c9b _,fun j hj=>?_⟩
   rcases c93 k j with z|z
   ·obtain rfl:j=k+1:=by omega
    rw[b81];omega
   ·have:=h2 j z
    rw[b81]at *;omega
  ·rw[if_neg h]
   refine⟨by omega,fun j hj=>?_⟩
   rcases c93 k j with z|z
   ·obtain rfl:j=k+1:=by omega
    exact h
   ·exact h2 j z
section
variable {X:Cx} {e:Expr} {p pos:Pos} {t:TA}
noncomputable def c3N(K:c8U)(xs:List V)(H:Hp)(Q:VK):Prop:=∃(l:Addr) (as:List Addr) (ps:List (Int × Int)),xs=[.ref l]∧SqL K H l (as.map V.ref)∧as.length=ps.length∧(∀(i:Nat) (a:Addr) (p:Int × Int),as[i]? = some a→ps[i]? = some p→SqT K H a ([p.1,p.2].map V.int)) ∧
 (ps=[]→Q .non H)∧∀(i:Nat) (a:Addr) (p:Int × Int),as[i]? = some a→ps[i]? = some p→(∀ q∈ps,¬ HT.D5 [q.1,q.2] [p.1,p.2]=true)→Q (.ref a) H
theorem a8H:∀{as:List Addr} {us:List Value},q9 (as.map V.ref) us→us=as.map Value.ref
 | [],us,h=>by cases h;rfl
 | a :: as,us,h=>by
  cases h with
  | cons r t=>rw[a8H t];cases r;rfl
theorem b8F{kj kp kq}(hu:X.A.units+64<cLine)(hc:X.calm=true)(hg:Gl X "min")(hm:X.mg "min" = none)(hv:bootBuiltins "min" = some (.builtin "min"))(ha:PA X [e] t)(he:backTo pos (starEach [e] X.env)=(false,eval e X.env) :: backTo pos (starEach [] X.env):=by rfl)
  (hpl:(backTo pos (starEach [e] X.env)).any (·.1)=false:=by rfl):PE X (.Call (.Name "min" p) [e] [⟨some "default",.Constant .none kj kp,kq⟩] pos) (tCB (c3N X.K) t):=by
 intro pins s σ H Q I h
 refine wpAny_Call_Name_kw (O1 I hg hm hv ?_ (by decide) (by decide))
 refine callWith_kw (thn (ha pos pins s σ H _ I h) fun us s1 ⟨vs,H1,I1,r1,q1⟩=>kws_cons (Constant_none (kws_nil ?_))) he hpl
 obtain⟨l,as,ps,rfl,hS,hlen,hT,q0,q⟩:=q1
 obtain⟨u,rfl,ru⟩:=a0T r1
 cases ru
 obtain⟨its,rv,pl,_⟩:=I1.list hS
 have ei:=a8H rv
 subst ei
 have hl:s1.heap.IsList l (as.map Value.ref).toArray:=pl.isList
 have sz:(as.map Value.ref).toArray.size=ps.length:=by rw[c9c,c8Y,hlen]
 let pp:Nat→Int × Int:=fun i=>ps.getD i (0,0)
 have cmp:b2G X.prog X.w X.A.in1 s1.heap (fun i v=>(as.map Value.ref).toArray[i]? = some v) (fun i j=>HT.D5 [(pp i).1,(pp i).2] [(pp j).1,(pp j).2]):=by
  intro i j x y s2 Q2 E2 st hx hy q2
  have one:∀{i:Nat} {x:Value},(as.map Value.ref).toArray[i]? = some x→∃ a its,x = .ref a∧IsTup s2.heap a its∧IntsAre its.toList [(pp i).1,(pp i).2]:=fun{i x} hx=>by
   rw[d1C,c83]at hx
   obtain⟨a,hai,rfl⟩:=c9o.mp hx
   have hi:i<ps.length:=by rw[← hlen];exact(c8W.mp hai).1
   have hpi:=c9d hi
   obtain⟨its,r2,p2,_⟩:=I1.tuple (hT i a _ hai hpi)
   refine⟨a,its.toArray,rfl,st.tup p2,?_⟩
   have:pp i=ps[i]:=by show ps.getD i (0,0)=_;rw[c9D,hpi];rfl
   rw[this]
   exact b0O r2
  obtain⟨a,i1,rfl,t1,n1⟩:=one hx
  obtain⟨b,i2,rfl,t2,n2⟩:=one hy
  exact HT.b0K t1 t2 n1 n2 (by show X.A.units+1<cLine;omega) q2
 refine b0W (I1.ok.hd hc) hl cmp (fun z h2 tk st=>?_) (fun z v h2 tk hv2 st=>?_)
 ·rw[sz]at z
  exact⟨.non,H1,I1.kept st,rfl,q0 (d0P z)⟩
 ·rw[sz]at z hv2
  obtain⟨b1,b2⟩:=c0J pp (ps.length - 1)
  generalize argBest (fun i j=>HT.D5 [(pp i).1,(pp i).2] [(pp j).1,(pp j).2]) (ps.length - 1)=b at *
  rw[d1C,c83]at hv2
  obtain⟨a,hab,rfl⟩:=c9o.mp hv2
  have hb:b<ps.length:=by omega
  have hpb:=c9d hb
  have eb:pp b=ps[b]:=by show ps.getD b (0,0)=_;rw[c9D,hpb];rfl
  rw[eb]at b2
  refine⟨.ref a,H1,I1.kept st,rfl,q b a _ hab hpb fun r hr=>?_⟩
  obtain⟨j,hj⟩:=c9G hr
  have ej:pp j=r:=by show ps.getD j (0,0)=_;rw[c9D,hj];rfl
  have:=b2 j (by have:=(c8W.mp hj).1;omega)
  rw[ej]at this
  exact this
end
end L2
namespace DL
open PySem PySem.Spec L2
open PyProof.Rows hiding St
section
variable {X:Cx} {e:Expr} {p pos:Pos} {t:DTA}
noncomputable def a2q(p:Int × Int):D:=.tup [.int p.1,.int p.2]
noncomputable def c0o:DRC:=fun ds M R=>∃ ps:List (Int × Int),ds=[.vl (ps.map a2q)]∧(ps=[]→R .non M)∧∀ p∈ps,(∀ q∈ps,¬ (q.1<p.1∨(q.1=p.1∧q.2<p.2)))→R (a2q p) M
theorem HasL.prs2{K:c8U}{H:Hp}:∀{ps:List (Int × Int)} {xs:List V},HasL K H xs (ps.map a2q)→∃ as:List Addr,xs=as.map V.ref∧as.length=ps.length∧∀(i:Nat) (a:Addr) (p:Int × Int),as[i]? = some a→ps[i]? = some p→SqT K H a ([p.1,p.2].map V.int)
 | [],xs,h=>by cases h;exact⟨[],rfl,rfl,fun i a p h=>by simp at h⟩
 | p :: ps,xs,h=>by
  cases h with
  | cons h1 h2 =>
   obtain⟨as,rfl,hl,ht⟩:=HasL.prs2 h2
   unfold a2q at h1
   cases h1 with
   | tup sq hi =>
    rename_i a xs
    cases hi with
    | cons i1 hi=>cases hi with
     | cons i2 hi =>
      cases hi;cases i1;cases i2
      refine⟨a :: as,rfl,by rw[c9B,c9B,hl],fun i b q hb hq=>?_⟩
      cases i with
      | zero=>cases hb;cases hq;exact sq
      | succ i=>exact ht i b q hb hq
theorem b2g{kj kp kq}(hu:X.A.units+64<cLine)(hc:X.calm=true)(hg:Gl X "min")(hm:X.mg "min" = none)(hv:bootBuiltins "min" = some (.builtin "min"))(ha:JA X [e] t)(he:backTo pos (starEach [e] X.env)=(false,eval e X.env) :: backTo pos (starEach [] X.env):=by rfl)
  (hpl:(backTo pos (starEach [e] X.env)).any (·.1)=false:=by rfl):JE X (.Call (.Name "min" p) [e] [⟨some "default",.Constant .none kj kp,kq⟩] pos) (dCB c0o t):=by
 refine⟨(b8F hu hc hg hm hv ha.out he hpl).imp fun σ H Q ⟨e,M,R,ok,am,t,f⟩=>⟨e,M,_,ok,am,t,fun ds M1 ⟨ps,z,r0,r⟩ vs H1 k1 a1 hl=>?_⟩⟩
 subst z
 obtain⟨v,rfl,hv⟩:=hl.one
 obtain⟨a,xs,rfl,hS,hL⟩:=F9 a1 hv (show W5 M1 (.vl (ps.map a2q))=some (ps.map a2q)from rfl)
 obtain⟨as,rfl,hlen,hT⟩:=hL.prs2
 refine⟨a,as,ps,rfl,hS,hlen,hT,fun z=>f _ _ (r0 z) _ _ k1 a1 .non,fun i b q hb hq hm=>?_⟩
 refine f _ _ (r q (c81 hq) fun x hx=>by rw[← b81];exact hm x hx) _ _ k1 a1 ?_
 exact .tup (hT i b q hb hq) (.cons (.int _) (.cons (.int _) .nil))
end
end DL
namespace DL
theorem b4w{ps:List (Int × Int)}{M:Mem}{R:DK}:c0o [.vl (ps.map a2q)] M R=((ps=[]→R .non M)∧∀ p∈ps,(∀ q∈ps,¬ (q.1<p.1∨(q.1=p.1∧q.2<p.2)))→R (a2q p) M):=propext ⟨fun⟨qs,e,h⟩=>by
 have inj:∀{x y:Int × Int},a2q x=a2q y→x=y:=fun{x y} h=>by
  unfold a2q at h
  injection h with h;injection h with h1 h;injection h with h2 _
  injection h1 with h1;injection h2 with h2
  exact Prod.ext h1 h2
 have e:ps=qs:=by
  injection e with e _
  injection e with e
  exact(d0C (fun _ _=>inj)).mp e
 subst e;exact h,fun h=>⟨_,rfl,h⟩⟩
end DL
namespace L2
open PySem PySem.Spec PyProof.Rows
noncomputable def a85(n:Nat):List V:=(c9H n).map fun i:Nat=>V.int (i:Int)
noncomputable def tLr(ta:TA):TE:=fun σ H Q=>ta σ H fun vs H1=>∃ n:Nat,vs=[.int (n:Int)]∧n≤1000∧∀ l,H1 l=none→Q (.ref l) (upd H1 l (.lst (a85 n)))
theorem b2V(n:Nat):Builtin.Range.rangeSize 0 (n:Int) 1=n:=by
 unfold Builtin.Range.rangeSize
 rw[if_pos (by decide)]
 by_cases h:(0:Int)<(n:Int)
 ·rw[if_pos h,Int.ediv_one];omega
 ·rw[if_neg h];omega
theorem b2M{n:Nat}{acc:Array Value}(h:ItemsOf (fun i v=>∃ t,v=Value.int (0+(i:Int)*1) t) acc n):q9 (a85 n) acc.toList:=by
 obtain⟨hs,hv⟩:=h
 have key:∀(k:Nat) (us:List Value),(∀(j:Nat) v,us[j]? = some v→∃ t,v=Value.int ((k+j:Nat):Int) t)→q9 ((c9H us.length).map fun i:Nat=>V.int ((k+i:Nat):Int)) us:=by
  intro k us
  induction us generalizing k with
  | nil=>intro _;exact .nil
  | cons u us ih =>
   intro h
   rw[c9B,List.range_succ_eq_map,c9F,c9N]
   obtain⟨t,rfl⟩:=h 0 u rfl
   refine .cons ⟨t,rfl⟩ ?_
   have:=ih (k+1) fun j v hj=>by
    obtain⟨t,e⟩:=h (j+1) v hj
    exact⟨t,by rw[e];congr 1;omega⟩
   have e:((fun i:Nat=>V.int ((k+i:Nat):Int)) ∘ Nat.succ)=fun i:Nat=>V.int ((k+1+i:Nat):Int):=by
    funext i;show V.int ((k+(i+1):Nat):Int)=_;congr 1;omega
   rw[e];exact this
 have:=key 0 acc.toList fun j v hj=>by
  rw[Array.getElem?_toList]at hj
  obtain⟨t,e⟩:=hv j v hj
  exact⟨t,by rw[e];congr 1;omega⟩
 rw[Array.length_toList,hs]at this
 have e:a85 n=(c9H n).map fun i:Nat=>V.int ((0+i:Nat):Int):=by
  unfold a85;congr 1;funext i;congr 1;omega
 rw[e];exact this
theorem a7u{X:Cx}{a:Expr}{ta:TA}{p1 p2 pos1 pos2:Pos}(hc:X.calm=true)(g1:Gl X "list")(n1:X.mg "list" = none)(v1:bootBuiltins "list" = some (.type "list"))(g2:Gl X "range")(n2:X.mg "range" = none)(ha:PA X [a] ta)
  (hs:starEach [a] X.env=[(false,eval a X.env)]:=by rfl) (hs3:starEach [.Call (.Name "range" p2) [a] [] pos2] X.env=[(false,eval (.Call (.Name "range" p2) [a] [] pos2) X.env)]:=by rfl) :
  PE X (.Call (.Name "list" p1) [.Call (.Name "range" p2) [a] [] pos2] [] pos1) (tLr ta):=by
 intro pins s σ H Q I h
 refine wpAny_Call_Name_kw (O1 I g1 n1 v1 ?_ (by decide) (by decide))
 refine PyProof.Rows.callWith_type1 ?_ (by rw[hs3];rfl) (by rfl)
 rw[hs3]
 show wpAny _ _ (spliced ((false,eval (.Call (.Name "range" p2) [a] [] pos2) X.env) :: backTo pos1 (starEach [] X.env))) _ _ s
 refine Calls.spliced_cons ?_
 refine wpAny_Call_Name_kw (O1 I g2 n2 boot_range (PyProof.Rows.callWith_type1 (thn (ha pos2 pins s σ H _ I h) fun us s1 ⟨vs,H1,I1,r1,q1⟩=>?_) (by rw[hs];rfl) (by rfl)) (by decide) (by decide))
 obtain⟨n,rfl,hn,q⟩:=q1
 obtain⟨u,rfl,ru⟩:=a0T r1
 obtain⟨t,rfl⟩:=ru
 refine call_range_1 ?_
 refine Calls.spliced_nil ?_
 refine call_list_range (n:=n) (I1.ok.hd hc) (c86 _ rfl) (small_one (by omega) (by omega) (by omega) (by omega)) (b2V n) (by omega) fun h' tk acc c kk e2 e3=>?_
 have k0:∀ b o,s1.heap.get? b=some o→h'.get? b=some o:=fun b o e=>kk b o (c8X _ e)
 have big:s1.heap.objs.size≤(s1.heap.push { cls:=.type "range",data:=.fields #[.int 0 s1.toks,.int (n:Int) t,.int 1 (s1.toks+1)] }).objs.size:=by rw[c9V];exact Nat.le_succ _
 refine⟨.ref _,_,I1.laid (t':=tk) (o:=.lst (a85 n)) k0 big ?_,rfl,q _ (I1.hok.fresh big)⟩
 refine⟨?_,acc.toList,c,b2M e3,?_⟩
 ·unfold a85
  rw[c8Y,d1d]
  exact c85 hn (by decide)
 ·rw[Array.toArray_toList];exact e2
end L2
namespace DL
open PySem PySem.Spec L2
open PyProof.Rows hiding St
section
variable {X:Cx} {a:Expr} {ta:DTA} {p1 p2 pos1 pos2:Pos}
noncomputable def dLr(ta:DTA):DTE:=fun e M R=>ta e M fun ds M1=>∃ n:Nat,ds=[.int (n:Int)]∧n≤1000∧R (.vl ((c9H n).map fun i:Nat=>D.int (i:Int))) M1
theorem b8p{K:c8U}{H:Hp}(n:Nat):HasL K H (a85 n) ((c9H n).map fun i:Nat=>D.int (i:Int)):=by
 unfold a85
 induction (c9H n)with
 | nil=>exact .nil
 | cons i r ih=>exact .cons (.int _) ih
theorem a7N(hc:X.calm=true)(g1:Gl X "list")(n1:X.mg "list" = none)(v1:bootBuiltins "list" = some (.type "list"))(g2:Gl X "range")(n2:X.mg "range" = none)(ha:JA X [a] ta)
  (hs:starEach [a] X.env=[(false,eval a X.env)]:=by rfl) (hs3:starEach [.Call (.Name "range" p2) [a] [] pos2] X.env=[(false,eval (.Call (.Name "range" p2) [a] [] pos2) X.env)]:=by rfl) :
  JE X (.Call (.Name "list" p1) [.Call (.Name "range" p2) [a] [] pos2] [] pos1) (dLr ta):=by
 refine⟨(a1g (a7u hc g1 n1 v1 g2 n2 ha.out hs hs3)).imp fun σ H Q ⟨e,M,R,ok,am,t,f⟩=>⟨e,M,_,ok,am,t,fun ds M1 ⟨n,z,hn,r⟩ vs H1 k1 a1 r1=>?_⟩⟩
 subst z
 obtain⟨v,rfl,hv⟩:=r1.one
 cases hv
 exact⟨n,rfl,hn,fun p hp=>a0K f k1 a1 (b8p n) r p hp⟩
theorem c5c{ta:DTA}{e:Ev}{M:Mem}{R:DK}:dLr ta e M R=ta e M fun ds M1=>∃ n:Nat,ds=[.int (n:Int)]∧n≤1000∧R (.vl ((c9H n).map fun i:Nat=>D.int (i:Int))) M1:=rfl
end
end DL
namespace GM
open PySem PySem.Spec L2 DL
open RM (sz)
theorem a6N(t x f:Rat):swQ t f (t*f - x)=swQ t x f:=by unfold swQ;grind
theorem c0g(t:Rat)(p:Rat × Rat):∀ n,swQ t (stQ t p n).1 (stQ t p n).2=swQ t p.1 p.2
 | 0=>rfl
 | n+1=>by
  show swQ t (stQ t p n).2 (t*(stQ t p n).2 - (stQ t p n).1)=_
  rw[a6N,c0g t p n]
theorem c09{a r:Rat}(hr:0≤r)(h:a*a≤r*r):¬ r<f6 a:=by
 intro z
 have h1:f6 a*f6 a=a*a:=by unfold f6;split<;>grind
 have:=c9L (a:=f6 a - r) (b:=f6 a+r) (by grind) (by grind)
 grind
theorem a3Y{t x f r:Rat}(t1:-2<t)(t2:t<2)(hr:0<r)(h:¬ r*r<J3 t x f)(n:Nat):¬ A7 t (x,f,r) n:=by
 have h4:=b1K t1 t2
 unfold A7
 have e:=c0g t (x,f) n
 have e:swQ t (stQ t (x,f) n).1 (stQ t (x,f) n).2=swQ t x f:=e
 generalize (stQ t (x,f) n).1=a at *
 generalize (stQ t (x,f) n).2=b at *
 refine c09 (by grind) ?_
 have r1:J3 t x f=4*swQ t x f / (4 - t*t):=rfl
 rw[r1,← e]at h
 have p:(0:Rat)≤(2*b - t*a)*(2*b - t*a):=by
  rcases d06 (a:=0) (b:=2*b - t*a)with z|z
  ·exact c9s z z
  ·have:=c9s (a:=-(2*b - t*a)) (b:=-(2*b - t*a)) (by grind) (by grind)
   grind
 apply c9a
 intro nz
 apply h
 rw[d1I h4]
 have m1:=c9L (a:=a*a - r*r) (b:=4 - t*t) (by grind) h4
 unfold swQ
 grind
theorem c4Q{t k x:Rat}(hk:k*k - t*k+1=0):∀ n,(stQ t (x,k*x) n).2=k*(stQ t (x,k*x) n).1
 | 0=>rfl
 | n+1=>by
  show t*(stQ t (x,k*x) n).2 - (stQ t (x,k*x) n).1=k*(stQ t (x,k*x) n).2
  rw[c4Q hk n]
  generalize (stQ t (x,k*x) n).1=a
  have:(k*k - t*k+1)*a=0:=by rw[hk];grind
  grind
theorem b2e{t k x r:Rat}(hk:k*k - t*k+1=0)(h1:f6 k≤1)(h:¬ r<f6 x):∀ n,¬ r<f6 (stQ t (x,k*x) n).1
 | 0=>h
 | n+1=>by
  show ¬ r<f6 (stQ t (x,k*x) n).2
  rw[c4Q hk n,O4]
  have ih:=b2e hk h1 h n
  generalize (stQ t (x,k*x) n).1=a at *
  have a0:0≤f6 a:=by unfold f6;split<;>grind
  have:=c9s (a:=1 - f6 k) (b:=f6 a) (by grind) a0
  grind
theorem a00{t r:Rat}(hr:0<r):∀ n,(stQ t (0,0) n)=(0,0)
 | 0=>rfl
 | n+1=>by
  show((stQ t (0,0) n).2,t*(stQ t (0,0) n).2 - (stQ t (0,0) n).1)=_
  rw[a00 hr n]
  show((0:Rat),t*0 - 0)=(0,0)
  congr 1;grind
theorem a1l{m:Q4}(hs:¬ u7 m){l:Rat × Rat × Rat}(hr:0<l.2.2)(hl:p8 m l.1 l.2.1 l.2.2=false)(h0:¬ l.2.2<f6 l.1)(n:Nat):¬ A7 (trQ m) l n:=by
 obtain⟨x,f,r⟩:=l
 have hr:0<r:=hr
 have h0:¬ r<f6 x:=h0
 have hl:p8 m x f r=false:=hl
 unfold p8 at hl
 rw[if_neg hs]at hl
 by_cases h2:f6 (trQ m)<2
 ·rw[if_pos h2]at hl
  obtain⟨t1,t2⟩:=X5.mp h2
  exact a3Y t1 t2 hr (of_decide_eq_false hl) n
 ·rw[if_neg h2]at hl
  by_cases hw:swQ (trQ m) x f≠0
  ·rw[if_pos hw]at hl;cases hl
  ·rw[if_neg hw]at hl
   have hw:swQ (trQ m) x f=0:=c9a hw
   unfold A7
   show ¬ r<f6 (stQ (trQ m) (x,f) n).1
   by_cases hx:x=0
   ·have hf:f=0:=by
     rw[hx]at hw
     unfold swQ at hw
     grind
    rw[hx,hf,a00 hr n]
    have:f6 (0:Rat)=0:=by decide +kernel
    rw[this];grind
   ·have hk:(f / x)*(f / x) - trQ m*(f / x)+1=0:=by
     rw[b4U hx]at hw
     have:=c9A.mp hw
     rcases this with z|z
     ·rcases c9A.mp z with z|z<;>exact absurd z hx
     ·grind
    have ef:f=(f / x)*x:=by grind
    have h1:f6 (f / x)≤1:=by
     by_cases h3:f6 (trQ m)=2
     ·have ht:trQ m=2∨trQ m = -2:=by
       unfold f6 at h3;split at h3
       ·exact .inl h3
       ·exact .inr (by grind)
      rcases ht with ht|ht
      ·rw[ht]at hk
       have z:(f / x - 1)*(f / x - 1)=0:=by grind
       have:f / x=1:=by rcases c9A.mp z with z|z<;>grind
       rw[this];decide +kernel
      ·rw[ht]at hk
       have z:(f / x+1)*(f / x+1)=0:=by grind
       have:f / x = -1:=by rcases c9A.mp z with z|z<;>grind
       rw[this];decide +kernel
     ·rw[if_neg h3]at hl
      have hl:=of_decide_eq_false hl
      have h4:¬ f6 x<f6 f:=fun z=>hl (.inl z)
      rw[c0L (f:=f) hx]at h4
      have p:=a4P hx
      apply c9a
      intro nz
      have:=c9L (a:=f6 (f / x) - 1) (b:=f6 x) (by grind) p
      grind
    rw[ef]
    exact b2e hk h1 h0 n
noncomputable def a2W(m:Q4)(l:Rat × Rat × Rat):Prop:=∃ p q y u:Rat,l.1=p*y+q*u∧l.2.1=p*(m.1*y+m.2.1*u)+q*(m.2.2.1*y+m.2.2.2*u)
theorem a91{m:Q4}(hd:W9 m=1){p q y u:Rat}:∀ n,stQ (trQ m) (p*y+q*u,p*(m.1*y+m.2.1*u)+q*(m.2.2.1*y+m.2.2.2*u)) n=(p*(L3 m (y,u) n).1+q*(L3 m (y,u) n).2,p*(L3 m (y,u) (n+1)).1+q*(L3 m (y,u) (n+1)).2)
 | 0=>rfl
 | n+1=>by
  show((stQ _ _ n).2,trQ m*(stQ _ _ n).2 - (stQ _ _ n).1)=_
  rw[a91 hd n,b5m hd (y,u) p q n]
theorem b8e{m:Q4}(hd:W9 m=1)(hs:u7 m){l:Rat × Rat × Rat}(h:a2W m l)(n:Nat):stQ (trQ m) (l.1,l.2.1) (n+rtN m)=stQ (trQ m) (l.1,l.2.1) n:=by
 obtain⟨p,q,y,u,e1,e2⟩:=h
 obtain⟨n0,h1,h2,h3⟩:=b5k hd hs
 rw[a2n _ hs]at h1
 have h1:rtN m=n0:=by injection h1 with h1;omega
 subst h1
 have key:∀ k,L3 m (y,u) (k+rtN m)=L3 m (y,u) k:=fun k=>by
  have:pwQ m (k+rtN m)=pwQ m k:=by rw[← b5t m (rtN m) k,h3,(b5T (pwQ m k)).1]
  rw[b0r,b0r,this]
 rw[e1,e2,a91 hd,a91 hd,key n,show n+rtN m+1=(n+1)+rtN m by omega,key (n+1)]
theorem a4c{m:Q4}(hd:W9 m=1)(hs:u7 m){l:Rat × Rat × Rat}(h:a2W m l)(hb:∀ n,n<rtN m→¬ A7 (trQ m) l n):∀ n,¬ A7 (trQ m) l n:=fun n=>by
 have hp:=c1k.mp hs
 induction n using Nat.strongRecOn with
 | _ n ih =>
  rcases c93 n (rtN m)with z|z
  ·exact hb n z
  ·have:=ih (n - rtN m) (by omega)
   unfold A7 at *
   rw[show n=(n - rtN m)+rtN m by omega,b8e hd hs h]
   exact this
theorem W6{near far:Rat}{bs:List (Str × Rat)}{y u:Rat}:∀ l∈p6 near bs far y u,a2W (tbQ (d8 near bs far)) l:=fun l hl=>by
 obtain⟨l0,_,rfl⟩:=c9t.mp hl
 have ol:=G6 (d8 near bs far) y u
 refine⟨l0.1,l0.2.1,y,u,rfl,?_⟩
 show l0.1*(g8 (d8 near bs far) (y,u)).1+l0.2.1*(g8 (d8 near bs far) (y,u)).2=_
 rw[ol.1,ol.2];rfl
noncomputable def a6t(m:Q4):Prop:=u7 m∨f6 (trQ m)=2
noncomputable def FS(m:Q4)(ls:List (Rat × Rat × Rat)):Option (Nat × Nat)→Prop
 | none=>∀ n k,(a6t m∨n<60)→y4 (trQ m) ls k n=false
 | some z=>y4 (trQ m) ls z.2 z.1=true∧(∀ n,n<z.1→∀ k,y4 (trQ m) ls k n=false)∧(∀ k,k<z.2→y4 (trQ m) ls k z.1=false)∧(a6t m∨z.1<60)
noncomputable def A8(m:Q4)(ls:List (Rat × Rat × Rat)):List Nat:=((ls.zipIdx).filter fun z=>p8 m z.1.1 z.1.2.1 z.1.2.2).map Prod.snd
theorem R6{m:Q4}{ls:List (Rat × Rat × Rat)}{k:Nat}:k∈A8 m ls ↔ ∃ l,ls[k]? = some l∧p8 m l.1 l.2.1 l.2.2=true:=by
 unfold A8
 rw[c9t]
 constructor
 ·rintro⟨z,hz,rfl⟩
  obtain⟨h1,h2⟩:=d0h.mp hz
  exact⟨z.1,c9O.mp h1,h2⟩
 ·rintro⟨l,h1,h2⟩
  exact⟨(l,k),d0h.mpr ⟨c9O.mpr h1,h2⟩,rfl⟩
theorem b82(m:Q4)(ls:List (Rat × Rat × Rat)):(A8 m ls).Pairwise (· < ·):=by
 unfold A8
 have h:∀(xs:List (Rat × Rat × Rat)) (k:Nat),((xs.zipIdx k).map Prod.snd).Pairwise (· < ·):=fun xs k=>by
  rw[d1T];exact d1l
 have h0:=h ls 0
 rw[d1e]at h0 ⊢
 exact h0.filter _
theorem b6a{m:Q4}{ls:List (Rat × Rat × Rat)}{i j a b:Nat}(hi:(A8 m ls)[i]? = some a)(hj:(A8 m ls)[j]? = some b)(h:a<b):i<j:=by
 have pw:=b82 m ls
 rw[d09]at pw
 obtain⟨h1,e1⟩:=c8W.mp hi
 obtain⟨h2,e2⟩:=c8W.mp hj
 rcases d1a i j with z|z|z
 ·exact z
 ·subst z;rw[e1]at e2;omega
 ·have:=pw j i h2 h1 z
  rw[e1,e2]at this;omega
theorem P4{t:Rat}{ls:List (Rat × Rat × Rat)}{k n:Nat}:y4 t ls k n=true ↔ ∃ l,ls[k]? = some l∧A7 t l n:=by
 unfold y4
 cases h:ls[k]? with
 | none=>simp
 | some l=>simp
theorem P5{t:Rat}{ls:List (Rat × Rat × Rat)}{k n:Nat}:y4 t ls k n=false ↔ ∀ l,ls[k]? = some l→¬ A7 t l n:=by
 unfold y4
 cases h:ls[k]? with
 | none=>simp
 | some l=>simp
theorem Y8{t:Rat}{ls:List (Rat × Rat × Rat)}{ws:List Nat}{N:Nat}(h:M9 t ls ws N=none):∀ n,n<N→∀ k∈ws,y4 t ls k n=false:=by
 intro n hn k hk
 unfold M9 at h
 cases e:(c9H N).find? fun n=>ws.any fun k=>y4 t ls k n with
 | none =>
  have:=d0f.mp e n (c9Q.mpr hn)
  rw[d0O,d0s]at this
  have:=this k hk
  rwa [d0O]at this
 | some n2 =>
  rw[e]at h
  have h5:=List.find?_some e
  obtain⟨k2,h6,h7⟩:=d2j.mp h5
  cases e2:ws.find? fun k=>y4 t ls k n2 with
  | none=>exact absurd h7 (d0f.mp e2 k2 h6)
  | some k3 =>
   simp only[e2,d2l]at h
   cases h
theorem Y7{t:Rat}{ls:List (Rat × Rat × Rat)}{ws:List Nat}{N:Nat}{z:Nat × Nat}(h:M9 t ls ws N=some z):z.1<N∧(∃ i:Nat,ws[i]? = some z.2∧∀ j:Nat,j<i→∀ k,ws[j]? = some k→y4 t ls k z.1=false)∧y4 t ls z.2 z.1=true∧∀ n,n<z.1→∀ k∈ws,y4 t ls k n=false:=by
 unfold M9 at h
 cases e:(c9H N).find? fun n=>ws.any fun k=>y4 t ls k n with
 | none=>rw[e]at h;cases h
 | some n2 =>
  rw[e]at h
  obtain⟨_,h2,h3⟩:=d0k.mp e
  cases e2:ws.find? fun k=>y4 t ls k n2 with
  | none=>simp only[e2,Option.map_none]at h;cases h
  | some k3 =>
   simp only[e2,d2l]at h
   obtain rfl:=Option.some.inj h
   obtain⟨h4,i,hi,h5,h6⟩:=d0L.mp e2
   refine⟨c9Q.mp h2,⟨i,by rw[c9d hi,h5],fun j hj k hk=>?_⟩,h4,fun n hn k hk=>?_⟩
   ·have:=h6 j hj
    obtain⟨hl,e3⟩:=c8W.mp hk
    rw[e3]at this
    simpa using this
   ·have:=h3 n hn
    have:(ws.any fun k=>y4 t ls k n)=false:=by simpa using this
    have:=d0s.mp this k hk
    rwa [d0O]at this
theorem a6o{t x f:Rat}(ht:f6 t=2):∀ n:Nat,f6 (stQ t (x,f) n).1=f6 (x+(n:Rat)*((if 0<t then f else -f) - x)):=by
 have key:∀ n:Nat,∃ e:Rat,(e=1∨e = -1)∧(stQ t (x,f) n).1=e*(x+(n:Rat)*((if 0<t then f else -f) - x))∧(stQ t (x,f) n).2=e*(if 0<t then 1 else -1)*(x+((n:Rat)+1)*((if 0<t then f else -f) - x)):=by
  have h2:t=2∨t = -2:=by
   unfold f6 at ht;split at ht
   ·exact .inl ht
   ·exact .inr (by grind)
  intro n
  induction n with
  | zero =>
   refine⟨1,.inl rfl,?_,?_⟩
   ·show x=1*(x+((0:Nat):Rat)*_)
    rw[show((0:Nat):Rat)=0 from rfl];grind
   ·show f=1*(if 0<t then 1 else -1)*(x+(((0:Nat):Rat)+1)*((if 0<t then f else -f) - x))
    rw[show((0:Nat):Rat)=0 from rfl]
    split<;>grind
  | succ n ih =>
   obtain⟨e,he,e1,e2⟩:=ih
   have c:((n+1:Nat):Rat)=(n:Rat)+1:=by rw[Rat.natCast_add];rfl
   refine⟨e*(if 0<t then 1 else -1),?_,?_,?_⟩
   ·split<;>grind
   ·show(stQ t (x,f) n).2=_
    rw[e2,c]
   ·show t*(stQ t (x,f) n).2 - (stQ t (x,f) n).1=_
    rw[e1,e2,c]
    rcases h2 with h|h
    ·rw[h,if_pos (by decide),if_pos (by decide)];grind
    ·rw[h,if_neg (by decide),if_neg (by decide)];grind
 intro n
 obtain⟨e,he,e1,_⟩:=key n
 rw[e1,O4]
 have:f6 e=1:=by rcases he with rfl|rfl<;>decide +kernel
 rw[this];grind
theorem a94{t x f:Rat}(ht:f6 t=2)(h:swQ t x f≠0):(if 0<t then f else -f) - x≠0:=by
 have h2:t=2∨t = -2:=by
  unfold f6 at ht;split at ht
  ·exact .inl ht
  ·exact .inr (by grind)
 intro z
 apply h
 unfold swQ
 rcases h2 with h|h
 ·rw[h,if_pos (by decide)]at z
  have:f=x:=by grind
  rw[h,this];grind
 ·rw[h,if_neg (by decide)]at z
  have:f = -x:=by grind
  rw[h,this];grind
theorem a8R{t x f r:Rat}(ht:f6 t=2)(h0:¬ r<f6 x){d g:Rat}(hd:d=(if 0<t then f else -f) - x)(hdn:d≠0)(hg:g=if 0<d then r - x else r+x){N:Nat}(h1:(N:Rat)*f6 d≤g)(h2:g<((N:Rat)+1)*f6 d) :
  A7 t (x,f,r) (N+1)∧∀ n,n<N+1→¬ A7 t (x,f,r) n:=by
 have xr:x≤r∧-r≤x:=by
  unfold f6 at h0;split at h0<;>exact⟨by grind,by grind⟩
 have c:((N+1:Nat):Rat)=(N:Rat)+1:=by rw[Rat.natCast_add];rfl
 refine⟨?_,fun n hn=>?_⟩
 ·unfold A7
  show r<f6 (stQ t (x,f) (N+1)).1
  rw[a6o ht,← hd,c]
  by_cases p:0<d
  ·rw[if_pos p]at hg
   rw[show f6 d=d by unfold f6;rw[if_pos (by grind)]]at h2
   have:r<x+((N:Rat)+1)*d:=by grind
   unfold f6;split<;>grind
  ·rw[if_neg p]at hg
   rw[show f6 d = -d by unfold f6;rw[if_neg (by grind)]]at h2
   have:x+((N:Rat)+1)*d < -r:=by grind
   unfold f6;split<;>grind
 ·unfold A7
  show ¬ r<f6 (stQ t (x,f) n).1
  rw[a6o ht,← hd]
  have n0:(0:Rat)≤(n:Rat):=by exact_mod_cast c9K n
  have nN:(n:Rat)≤(N:Rat):=by exact_mod_cast d13 hn
  by_cases p:0<d
  ·rw[if_pos p]at hg
   rw[show f6 d=d by unfold f6;rw[if_pos (by grind)]]at h1
   have a1:=c9s (a:=(n:Rat)) (b:=d) n0 (by grind)
   have a2:=c9s (a:=(N:Rat) - (n:Rat)) (b:=d) (by grind) (by grind)
   unfold f6;split<;>grind
  ·rw[if_neg p]at hg
   rw[show f6 d = -d by unfold f6;rw[if_neg (by grind)]]at h1
   have a1:=c9s (a:=(n:Rat)) (b:=-d) n0 (by grind)
   have a2:=c9s (a:=(N:Rat) - (n:Rat)) (b:=-d) (by grind) (by grind)
   unfold f6;split<;>grind
theorem a7V(bs:List (Rat × Rat × Rat)):S1 (bs.map p5)=bs.zipIdx.map fun x=>D.tup [.int (x.2:Int),p5 x.1]:=by
 unfold S1
 refine d0z (by simp) fun i h1 h2=>?_
 simp
theorem b1I{q:Rat}{B P k l n:Nat}(h:q.den ∣ B)(hp:B ∣ q.den*P)(hq:q.num.natAbs<2 ^ k)(P0:0<P)(hP:P<2 ^ l)(hn:k+l≤n):(q.num*(B:Int).fdiv (q.den:Int)).natAbs<2 ^ n:=by
 obtain⟨c,rfl⟩:=h
 have e:((q.den*c:Nat):Int).fdiv (q.den:Int)=(c:Int):=by
  rw[K2 (by omega) (by omega),c9P]
  exact d0B _ (by have:=q.den_pos;omega)
 rw[e,c9q,c8V]
 have hc:c ∣ P:=Nat.dvd_of_mul_dvd_mul_left q.den_pos hp
 exact r9 (c9e (d0Z _ (d1j P0 hc)) (o7 hq hP)) hn
local macro_rules|`(tactic| walk_at "inj")=>`(tactic| (rename_i e h;simp only[List.cons.injEq,and_true,true_and,GM.j7,GM.j3,GM.i7,GM.j4,GM.i8,D.tup.injEq,D.ref.injEq,D.int.injEq,D.str.injEq,D.bl.injEq,D.vl.injEq,c9i,and_assoc]at e;(repeat(obtain⟨e1,e⟩:=e;subst e1));subst e;exact h))
local macro_rules|`(tactic| walk_at "injs")=>`(tactic| (rename_i e o h;rcases o with o|o<;>(subst o;first|(exfalso;simp only[D.tup.injEq,List.cons.injEq,reduceCtorEq,false_and,and_false]at e;done)|(simp only[List.cons.injEq,and_true,true_and,GM.j7,GM.j3,GM.i7,GM.j4,GM.i8,D.tup.injEq,D.ref.injEq,D.int.injEq,D.str.injEq,D.bl.injEq,D.vl.injEq,c9i,and_assoc]at e;(repeat(obtain⟨e1,e⟩:=e;subst e1));subst e;exact h))))
noncomputable abbrev a0z(x y:D)(M:Mem)(R:DK)(Y:DXK):Prop:=∃(m:Q4) (ls:List (Rat × Rat × Rat)),x=F6 m∧y = .vl (ls.map p5)∧(CDQ 230 m∧W9 m=1∧ls.length≤40∧∀ l∈ls,a2a l)∧R (.vl ((A8 m ls).map fun k:Nat=>D.int (k:Int))) M
noncomputable def a7m:DSp:=fun ds M R Y=>∃(x y:D),ds=[x,y]∧a0z x y M R Y
theorem a5X{x y:D}{M:Mem}{R:DK}{Y:DXK}:a7m [x,y] M R Y=(a0z x y M R Y):=propext ⟨fun z=>by obtain⟨_,_,_,_⟩:=z;walk_at "inj",fun h=>⟨x,y,rfl,h⟩⟩
noncomputable abbrev a1E(t x f r:Rat)(M:Mem)(R:DK)(Y:DXK):Prop:=(f6 t=2∧a2a (x,f,r)∧¬ r<f6 x∧swQ t x f≠0)∧∀ N:Nat,A7 t (x,f,r) N→(∀ n,n<N→¬ A7 t (x,f,r) n)→R (.int (N:Int)) M
noncomputable def b0f:DSp:=fun ds M R Y=>∃(t x f r:Rat),ds=[d9 t,d9 x,d9 f,d9 r]∧a1E t x f r M R Y
theorem a8e{t x f r:Rat}{M:Mem}{R:DK}{Y:DXK}:b0f [d9 t,d9 x,d9 f,d9 r] M R Y=(a1E t x f r M R Y):=propext ⟨fun z=>by obtain⟨_,_,_,_,_,_⟩:=z;walk_at "inj",fun h=>⟨t,x,f,r,rfl,h⟩⟩
noncomputable abbrev a7p(t:Rat)(x y:D)(M:Mem)(R:DK)(Y:DXK):Prop:=∃(ls:List (Rat × Rat × Rat)) (ws:List Nat),x = .vl (ls.map p5)∧y = .vl (ws.map fun k:Nat=>D.int (k:Int))∧(f6 t=2∧(ls.length≤40∧ws.length≤40)∧(∀ l∈ls,a2a l∧¬ l.2.2<f6 l.1)∧∀ k∈ws,∃ l,ls[k]? = some l∧swQ t l.1 l.2.1≠0)∧(ws=[]→R .non M)∧∀ n k:Nat,k∈ws→y4 t ls k n=true→(∀ n',n'<n→∀ k'∈ws,y4 t ls k' n'=false)→(∀ k'∈ws,k'<k→y4 t ls k' n=false)→R (.tup [.int (n:Int),.int (k:Int)]) M
noncomputable def c1i:DSp:=fun ds M R Y=>∃(t:Rat) (x y:D),ds=[d9 t,x,y]∧a7p t x y M R Y
theorem b3S{t:Rat}{x y:D}{M:Mem}{R:DK}{Y:DXK}:c1i [d9 t,x,y] M R Y=(a7p t x y M R Y):=propext ⟨fun z=>by obtain⟨_,_,_,_,_⟩:=z;walk_at "inj",fun h=>⟨t,x,y,rfl,h⟩⟩
noncomputable abbrev a1U(x y z:D)(M:Mem)(R:DK)(Y:DXK):Prop:=∃(m:Q4) (ls:List (Rat × Rat × Rat)),x=F6 m∧y = .vl (ls.map p5)∧z = .vl ((A8 m ls).map fun k:Nat=>D.int (k:Int))∧(CDQ 230 m∧W9 m=1∧ls.length≤40∧∀ l∈ls,a2a l∧a2W m l)∧∀ o,FS m ls o→R (a30 o) M
noncomputable def b0p:DSp:=fun ds M R Y=>∃(x y z:D),ds=[x,y,z]∧a1U x y z M R Y
theorem a8s{x y z:D}{M:Mem}{R:DK}{Y:DXK}:b0p [x,y,z] M R Y=(a1U x y z M R Y):=propext ⟨fun z=>by obtain⟨_,_,_,_,_⟩:=z;walk_at "inj",fun h=>⟨x,y,z,rfl,h⟩⟩
noncomputable def N3(m:Q4)(l:Rat × Rat × Rat):En:=if l.1=0∧l.2.1=0 then .one "nought" else if u7 m then .int "round" (rtN m:Int)else if f6 (trQ m)<2 then .rat "reach" (J3 (trQ m) l.1 l.2.1)else .rat "kept" (l.2.1 / l.1)
noncomputable abbrev V2(w x:D)(a f:Rat)(M:Mem)(R:DK)(Y:DXK):Prop:=∃(m:Q4) (r:Rat),w = .str (kwS m)∧x=F6 m∧(CDQ 230 m∧W9 m=1∧a2a (a,f,r)∧(¬ u7 m→¬ f6 (trQ m)<2→a=0→f=0))∧R (enD (N3 m (a,f,r))) M
noncomputable def a4e:DSp:=fun ds M R Y=>∃(w x:D) (a f:Rat),ds=[w,x,d9 a,d9 f]∧V2 w x a f M R Y
theorem a3u{w x:D}{a f:Rat}{M:Mem}{R:DK}{Y:DXK}:a4e [w,x,d9 a,d9 f] M R Y=(V2 w x a f M R Y):=propext ⟨fun z=>by obtain⟨_,_,_,_,_,_⟩:=z;walk_at "inj",fun h=>⟨w,x,a,f,rfl,h⟩⟩
inductive EvR where
 | stopped (n k:Nat)
 | late (k:Nat)
 | never
noncomputable def c2P(m:Q4)(ls:List (Rat × Rat × Rat)):EvR→Prop
 | .stopped n k=>FS m ls (some (n,k))
 | .late k=>FS m ls none∧(A8 m ls).head? = some k
 | .never=>FS m ls none∧A8 m ls=[]
noncomputable def evD(ws:List (D × D))(m:Q4)(ls:List (Rat × Rat × Rat)):EvR→D
 | .stopped n k=>.tup [.str "stopped",.int (n:Int),(ws.getD k (.non,.non)).1,(ws.getD k (.non,.non)).2]
 | .late k=>.tup [.str "late",.int (k:Int)]
 | .never=>.tup [.str "never",.vl ((ls.map (N3 m)).map enD)]
noncomputable abbrev a1V(near:Rat)(bs:List (Str × Rat))(far:Rat)(y u:Rat)(M:Mem)(R:DK)(Y:DXK):Prop:=(B1 near bs far∧∃ S,CD S y 0 u 0∧S≤1700)∧∀ r,c2P (tbQ (d8 near bs far)) (p6 near bs far y u) r→R (evD (F7 (j5 near bs far) (j5 near bs far).length) (tbQ (d8 near bs far)) (p6 near bs far y u) r) M
noncomputable def a84:DSp:=fun ds M R Y=>∃(x0:D) (near:Rat) (bs:List (Str × Rat)) (far:Rat) (y u:Rat),ds=[.tup [d9 near,x0,d9 far],v6 y u]∧(x0 = .vl (bs.map f9)∨x0 = .tup (bs.map f9))∧a1V near bs far y u M R Y
theorem b1f{near:Rat}{bs:List (Str × Rat)}{far:Rat}{y u:Rat}{M:Mem}{R:DK}{Y:DXK}:a84 [.tup [d9 near,.vl (bs.map f9),d9 far],v6 y u] M R Y=(a1V near bs far y u M R Y):=propext ⟨fun z=>by obtain⟨_,_,_,_,_,_,_,_,_⟩:=z;walk_at "injs",fun h=>⟨_,near,bs,far,y,u,rfl,.inl rfl,h⟩⟩
theorem a51{near:Rat}{bs:List (Str × Rat)}{far:Rat}{y u:Rat}{M:Mem}{R:DK}{Y:DXK}:a84 [.tup [d9 near,.tup (bs.map f9),d9 far],v6 y u] M R Y=(a1V near bs far y u M R Y):=propext ⟨fun z=>by obtain⟨_,_,_,_,_,_,_,_,_⟩:=z;walk_at "injs",fun h=>⟨_,near,bs,far,y,u,rfl,.inr rfl,h⟩⟩
end GM
namespace GM
open PySem PySem.Spec L2 DL
open RM (sz)
noncomputable abbrev T3:=D × D × (Str × Rat)
noncomputable def a0f(T:List T3)(j:Nat)(z:T3):Rat × Rat × Rat:=((g8 ((T.map fun z=>z.2.2).take j) (1,0)).1,(g8 ((T.map fun z=>z.2.2).take j) (0,1)).1,z.2.2.2)
noncomputable def b0N(z:T3):Bool:=z.2.2.1 == Str.ofString "stop"
noncomputable def O7(T:List T3)(i:Nat):List (T3 × Nat):=((T.take i).zipIdx).filter fun z=>b0N z.1
theorem Y6{z:T3}:b0N z=true↔z.2.2.1 = "stop" := by unfold b0N;exact beq_iff_eq
theorem b5w{T:List T3}{i:Nat}{z:T3}(h:T[i]? = some z):O7 T (i+1)=O7 T i++(if z.2.2.1 = "stop" then[(z,i)]else[]):=by
 have hl:=(c8W.mp h).1
 unfold O7
 rw[c9T,h,List.zipIdx_append,c9J,c9W,Nat.min_eq_left (by omega)]
 congr 1
 show([(z,0+i)].filter fun z=>b0N z.1)=_
 rw[d2c]
 by_cases hz:z.2.2.1 = "stop"
 ·rw[if_pos hz,d1m (p:=fun z:T3 × Nat=>b0N z.1) (Y6.mpr hz)];rfl
 ·rw[if_neg hz,d1n (p:=fun z:T3 × Nat=>b0N z.1) (fun e=>hz (Y6.mp e))];rfl
theorem a8N(T:List T3):∀ i,i≤T.length→A5 (T.map fun z=>z.2.2) i=(O7 T i).map fun z=>a0f T z.2 z.1
 | 0,_=>rfl
 | i+1,h=>by
  have hz:=c9d (l:=T) (i:=i) (by omega)
  have hL:(T.map fun z=>z.2.2)[i]? = some (T[i]).2.2:=by rw[c83,hz];rfl
  rw[a1x hL,b5w hz,c9f,← a8N T i (by omega)]
  split
  ·rfl
  ·rw[d0e,c9M]
theorem a8M(T:List T3):∀ i,i≤T.length→F7 T i=(O7 T i).map fun z=>(z.1.1,z.1.2.1)
 | 0,_=>rfl
 | i+1,h=>by
  have hz:=c9d (l:=T) (i:=i) (by omega)
  rw[K4,c9T,hz,c9J,c9f,b5w hz,c9f,← a8M T i (by omega),K4]
  congr 1
  show(([T[i]].filter b0N).map fun z=>(z.1,z.2.1))=_
  by_cases hs:(T[i]).2.2.1 = "stop"
  ·rw[if_pos hs,d1m (Y6.mpr hs)];rfl
  ·rw[if_neg hs,d1n (fun e=>hs (Y6.mp e))];rfl
theorem W2{T:List T3}{z:T3}{j:Nat}:(z,j)∈O7 T T.length↔T[j]? = some z∧z.2.2.1 = "stop" := by
 unfold O7
 rw[c9k,d0h,c9O]
 exact and_congr Iff.rfl Y6
theorem b8x{T:List T3}{i k:Nat}{a b:T3 × Nat}(hi:(O7 T T.length)[i]? = some a)(hk:(O7 T T.length)[k]? = some b):a.2<b.2↔i<k:=by
 have pw:((O7 T T.length).map Prod.snd).Pairwise (· < ·):=by
  unfold O7
  rw[c9k]
  have h:∀(xs:List T3) (k:Nat),((xs.zipIdx k).map Prod.snd).Pairwise (· < ·):=fun xs k=>by
   rw[d1T];exact d1l
  have h0:=h T 0
  rw[d1e]at h0 ⊢
  exact h0.filter _
 rw[d1e,d09]at pw
 obtain⟨h1,e1⟩:=c8W.mp hi
 obtain⟨h2,e2⟩:=c8W.mp hk
 rcases d1a i k with z|z|z
 ·have:=pw i k h1 h2 z
  rw[e1,e2]at this
  exact⟨fun _=>z,fun _=>this⟩
 ·subst z;rw[e1]at e2;subst e2
  exact⟨fun h=>absurd h (by omega),fun h=>absurd h (by omega)⟩
 ·have:=pw k i h2 h1 z
  rw[e1,e2]at this
  exact⟨fun h=>absurd h (by omega),fun h=>absurd h (by omega)⟩
noncomputable def bT(t:Rat)(T:List T3)(y u:Rat)(n j:Nat):Prop:=∃ z,T[j]? = some z∧z.2.2.1 = "stop" ∧ A7 t (C7 (T.map fun z=>z.2.2) y u (a0f T j z)) n
noncomputable def laT(m:Q4)(T:List T3)(y u:Rat)(j:Nat):Prop:=∃ z,T[j]? = some z∧z.2.2.1 = "stop" ∧ p8 m (C7 (T.map fun z=>z.2.2) y u (a0f T j z)).1 (C7 (T.map fun z=>z.2.2) y u (a0f T j z)).2.1 z.2.2.2=true
theorem a6F(near far:Rat)(bs:List (Str × Rat))(y u:Rat):p6 near bs far y u=(O7 (j5 near bs far) (j5 near bs far).length).map fun z=>C7 ((j5 near bs far).map fun z=>z.2.2) y u (a0f (j5 near bs far) z.2 z.1):=by
 unfold p6
 rw[← B3,← I0,a8N _ _ (c9b _),c9N];rfl
section
variable {m:Q4} {T:List T3} {y u:Rat} {ls:List (Rat × Rat × Rat)}
theorem a17(hls:ls=(O7 T T.length).map fun z=>C7 (T.map fun z=>z.2.2) y u (a0f T z.2 z.1)){t:Rat}{i n:Nat}{z:T3 × Nat}(h:(O7 T T.length)[i]? = some z):y4 t ls i n=true↔bT t T y u n z.2:=by
 have hm:=c81 h
 obtain⟨hz,hs⟩:=W2.mp (show(z.1,z.2)∈_ from hm)
 have e:ls[i]? = some (C7 (T.map fun z=>z.2.2) y u (a0f T z.2 z.1)):=by rw[hls,c83,h];rfl
 rw[P4]
 constructor
 ·rintro⟨l,hl,hb⟩
  rw[e]at hl
  obtain rfl:=Option.some.inj hl
  exact⟨z.1,hz,hs,hb⟩
 ·rintro⟨z2,hz2,_,hb⟩
  rw[hz]at hz2
  obtain rfl:=Option.some.inj hz2
  exact⟨_,e,hb⟩
theorem b6Z{t:Rat}{n j:Nat}(h:bT t T y u n j):∃(i:Nat) (z:T3),(O7 T T.length)[i]? = some (z,j):=by
 obtain⟨z,hz,hs,_⟩:=h
 obtain⟨i,hi⟩:=c9G (W2.mpr ⟨hz,hs⟩)
 exact⟨i,z,hi⟩
theorem a9q(hls:ls=(O7 T T.length).map fun z=>C7 (T.map fun z=>z.2.2) y u (a0f T z.2 z.1)):A8 m ls=[] ↔ ∀ j,¬ laT m T y u j:=by
 constructor
 ·rintro h j ⟨z,hz,hs,hb⟩
  obtain⟨i,hi⟩:=c9G (W2.mpr ⟨hz,hs⟩)
  have:i∈A8 m ls:=R6.mpr ⟨_,by rw[hls,c83,hi];rfl,hb⟩
  rw[h]at this;cases this
 ·intro h
  apply c9a
  intro hn
  obtain⟨i,hi⟩:=List.exists_mem_of_ne_nil _ hn
  obtain⟨l,hl,hb⟩:=R6.mp hi
  rw[hls,c83]at hl
  obtain⟨z,hz,rfl⟩:=c9o.mp hl
  obtain⟨h1,h2⟩:=W2.mp (show(z.1,z.2)∈_ from c81 hz)
  exact h z.2 ⟨z.1,h1,h2,hb⟩
noncomputable def NoT(m:Q4)(T:List T3)(y u:Rat):Prop:=∀ n j,(a6t m∨n<60)→¬ bT (trQ m) T y u n j
noncomputable def AtT(m:Q4)(T:List T3)(y u:Rat)(n j:Nat):Prop:=bT (trQ m) T y u n j∧(∀ n',n'<n→∀ j',¬ bT (trQ m) T y u n' j')∧(∀ j',j'<j→¬ bT (trQ m) T y u n j')∧(a6t m∨n<60)
theorem b2F(hls:ls=(O7 T T.length).map fun z=>C7 (T.map fun z=>z.2.2) y u (a0f T z.2 z.1)):FS m ls none↔NoT m T y u:=by
 constructor
 ·intro h n j hn hb
  obtain⟨i,z,hi⟩:=b6Z hb
  have:=h n i hn
  rw[(a17 hls hi).mpr hb]at this;cases this
 ·intro h n i hn
  cases e:(O7 T T.length)[i]? with
  | none=>exact P5.mpr fun l hl=>by rw[hls,c83,e]at hl;cases hl
  | some z =>
   cases e2:y4 (trQ m) ls i n with
   | false=>rfl
   | true=>exact absurd ((a17 hls e).mp e2) (h n z.2 hn)
theorem b9x(hls:ls=(O7 T T.length).map fun z=>C7 (T.map fun z=>z.2.2) y u (a0f T z.2 z.1)){n i:Nat}(h:FS m ls (some (n,i))):∃ z:T3 × Nat,(O7 T T.length)[i]? = some z∧AtT m T y u n z.2:=by
 obtain⟨h1,h2,h3,h4⟩:=h
 have h1:y4 (trQ m) ls i n=true:=h1
 obtain⟨l,hl,_⟩:=P4.mp h1
 rw[hls,c83]at hl
 obtain⟨z,hz,_⟩:=c9o.mp hl
 refine⟨z,hz,(a17 hls hz).mp h1,fun n' hn' j' hb=>?_,fun j' hj' hb=>?_,h4⟩
 ·obtain⟨i',z',hi'⟩:=b6Z hb
  have:=h2 n' hn' i'
  rw[(a17 hls hi').mpr hb]at this;cases this
 ·obtain⟨i',z',hi'⟩:=b6Z hb
  have:=h3 i' ((b8x hi' hz).mp hj')
  have this:y4 (trQ m) ls i' n=false:=this
  rw[(a17 hls hi').mpr hb]at this;cases this
end
noncomputable def EvT(m:Q4)(T:List T3)(y u:Rat)(d:D):Prop :=
 (∃(n j:Nat) (z:T3),d = .tup [.str "stopped",.int (n:Int),z.1,z.2.1]∧T[j]? = some z∧z.2.2.1 = "stop" ∧ AtT m T y u n j) ∨
 (∃ k:Nat,d = .tup [.str "late",.int (k:Int)]∧NoT m T y u∧∃ j,laT m T y u j) ∨
 (∃ es:List En,d = .tup [.str "never",.vl (es.map enD)]∧NoT m T y u∧(∀ j,¬ laT m T y u j)∧es=((O7 T T.length).map fun z=>N3 m (C7 (T.map fun z=>z.2.2) y u (a0f T z.2 z.1))))
theorem c4y{near far:Rat}{bs:List (Str × Rat)}{y u:Rat}{r:EvR}(h:c2P (tbQ (d8 near bs far)) (p6 near bs far y u) r):EvT (tbQ (d8 near bs far)) (j5 near bs far) y u (evD (F7 (j5 near bs far) (j5 near bs far).length) (tbQ (d8 near bs far)) (p6 near bs far y u) r):=by
 have hls:=a6F near far bs y u
 cases r with
 | stopped n i =>
  obtain⟨z,hz,hat⟩:=b9x hls h
  obtain⟨h1,h2⟩:=W2.mp (show(z.1,z.2)∈_ from c81 hz)
  refine .inl ⟨n,z.2,z.1,?_,h1,h2,hat⟩
  have e:(F7 (j5 near bs far) (j5 near bs far).length).getD i (.non,.non)=(z.1.1,z.1.2.1):=by
   rw[a8M _ _ (c9b _),c9D,c83,hz];rfl
  show D.tup [D.str (Str.ofString "stopped"),D.int (n:Int),((F7 (j5 near bs far) (j5 near bs far).length).getD i (.non,.non)).1,((F7 (j5 near bs far) (j5 near bs far).length).getD i (.non,.non)).2]=_
  rw[e]
 | late k =>
  obtain⟨h1,h2⟩:=h
  refine .inr (.inl ⟨k,rfl,(b2F hls).mp h1,?_⟩)
  apply c9a
  intro hn
  have:=(a9q (m:=tbQ (d8 near bs far)) hls).mpr fun j hj=>hn ⟨j,hj⟩
  rw[this]at h2;cases h2
 | never =>
  obtain⟨h1,h2⟩:=h
  refine .inr (.inr ⟨_,rfl,(b2F hls).mp h1,(a9q hls).mp h2,?_⟩)
  rw[hls,c9N];rfl
noncomputable def wS:D→Str
 | .tup (.str w :: _)=>w
 | _ => ""
theorem b9h{m:Q4}{T:List T3}{y u:Rat}{d:D}(h:EvT m T y u d):∃ r,d = .tup (.str (wS d) :: r):=by
 rcases h with⟨n,j,z,rfl,_⟩|⟨k,rfl,_⟩|⟨es,rfl,_⟩
 ·exact⟨_,rfl⟩
 ·exact⟨_,rfl⟩
 ·exact⟨_,rfl⟩
theorem b9i{m:Q4}{T:List T3}{y u:Rat}{d:D}(h:EvT m T y u d)(hw:wS d = "stopped"):∃(n j:Nat) (z:T3),d = .tup [.str "stopped",.int (n:Int),z.1,z.2.1]∧T[j]? = some z∧z.2.2.1 = "stop" ∧ AtT m T y u n j:=by
 rcases h with h|⟨k,rfl,_⟩|⟨es,rfl,_⟩
 ·exact h
 ·exact absurd hw (show ¬ Str.ofString "late" = Str.ofString "stopped" by decide)
 ·exact absurd hw (show ¬ Str.ofString "never" = Str.ofString "stopped" by decide)
theorem b9j{m:Q4}{T:List T3}{y u:Rat}{d:D}(h:EvT m T y u d)(hw:wS d = "late"):NoT m T y u∧∃ j,laT m T y u j:=by
 rcases h with⟨n,j,z,rfl,_⟩|⟨k,rfl,h⟩|⟨es,rfl,_⟩
 ·exact absurd hw (show ¬ Str.ofString "stopped" = Str.ofString "late" by decide)
 ·exact h
 ·exact absurd hw (show ¬ Str.ofString "never" = Str.ofString "late" by decide)
theorem b6v{m:Q4}{T:List T3}{y u:Rat}{d:D}(h:EvT m T y u d)(hw:wS d = "never"):NoT m T y u∧∀ j,¬ laT m T y u j:=by
 rcases h with⟨n,j,z,rfl,_⟩|⟨k,rfl,_⟩|⟨es,rfl,h1,h2,_⟩
 ·exact absurd hw (show ¬ Str.ofString "stopped" = Str.ofString "never" by decide)
 ·exact absurd hw (show ¬ Str.ofString "late" = Str.ofString "never" by decide)
 ·exact⟨h1,h2⟩
theorem b6u{m:Q4}{T:List T3}{y u:Rat}{d:D}(h:EvT m T y u d):wS d = "stopped" ∨ wS d = "late" ∨ wS d = "never" := by
 rcases h with⟨n,j,z,rfl,_⟩|⟨k,rfl,_⟩|⟨es,rfl,_⟩
 ·exact .inl rfl
 ·exact .inr (.inl rfl)
 ·exact .inr (.inr rfl)
theorem c4T{m:Q4}{T:List T3}{y u:Rat}{n j:Nat}(h:AtT m T y u n j)(g:NoT m T y u):False:=g n j h.2.2.2 h.1
end GM
namespace GM
open PySem PySem.Spec L2 DL
open RM (sz)
noncomputable def F2(m:Q4)(l:Rat × Rat × Rat):Prop:=(∀ n,(a6t m∨n<60)→¬ A7 (trQ m) l n)∧p8 m l.1 l.2.1 l.2.2=false
noncomputable def pE(m:Q4)(l:Rat × Rat × Rat):En:=if l.1=0∧l.2.1=0 then .one "nought" else if u7 m then .int "round" (rtN m:Int)else if f6 (trQ m)<2 then .rat "reach" (J3 (trQ m) l.1 l.2.1)else if l.1=0 then .rat "kept" 1 else .rat "kept" (l.2.1 / l.1)
theorem a6x(m:Q4){r:Rat}(hr:0<r):p8 m 0 0 r=false:=by
 unfold p8
 have a0:f6 (0:Rat)=0:=by decide +kernel
 split
 ·rfl
 ·split
  ·rw[show J3 (trQ m) 0 0=0 by unfold J3;grind]
   refine decide_eq_false fun z=>?_
   have:=c9L hr hr
   grind
  ·rw[if_neg (fun z=>z (by unfold swQ;grind))]
   split
   ·rfl
   ·rw[a0];refine decide_eq_false fun z=>?_
    rcases z with z|z<;>grind
theorem a2v{m:Q4}(h:u7 m)(x f r:Rat):p8 m x f r=false:=by unfold p8;rw[if_pos h]
theorem a9v{m:Q4}(hd:W9 m=1){l:Rat × Rat × Rat}(hr:0<l.2.2)(hf:a2W m l)(h:F2 m l)(n:Nat):¬ A7 (trQ m) l n:=by
 by_cases hs:u7 m
 ·exact h.1 n (.inl (.inl hs))
 ·exact a1l hs hr h.2 (h.1 0 (.inr (by decide))) n
theorem b3n{m:Q4}(hs:¬ u7 m)(h3:¬ f6 (trQ m)<2){x f r:Rat}(hr:0<r)(hx:x≠0):(¬ 1<f6 (f / x)∧(f / x)*(f / x)+1=trQ m*(f / x)∧(f / x)*x=f∧¬ r<f6 x)↔(¬ r<f6 x∧p8 m x f r=false):=by
 have fx:(f / x)*x=f:=by grind
 have sw:swQ (trQ m) x f=0↔(f / x)*(f / x)+1=trQ m*(f / x):=by
  rw[b4U hx]
  constructor
  ·intro z
   rcases c9A.mp z with z|z
   ·rcases c9A.mp z with z|z<;>exact absurd z hx
   ·grind
  ·intro z
   have:1 - trQ m*(f / x)+f / x*(f / x)=0:=by grind
   rw[this];grind
 have ab:=c0L (f:=f) hx
 have ap:=a4P hx
 unfold p8
 rw[if_neg hs,if_neg h3]
 constructor
 ·rintro⟨h1,h2,_,h4⟩
  refine⟨h4,?_⟩
  rw[if_neg (fun z=>z (sw.mpr h2))]
  split
  ·rfl
  ·refine decide_eq_false fun z=>?_
   rcases z with z|z
   ·rw[ab]at z
    have:=c9s (a:=1 - f6 (f / x)) (b:=f6 x) (by grind) (by grind)
    grind
   ·exact h4 z
 ·rintro⟨h4,h5⟩
  by_cases hw:swQ (trQ m) x f≠0
  ·rw[if_pos hw]at h5;cases h5
  ·rw[if_neg hw]at h5
   have hw:swQ (trQ m) x f=0:=c9a hw
   have h2:=sw.mp hw
   refine⟨fun z=>?_,h2,fx,h4⟩
   by_cases ht:f6 (trQ m)=2
   ·have ht:trQ m=2∨trQ m = -2:=by
     unfold f6 at ht;split at ht
     ·exact .inl ht
     ·exact .inr (by grind)
    generalize f / x=q at *
    have hq:q=1∨q = -1:=by
     rcases ht with ht|ht
     ·rw[ht]at h2
      have z:(q - 1)*(q - 1)=0:=by grind
      exact .inl (by rcases c9A.mp z with z|z<;>grind)
     ·rw[ht]at h2
      have z:(q+1)*(q+1)=0:=by grind
      exact .inr (by rcases c9A.mp z with z|z<;>grind)
    rcases hq with rfl|rfl
    ·exact absurd z (by decide +kernel)
    ·exact absurd z (by decide +kernel)
   ·rw[if_neg ht]at h5
    apply of_decide_eq_false h5
    left
    rw[ab]
    have:=c9L (a:=f6 (f / x) - 1) (b:=f6 x) (by grind) ap
    grind
theorem a6v{m:Q4}(hd:W9 m=1){l:Rat × Rat × Rat}(hr:0<l.2.2)(hf:a2W m l):X7 m l (pE m l)↔F2 m l:=by
 obtain⟨x,f,r⟩:=l
 have hr:0<r:=hr
 unfold pE
 by_cases h0:x=0∧f=0
 ·rw[if_pos (show(x,f,r).1=0∧(x,f,r).2.1=0 from h0)]
  obtain⟨rfl,rfl⟩:=h0
  refine⟨fun _=>⟨fun n _=>?_,a6x m hr⟩,fun _=>⟨rfl,rfl,rfl⟩⟩
  unfold A7
  show ¬ r<f6 (stQ (trQ m) (0,0) n).1
  rw[a00 hr n,show f6 (0:Rat)=0 by decide +kernel];grind
 ·rw[if_neg (show ¬ ((x,f,r).1=0∧(x,f,r).2.1=0)from h0)]
  by_cases hs:u7 m
  ·rw[if_pos hs]
   exact⟨fun h=>⟨fun n _=>a4c hd hs hf h.2.2.2 n,a2v hs _ _ _⟩,fun h=>⟨rfl,hs,rfl,fun j _=>h.1 j (.inl (.inl hs))⟩⟩
  ·rw[if_neg hs]
   by_cases h2:f6 (trQ m)<2
   ·rw[if_pos h2]
    obtain⟨t1,t2⟩:=X5.mp h2
    have lt:p8 m x f r=decide (r*r<J3 (trQ m) x f):=by unfold p8;rw[if_neg hs,if_pos h2]
    constructor
    ·rintro(h|h)
     ·exact⟨fun n _=>a3Y t1 t2 hr h.2.2.2 n,by show p8 m x f r=false;rw[lt];exact decide_eq_false h.2.2.2⟩
     ·exact absurd h.1 (by decide)
    ·intro h
     have h5:p8 m x f r=false:=h.2
     rw[lt]at h5
     exact .inl ⟨rfl,⟨hs,h2⟩,rfl,of_decide_eq_false h5⟩
   ·rw[if_neg h2]
    by_cases hx:x=0
    ·rw[if_pos (show(x,f,r).1=0 from hx)]
     have hf0:f≠0:=fun z=>h0 ⟨hx,z⟩
     constructor
     ·rintro(h|h)
      ·exact absurd h.1 (by decide)
      ·exact absurd (show f=0 by have:=h.2.2.2.1;have this:1*x=f:=this;rw[hx]at this;grind) hf0
     ·intro h
      have h5:p8 m x f r=false:=h.2
      unfold p8 at h5
      rw[if_neg hs,if_neg h2,if_pos (by rw[hx];unfold swQ;grind)]at h5
      cases h5
    ·rw[if_neg (show ¬ (x,f,r).1=0 from hx)]
     have kg:=b3n (f:=f) hs h2 hr hx
     constructor
     ·rintro(h|h)
      ·exact absurd h.1 (by decide)
      ·obtain⟨h4,h5⟩:=kg.mp h.2
       exact⟨fun n _=>a1l (l:=(x,f,r)) hs hr h5 h4 n,h5⟩
     ·intro h
      exact .inr ⟨rfl,kg.mpr ⟨h.1 0 (.inr (by decide)),h.2⟩⟩
theorem a8O(t:Rat)(p:Rat × Rat):∀ n,stQ t (p.2,t*p.2 - p.1) n=stQ t p (n+1)
 | 0=>rfl
 | n+1=>by
  show((stQ t (p.2,t*p.2 - p.1) n).2,t*(stQ t (p.2,t*p.2 - p.1) n).2 - (stQ t (p.2,t*p.2 - p.1) n).1)=_
  rw[a8O t p n];rfl
theorem b3D{t x f r:Rat}{n:Nat}:A7 t (f,t*f - x,r) n↔A7 t (x,f,r) (n+1):=by
 unfold A7
 show r<f6 (stQ t (f,t*f - x) n).1↔r<f6 (stQ t (x,f) (n+1)).1
 rw[a8O t (x,f) n]
theorem b0M{m:Q4}{x f r:Rat}(hr:0<r):(p8 m f (trQ m*f - x) r=true→p8 m x f r=true)∧(p8 m x f r=true→¬ r<f6 x→¬ r<f6 f→p8 m f (trQ m*f - x) r=true):=by
 by_cases hs:u7 m
 ·rw[a2v hs,a2v hs];exact⟨fun h=>h,fun h=>by cases h⟩
 ·by_cases h2:f6 (trQ m)<2
  ·have e:∀ a b:Rat,p8 m a b r=decide (r*r<J3 (trQ m) a b):=fun a b=>by unfold p8;rw[if_neg hs,if_pos h2]
   have er:J3 (trQ m) f (trQ m*f - x)=J3 (trQ m) x f:=by
    have:=a6N (trQ m) x f
    show 4*swQ (trQ m) f (trQ m*f - x) / (4 - trQ m*trQ m)=4*swQ (trQ m) x f / (4 - trQ m*trQ m)
    rw[this]
   rw[e,e,er];exact⟨fun h=>h,fun h _ _=>h⟩
  ·have e:∀ a b:Rat,p8 m a b r=if swQ (trQ m) a b≠0 then true else if f6 (trQ m)=2 then false else decide (f6 a<f6 b∨r<f6 a):=fun a b=>by unfold p8;rw[if_neg hs,if_neg h2]
   rw[e,e,a6N]
   by_cases hw:swQ (trQ m) x f≠0
   ·rw[if_pos hw,if_pos hw];exact⟨fun _=>rfl,fun _ _ _=>rfl⟩
   ·rw[if_neg hw,if_neg hw]
    have hw:swQ (trQ m) x f=0:=c9a hw
    by_cases ht:f6 (trQ m)=2
    ·rw[if_pos ht,if_pos ht];exact⟨fun h=>h,fun h=>by cases h⟩
    ·rw[if_neg ht,if_neg ht]
     simp only[decide_eq_true_eq]
     have a0:f6 (0:Rat)=0:=by decide +kernel
     by_cases hx:x=0
     ·have hf:f=0:=by rw[hx]at hw;unfold swQ at hw;grind
      rw[hx,hf,show trQ m*0 - (0:Rat)=0 by grind,a0]
      exact⟨fun h=>h,fun h _ _=>h⟩
     ·have hk:(f / x)*(f / x) - trQ m*(f / x)+1=0:=by
       rw[b4U hx]at hw
       rcases c9A.mp hw with z|z
       ·rcases c9A.mp z with z|z<;>exact absurd z hx
       ·grind
      have ef:f=(f / x)*x:=by grind
      generalize f / x=q at *
      have q0:q≠0:=fun z=>by rw[z]at hk;grind
      have e2:trQ m*f - x=q*f:=by
       rw[ef]
       have:(q*q - trQ m*q+1)*x=0:=by rw[hk];grind
       grind
      have xp:=a4P hx
      have fq:f6 f=f6 q*f6 x:=by rw[ef,O4]
      have f2:f6 (trQ m*f - x)=f6 q*f6 f:=by rw[e2,O4]
      have qp:=a4P q0
      rw[f2]
      have key:f6 f<f6 q*f6 f↔f6 x<f6 f:=by
       have fp:0<f6 f:=by rw[fq];exact c9L qp xp
       constructor
       ·intro z
        apply c9a
        intro nz
        have h1:f6 q≤1:=by
         apply c9a
         intro n1
         have:=c9L (a:=f6 q - 1) (b:=f6 x) (by grind) xp
         grind
        have:=c9s (a:=1 - f6 q) (b:=f6 f) (by grind) (by grind)
        grind
       ·intro z
        have h1:1<f6 q:=by
         apply c9a
         intro n1
         have:=c9s (a:=1 - f6 q) (b:=f6 x) (by grind) (by grind)
         grind
        have:=c9L (a:=f6 q - 1) (b:=f6 f) (by grind) fp
        grind
      rw[key]
      refine⟨fun h=>?_,fun h h1 h3=>?_⟩
      ·rcases h with h|h
       ·exact .inl h
       ·by_cases z:f6 x<f6 f
        ·exact .inl z
        ·exact .inr (by grind)
      ·rcases h with h|h
       ·exact .inl h
       ·exact absurd h h1
theorem a8P(t c:Rat)(p:Rat × Rat):∀ n,stQ t (p.1*c,p.2*c) n=((stQ t p n).1*c,(stQ t p n).2*c)
 | 0=>rfl
 | n+1=>by
  show((stQ t (p.1*c,p.2*c) n).2,t*(stQ t (p.1*c,p.2*c) n).2 - (stQ t (p.1*c,p.2*c) n).1)=_
  rw[a8P t c p n]
  show((stQ t p n).2*c,t*((stQ t p n).2*c) - (stQ t p n).1*c)=((stQ t p n).2*c,(t*(stQ t p n).2 - (stQ t p n).1)*c)
  congr 1;grind
theorem b3E{t x f r c:Rat}{n:Nat}:A7 t (x*c,f*c,r) n↔r<f6 (stQ t (x,f) n).1*f6 c:=by
 unfold A7
 show r<f6 (stQ t (x*c,f*c) n).1↔_
 rw[a8P t c (x,f) n,O4]
theorem c0K(a:Rat):0≤f6 a:=by unfold f6;split<;>grind
theorem b6Y{t x f r c:Rat}(hc:f6 c≤1){n:Nat}(h:A7 t (x*c,f*c,r) n):A7 t (x,f,r) n:=by
 rw[b3E]at h
 show r<f6 (stQ t (x,f) n).1
 have:=c9s (a:=f6 (stQ t (x,f) n).1) (b:=1 - f6 c) (c0K _) (by grind)
 grind
theorem b3l{m:Q4}{x f r c:Rat}(hr:0<r)(hc:1≤f6 c)(h:p8 m x f r=true):p8 m (x*c) (f*c) r=true:=by
 have c2:1≤c*c:=by
  have e:f6 c*f6 c=c*c:=by unfold f6;split<;>grind
  have:=c9s (a:=f6 c - 1) (b:=f6 c+1) (by grind) (by grind)
  grind
 have sws:swQ (trQ m) (x*c) (f*c)=swQ (trQ m) x f*(c*c):=by unfold swQ;grind
 unfold p8 at h ⊢
 by_cases hs:u7 m
 ·rw[if_pos hs]at h;cases h
 ·rw[if_neg hs]at h ⊢
  by_cases h2:f6 (trQ m)<2
  ·rw[if_pos h2]at h ⊢
   have h:=of_decide_eq_true h
   refine decide_eq_true ?_
   have er:J3 (trQ m) (x*c) (f*c)=J3 (trQ m) x f*(c*c):=by
    show 4*swQ (trQ m) (x*c) (f*c) / (4 - trQ m*trQ m)=4*swQ (trQ m) x f / (4 - trQ m*trQ m)*(c*c)
    rw[sws];grind
   rw[er]
   have rr:=c9L hr hr
   have:=c9s (a:=J3 (trQ m) x f) (b:=c*c - 1) (by grind) (by grind)
   grind
  ·rw[if_neg h2]at h ⊢
   by_cases hw:swQ (trQ m) x f≠0
   ·rw[if_pos (fun z=>by rw[sws]at z;exact(c9A.mp z).elim hw (fun z=>by grind))]
   ·rw[if_neg hw]at h
    rw[if_neg (by rw[sws,c9a hw];grind)]
    by_cases ht:f6 (trQ m)=2
    ·rw[if_pos ht]at h;cases h
    ·rw[if_neg ht]at h ⊢
     have h:=of_decide_eq_true h
     refine decide_eq_true ?_
     rw[O4,O4]
     rcases h with h|h
     ·left
      have:=c9L (a:=f6 f - f6 x) (b:=f6 c) (by grind) (by grind)
      grind
     ·right
      have:=c9s (a:=f6 x) (b:=f6 c - 1) (c0K _) (by grind)
      grind
theorem b3m{m:Q4}{x f r c:Rat}(hr:0<r)(hc:f6 c≤1)(h:p8 m (x*c) (f*c) r=true):p8 m x f r=true:=by
 by_cases c0:c=0
 ·rw[c0,show x*0=0 by grind,show f*0=0 by grind,a6x m hr]at h;cases h
 ·have:=b3l (c:=1 / c) hr (by
   have e:f6 (1 / c)*f6 c=1:=by rw[← O4,show 1 / c*c=1 by grind];decide +kernel
   have p:=a4P c0
   apply c9a
   intro nz
   have:=c9L (a:=1 - f6 (1 / c)) (b:=f6 c) (by grind) p
   grind) h
  rw[show x*c*(1 / c)=x by grind,show f*c*(1 / c)=f by grind]at this
  exact this
end GM
namespace GM
open PySem PySem.Spec L2 DL
open RM (sz)
section
variable {near far:Rat} {bs:List (Str × Rat)} {y u:Rat}
theorem b3f(l:Rat × Rat × Rat):C7 (d8 near bs far) (g8 (d8 near bs far) (y,u)).1 (g8 (d8 near bs far) (y,u)).2 l=((C7 (d8 near bs far) y u l).2.1,trQ (tbQ (d8 near bs far))*(C7 (d8 near bs far) y u l).2.1 - (C7 (d8 near bs far) y u l).1,l.2.2):=by
 have r0:=b5m (a2d (d8 near bs far)) (y,u) l.1 l.2.1 0
 have o1:g8 (d8 near bs far) (y,u)=L3 (tbQ (d8 near bs far)) (y,u) 1:=b1T (bs:=d8 near bs far) (y,u) 0
 have o2:g8 (d8 near bs far) (L3 (tbQ (d8 near bs far)) (y,u) 1)=L3 (tbQ (d8 near bs far)) (y,u) 2:=b1T (bs:=d8 near bs far) (y,u) 1
 unfold C7
 rw[show((g8 (d8 near bs far) (y,u)).1,(g8 (d8 near bs far) (y,u)).2)=g8 (d8 near bs far) (y,u)from rfl,o1,o2]
 exact Prod.ext rfl (Prod.ext r0 rfl)
theorem c1U(L:List (Str × Rat))(c:Rat)(l:Rat × Rat × Rat):C7 L (y*c) (u*c) l=((C7 L y u l).1*c,(C7 L y u l).2.1*c,l.2.2):=by
 have a:=G6 L (y*c) (u*c)
 have b:=G6 L y u
 unfold C7
 rw[a.1,a.2,b.1,b.2]
 refine Prod.ext ?_ (Prod.ext ?_ rfl)
 ·show l.1*(y*c)+l.2.1*(u*c)=(l.1*y+l.2.1*u)*c;grind
 ·show l.1*(_*(y*c)+_*(u*c))+l.2.1*(_*(y*c)+_*(u*c))=(l.1*(_*y+_*u)+l.2.1*(_*y+_*u))*c;grind
end
section
variable {m:Q4} {T:List T3} {y u y2 u2:Rat} {d d2:D}
theorem c4x(h:EvT m T y u d)(hn:NoT m T y u):¬ wS d = "stopped" := fun w=>by
 obtain⟨n,j,z,_,_,_,hat⟩:=b9i h w
 exact c4T hat hn
end
theorem c2m{m:Q4}{T:List T3}{y u:Rat}{ls:List (Rat × Rat × Rat)}(hls:ls=(O7 T T.length).map fun z=>C7 (T.map fun z=>z.2.2) y u (a0f T z.2 z.1)):(∀ l∈ls,F2 m l)↔(NoT m T y u∧∀ j,¬ laT m T y u j):=by
 constructor
 ·intro g
  have mem:∀{j:Nat} {z:T3},T[j]? = some z→z.2.2.1 = "stop" → C7 (T.map fun z=>z.2.2) y u (a0f T j z)∈ls:=fun{j z} hz hs=>by
   rw[hls];exact c9t.mpr ⟨(z,j),W2.mpr ⟨hz,hs⟩,rfl⟩
  refine⟨fun n j hn ⟨z,hz,hs,hb⟩=>(g _ (mem hz hs)).1 n hn hb,fun j ⟨z,hz,hs,hb⟩=>?_⟩
  have h5:p8 m (C7 (T.map fun z=>z.2.2) y u (a0f T j z)).1 (C7 (T.map fun z=>z.2.2) y u (a0f T j z)).2.1 z.2.2.2=false:=(g _ (mem hz hs)).2
  rw[h5]at hb;cases hb
 ·rintro⟨g1,g2⟩ l hl
  rw[hls]at hl
  obtain⟨z,hz,rfl⟩:=c9t.mp hl
  obtain⟨a1,a2⟩:=W2.mp (show(z.1,z.2)∈_ from hz)
  refine⟨fun n hn hb=>g1 n z.2 hn ⟨z.1,a1,a2,hb⟩,?_⟩
  cases e:p8 m (C7 (T.map fun z=>z.2.2) y u (a0f T z.2 z.1)).1 (C7 (T.map fun z=>z.2.2) y u (a0f T z.2 z.1)).2.1 z.1.2.2.2 with
  | false=>exact e
  | true=>exact absurd ⟨z.1,a1,a2,e⟩ (g2 z.2)
theorem b0w{m:Q4}(hd:W9 m=1){ls:List (Rat × Rat × Rat)}(rp:∀ l∈ls,0<l.2.2)(hf:∀ l∈ls,a2W m l):(a4q m ls (ls.map (pE m))=true) ↔ ∀ l∈ls,F2 m l:=by
 unfold a4q
 rw[decide_eq_true (c8Y ..),d1h,List.all_eq_true]
 have ez:ls.zip (ls.map (pE m))=ls.map fun l=>(l,pE m l):=by
  generalize ls=xs
  induction xs with
  | nil=>rfl
  | cons a xs ih=>rw[c9F,c9F,d04,ih]
 rw[ez]
 constructor
 ·intro g l hl
  have:=g (l,pE m l) (c9t.mpr ⟨l,hl,rfl⟩)
  exact(a6v hd (rp l hl) (hf l hl)).mp (c1Y.mp this)
 ·intro g x hx
  obtain⟨l,hl,rfl⟩:=c9t.mp hx
  exact a4F ((a6v hd (rp l hl) (hf l hl)).mpr (g l hl))
theorem CD.by{S k:Nat}{y u c:Rat}(h:CD S y 0 u 0)(hc:sz c≤k):CD (S+k) (y*c) 0 (u*c) 0:=by
 obtain⟨Y,Y2,U,U2,D0,h0,hd,⟨h1,h2,h3,h4⟩,e1,e2,e3,e4⟩:=h.ex
 have cn:=u4 c hc
 have cd:=t9 c hc
 have ec:=w6 c
 refine⟨Y*c.num,0,U*c.num,0,D0*c.den,c91 h0 c.den_nz,o7 hd cd,⟨e7 h1 cn,c90 _,e7 h3 cn,c90 _⟩,?_,?_,?_,?_⟩
 ·rw[c9p,c82,← e1,← ec];grind
 ·show(0:Rat)*_=((0:Int):Rat);grind
 ·rw[c9p,c82,← e3,← ec];grind
 ·show(0:Rat)*_=((0:Int):Rat);grind
theorem c3W{m:Q4}{l:Rat × Rat × Rat}(zt:sz (trQ m)≤231)(zx:sz l.1≤1231)(zf:sz l.2.1≤1462):b02 (pE m l):=by
 unfold pE
 split
 ·show cl 57 (.str (Str.ofString "nought"))=true;decide +kernel
 ·split
  ·refine⟨by decide +kernel,?_⟩
   have:rtN m≤6:=by
    unfold rtN;repeat' split
    all_goals decide
   rw[c8V];omega
  ·split
   ·rename_i h
    obtain⟨t1,t2⟩:=X5.mp h
    exact⟨by decide +kernel,c85 (b5p zt zx zf t1 t2) (by decide)⟩
   ·split
    ·exact⟨by decide +kernel,by rw[RM.S5];decide⟩
    ·rename_i h
     have:=RM.S7 l.2.1 l.1 h
     exact⟨by decide +kernel,by omega⟩
local macro_rules|`(tactic| walk_at "inj")=>`(tactic| (rename_i e h;simp only[List.cons.injEq,and_true,true_and,GM.j7,GM.j3,GM.i7,GM.j4,GM.i8,D.tup.injEq,D.ref.injEq,D.int.injEq,D.str.injEq,D.bl.injEq,D.vl.injEq,c9i,and_assoc]at e;(repeat(obtain⟨e1,e⟩:=e;subst e1));subst e;exact h))
local macro_rules|`(tactic| walk_at "injs")=>`(tactic| (rename_i e o h;rcases o with o|o<;>(subst o;first|(exfalso;simp only[D.tup.injEq,List.cons.injEq,reduceCtorEq,false_and,and_false]at e;done)|(simp only[List.cons.injEq,and_true,true_and,GM.j7,GM.j3,GM.i7,GM.j4,GM.i8,D.tup.injEq,D.ref.injEq,D.int.injEq,D.str.injEq,D.bl.injEq,D.vl.injEq,c9i,and_assoc]at e;(repeat(obtain⟨e1,e⟩:=e;subst e1));subst e;exact h))))
noncomputable abbrev a0c(near:Rat)(bs:List (Str × Rat))(far:Rat)(M:Mem)(R:DK)(Y:DXK):Prop:=B1 near bs far∧∀ v,c2L (tbQ (d8 near bs far)) v→R (.tup [.str (kwS (tbQ (d8 near bs far))),v]) M
noncomputable def a4l:DSp:=fun ds M R Y=>∃(x0:D) (near:Rat) (bs:List (Str × Rat)) (far:Rat),ds=[.tup [d9 near,x0,d9 far]]∧(x0 = .vl (bs.map f9)∨x0 = .tup (bs.map f9))∧a0c near bs far M R Y
theorem a8o{near:Rat}{bs:List (Str × Rat)}{far:Rat}{M:Mem}{R:DK}{Y:DXK}:a4l [.tup [d9 near,.vl (bs.map f9),d9 far]] M R Y=(a0c near bs far M R Y):=propext ⟨fun z=>by obtain⟨_,_,_,_,_,_,_⟩:=z;walk_at "injs",fun h=>⟨_,near,bs,far,rfl,.inl rfl,h⟩⟩
theorem a3B{near:Rat}{bs:List (Str × Rat)}{far:Rat}{M:Mem}{R:DK}{Y:DXK}:a4l [.tup [d9 near,.tup (bs.map f9),d9 far]] M R Y=(a0c near bs far M R Y):=propext ⟨fun z=>by obtain⟨_,_,_,_,_,_,_⟩:=z;walk_at "injs",fun h=>⟨_,near,bs,far,rfl,.inr rfl,h⟩⟩
end GM
namespace DL
open PySem PySem.Spec L2
theorem b9p{α:Type}{e0:Ev}{g:DTG}{te:DTE}{tc:S3}{stay:Mem→Prop}{M1:Mem}{E:List D→Mem→Prop}{xs:List α}{enc:α→D}(W:Nat→List D→Mem→Prop)(w0:W 0 [] M1)(hst:∀ i ys M,W i ys M→stay M)
  (turn:∀ i x ys M,xs[i]? = some x→W i ys M→g (enc x) e0 M fun e2 M2=>tc e2 M2 fun b M3=>IfK b (te e2 M3 fun v M4=>ys.length<sizeLine∧W (i+1) (ys++[v]) M4) (W (i+1) ys M3))
  (done:∀ ys M,W xs.length ys M→E ys M):∃ W,a4R e0 g tc te (xs.map enc) stay M1 E W:=by
 refine⟨W,⟨w0,fun i ys M _ w=>hst i ys M w,fun i d ys M hd w=>?_,fun ys M w=>done ys M (by rw[c8Y]at w;exact w)⟩⟩
 rw[c83]at hd
 obtain⟨x,hx,rfl⟩:=c9o.mp hd
 exact turn i x ys M hx w
end DL
namespace GM
open PySem PySem.Spec L2 DL
open RM (sz)
inductive Ea:List (Str × Rat)→List (Str × Rat)→Prop
 | nil:Ea [] []
 | keep (x:Str × Rat) {xs ys:List (Str × Rat)}:Ea xs ys→Ea (x :: xs) (x :: ys)
 | drop (r:Rat) {xs ys:List (Str × Rat)}:Ea xs ys→Ea ((Str.ofString "stop",r) :: xs) ys
 | wide (r r':Rat) {xs ys:List (Str × Rat)}:r≤r'→Ea xs ys→Ea ((Str.ofString "stop",r) :: xs) ((Str.ofString "stop",r') :: ys)
theorem Ea.refl:∀ xs,Ea xs xs
 | []=>.nil
 | x :: xs=>.keep x (Ea.refl xs)
theorem Ea.app{xs ys xs' ys':List (Str × Rat)}(h:Ea xs ys)(g:Ea xs' ys'):Ea (xs++xs') (ys++ys'):=by
 induction h with
 | nil=>exact g
 | keep x _ ih=>exact .keep x ih
 | drop r _ ih=>exact .drop r ih
 | wide r r' hr _ ih=>exact .wide r r' hr ih
theorem Ea.rev{xs ys:List (Str × Rat)}(h:Ea xs ys):Ea xs.reverse ys.reverse:=by
 induction h with
 | nil=>exact .nil
 | keep x _ ih=>rw[c9Y,c9Y];exact ih.app (.keep x .nil)
 | drop r _ ih =>
  rw[c9Y]
  have:=ih.app (.drop r .nil)
  rwa [c9M]at this
 | wide r r' hr _ ih=>rw[c9Y,c9Y];exact ih.app (.wide r r' hr .nil)
theorem Ea.hall(near far:Rat){xs ys:List (Str × Rat)}(h:Ea xs ys):Ea (d8 near xs far) (d8 near ys far):=by
 unfold d8
 exact((h.app (Ea.refl _)).app h.rev).app (Ea.refl _)
theorem G7(r y u:Rat):y9 (Str.ofString "stop",r) y u=(y,u):=a4I (by show(Str.ofString "stop" == Str.ofString "gap" || Str.ofString "stop" == Str.ofString "glass")=false;decide +kernel) y u
theorem Ea.out{xs ys:List (Str × Rat)}(h:Ea xs ys):∀ r:Rat × Rat,g8 ys r=g8 xs r:=by
 induction h with
 | nil=>intro r;rfl
 | keep x _ ih=>intro r;exact ih _
 | drop q _ ih =>
  intro r
  show _=g8 _ (y9 (Str.ofString "stop",q) r.1 r.2)
  rw[G7];exact ih r
 | wide q q' _ _ ih =>
  intro r
  show g8 _ (y9 (Str.ofString "stop",q') r.1 r.2)=g8 _ (y9 (Str.ofString "stop",q) r.1 r.2)
  rw[G7,G7];exact ih r
theorem Ea.take{xs ys:List (Str × Rat)}(h:Ea xs ys):∀ i,∃ j,Ea (xs.take j) (ys.take i):=by
 induction h with
 | nil=>intro i;exact⟨0,by rw[d1X,d1X];exact .nil⟩
 | keep x h ih =>
  intro i
  cases i with
  | zero=>exact⟨0,.nil⟩
  | succ i=>obtain⟨j,hj⟩:=ih i;exact⟨j+1,.keep x hj⟩
 | drop r h ih=>intro i;obtain⟨j,hj⟩:=ih i;exact⟨j+1,.drop r hj⟩
 | wide r r' hr h ih =>
  intro i
  cases i with
  | zero=>exact⟨0,.nil⟩
  | succ i=>obtain⟨j,hj⟩:=ih i;exact⟨j+1,.wide r r' hr hj⟩
noncomputable def lnR(a b:Rat × Rat):List (Str × Rat)→List (Rat × Rat × Rat)
 | []=>[]
 | x :: xs=>(if x.1 = "stop" then[(a.1,b.1,x.2)]else[])++lnR (y9 x a.1 a.2) (y9 x b.1 b.2) xs
theorem b80(a b:Rat × Rat)(xs ys:List (Str × Rat)):lnR a b (xs++ys)=lnR a b xs++lnR (g8 xs a) (g8 xs b) ys:=by
 induction xs generalizing a b with
 | nil=>rfl
 | cons x xs ih =>
  show _++lnR _ _ (xs++ys)=(_++lnR _ _ xs)++_
  rw[ih,d18];rfl
theorem a9Z(L:List (Str × Rat)):∀ i,i≤L.length→A5 L i=lnR (1,0) (0,1) (L.take i)
 | 0,_=>rfl
 | i+1,h=>by
  have hz:=c9d (l:=L) (i:=i) (by omega)
  rw[a1x hz,c9T,hz]
  show _=lnR (1,0) (0,1) (L.take i++[L[i]])
  rw[b80,← a9Z L i (by omega)]
  show _=_++((if (L[i]).1 = "stop" then[_]else[])++[])
  rw[c9M]
  split
  ·rfl
  ·rw[c9M]
theorem Ea.lines{xs ys:List (Str × Rat)}(h:Ea xs ys):∀ a b:Rat × Rat,∀ l∈lnR a b ys,∃ l0∈lnR a b xs,l0.1=l.1∧l0.2.1=l.2.1∧l0.2.2≤l.2.2:=by
 induction h with
 | nil=>intro a b l hl;cases hl
 | keep x h ih =>
  intro a b l hl
  have hl:l∈(if x.1 = "stop" then[(a.1,b.1,x.2)]else[])++lnR (y9 x a.1 a.2) (y9 x b.1 b.2) _:=hl
  rcases c9g.mp hl with hl|hl
  ·exact⟨l,d0g _ hl,rfl,rfl,Rat.le_refl⟩
  ·obtain⟨l0,h0,e⟩:=ih _ _ l hl
   exact⟨l0,c9m _ h0,e⟩
 | drop r h ih =>
  intro a b l hl
  obtain⟨l0,h0,e⟩:=ih a b l hl
  refine⟨l0,c9m _ ?_,e⟩
  rw[G7,G7];exact h0
 | wide r r' hr h ih =>
  intro a b l hl
  have hl:l∈(if Str.ofString "stop" = Str.ofString "stop" then[(a.1,b.1,r')]else[])++lnR (y9 (Str.ofString "stop",r') a.1 a.2) (y9 (Str.ofString "stop",r') b.1 b.2) _:=hl
  rw[if_pos rfl,G7,G7]at hl
  rcases c9g.mp hl with hl|hl
  ·rw[c88.mp hl]
   refine⟨(a.1,b.1,r),d0g _ ?_,rfl,rfl,hr⟩
   show _∈(if Str.ofString "stop" = Str.ofString "stop" then[(a.1,b.1,r)]else[])
   rw[if_pos rfl];exact c88.mpr rfl
  ·obtain⟨l0,h0,e⟩:=ih a b l hl
   refine⟨l0,c9m _ ?_,e⟩
   rw[G7,G7];exact h0
theorem Ea.tb{near far:Rat}{bs cs:List (Str × Rat)}(h:Ea bs cs):tbQ (d8 near cs far)=tbQ (d8 near bs far):=by
 unfold tbQ
 rw[(h.hall near far).out,(h.hall near far).out]
theorem Ea.len{xs ys:List (Str × Rat)}(h:Ea xs ys):ys.length≤xs.length:=by
 induction h with
 | nil=>exact c9b _
 | keep x _ ih=>exact d1r ih
 | drop r _ ih=>exact d1b ih
 | wide r r' _ _ ih=>exact d1r ih
theorem Ea.w{near far:Rat}{bs cs:List (Str × Rat)}(h:Ea bs cs)(hw:B1 near bs far)(hc:∀ x∈cs,x∈bs∨(x.1 = "stop" ∧ 0<x.2∧sz x.2≤3000)):B1 near cs far:=by
 refine⟨fun i=>?_,fun x hx=>?_,c85 h.len hw.len,fun x hx=>?_⟩
 ·obtain⟨j,hj⟩:=(h.hall near far).take i
  have:tbQ ((d8 near cs far).take i)=tbQ ((d8 near bs far).take j):=by unfold tbQ;rw[hj.out,hj.out]
  rw[this];exact hw.cd j
 ·have inb:∀ x∈cs,sz x.2≤3000:=fun x hx=>by
   rcases hc x hx with h1|h1
   ·exact hw.szs x (by unfold d8;simp[h1])
   ·exact h1.2.2
  unfold d8 at hx
  rcases c9g.mp hx with hx|hx
  ·rcases c9g.mp hx with hx|hx
   ·rcases c9g.mp hx with hx|hx
    ·exact inb x hx
    ·exact hw.szs x (by unfold d8;simp at hx;simp[hx])
   ·exact inb x (c99.mp hx)
  ·exact hw.szs x (by unfold d8;simp at hx;simp[hx])
 ·rcases hc x hx with h1|h1
  ·exact hw.part x h1
  ·exact .inr ⟨h1.1,h1.2.1⟩
theorem c4R{t x f r r':Rat}(h:r≤r'){n:Nat}(hb:A7 t (x,f,r') n):A7 t (x,f,r) n:=by
 have hb:r'<f6 (stQ t (x,f) n).1:=hb
 show r<f6 (stQ t (x,f) n).1
 grind
theorem c2b{m:Q4}{x f r r':Rat}(hr:0<r)(h:r≤r')(hl:p8 m x f r'=true):p8 m x f r=true:=by
 unfold p8 at hl ⊢
 by_cases hs:u7 m
 ·rw[if_pos hs]at hl;cases hl
 ·rw[if_neg hs]at hl ⊢
  by_cases h2:f6 (trQ m)<2
  ·rw[if_pos h2]at hl ⊢
   have hl:=of_decide_eq_true hl
   refine decide_eq_true ?_
   have:=c9s (a:=r' - r) (b:=r'+r) (by grind) (by grind)
   grind
  ·rw[if_neg h2]at hl ⊢
   by_cases hw:swQ (trQ m) x f≠0
   ·rw[if_pos hw]
   ·rw[if_neg hw]at hl ⊢
    by_cases ht:f6 (trQ m)=2
    ·rw[if_pos ht]at hl;cases hl
    ·rw[if_neg ht]at hl ⊢
     have hl:=of_decide_eq_true hl
     exact decide_eq_true (hl.imp id (fun z=>by grind))
theorem c2l{m:Q4}{x f r r':Rat}(hr:0<r)(h:r≤r')(g:F2 m (x,f,r)):F2 m (x,f,r'):=by
 refine⟨fun n hn hb=>g.1 n hn (c4R h hb),?_⟩
 cases e:p8 m x f r' with
 | false=>rfl
 | true=>have:=c2b hr h e;have g2:p8 m x f r=false:=g.2;rw[g2]at this;cases this
theorem b0R{m:Q4}(hd:W9 m=1){x f r:Rat}(hr:0<r)(hf:a2W m (x,f,r))(g:F2 m (x,f,r)):F2 m (f,trQ m*f - x,r):=by
 refine⟨fun n _ hb=>a9v hd hr hf g (n+1) (b3D.mp hb),?_⟩
 cases e:p8 m f (trQ m*f - x) r with
 | false=>rfl
 | true=>have:=(b0M hr).1 e;have g2:p8 m x f r=false:=g.2;rw[g2]at this;cases this
theorem b3s{m:Q4}{x f r c:Rat}(hr:0<r)(hc:f6 c≤1)(g:F2 m (x,f,r)):F2 m (x*c,f*c,r):=by
 refine⟨fun n hn hb=>g.1 n hn (b6Y hc hb),?_⟩
 cases e:p8 m (x*c) (f*c) r with
 | false=>rfl
 | true=>have:=b3m hr hc e;have g2:p8 m x f r=false:=g.2;rw[g2]at this;cases this
theorem b4X{m:Q4}{l:Rat × Rat × Rat}(g:F2 m l):N3 m l=pE m l:=by
 unfold N3 pE
 by_cases h0:l.1=0∧l.2.1=0
 ·rw[if_pos h0,if_pos h0]
 ·rw[if_neg h0,if_neg h0]
  by_cases hs:u7 m
  ·rw[if_pos hs,if_pos hs]
  ·rw[if_neg hs,if_neg hs]
   by_cases h2:f6 (trQ m)<2
   ·rw[if_pos h2,if_pos h2]
   ·rw[if_neg h2,if_neg h2]
    by_cases hx:l.1=0
    ·exfalso
     have:=g.2
     unfold p8 at this
     rw[if_neg hs,if_neg h2,if_pos (by rw[hx];unfold swQ;intro z;exact h0 ⟨hx,by grind⟩)]at this
     cases this
    ·rw[if_neg hx]
theorem a6s{near far:Rat}{bs:List (Str × Rat)}{y u:Rat}{d:D}(h:EvT (tbQ (d8 near bs far)) (j5 near bs far) y u d):wS d = "never" ↔ ∀ l∈p6 near bs far y u,F2 (tbQ (d8 near bs far)) l:=by
 rw[c2m (a6F near far bs y u)]
 constructor
 ·exact fun w=>b6v h w
 ·rintro⟨g1,g2⟩
  rcases b6u h with w|w|w
  ·exact absurd w (c4x h g1)
  ·obtain⟨_,j,hj⟩:=b9j h w
   exact absurd hj (g2 j)
  ·exact w
section
variable {near far:Rat} {bs cs:List (Str × Rat)} {y u:Rat}
theorem b2l(hw:B1 near bs far)(h:Ea bs cs)(g:∀ l∈p6 near bs far y u,F2 (tbQ (d8 near bs far)) l):∀ l∈p6 near cs far y u,F2 (tbQ (d8 near cs far)) l:=fun l hl=>by
 obtain⟨l1,h1,rfl⟩:=c9t.mp hl
 rw[a9Z _ _ (c9b _),c9k]at h1
 obtain⟨l0,h0,e1,e2,e3⟩:=(h.hall near far).lines _ _ l1 h1
 have h0:l0∈A5 (d8 near bs far) (d8 near bs far).length:=by rw[a9Z _ _ (c9b _),c9k];exact h0
 have gl:=g _ (c9t.mpr ⟨l0,h0,rfl⟩)
 have r0:0<l0.2.2:=(hw.line (y:=0) (u:=0) ((CD.ray2 (k:=1) (l:=1) (by rw[RM.C9];decide) (by rw[RM.C9];decide)).mono (by decide)) h0).2.1.2
 rw[h.tb]
 have en:C7 (d8 near cs far) y u l1=((C7 (d8 near bs far) y u l0).1,(C7 (d8 near bs far) y u l0).2.1,l1.2.2):=by
  unfold C7
  rw[(h.hall near far).out,e1,e2]
 rw[en]
 exact c2l r0 e3 gl
theorem a9u(hw:B1 near bs far)(g:∀ l∈p6 near bs far y u,F2 (tbQ (d8 near bs far)) l):∀ l∈p6 near bs far (g8 (d8 near bs far) (y,u)).1 (g8 (d8 near bs far) (y,u)).2,F2 (tbQ (d8 near bs far)) l:=fun l hl=>by
 obtain⟨l0,h0,rfl⟩:=c9t.mp hl
 have hm:C7 (d8 near bs far) y u l0∈p6 near bs far y u:=c9t.mpr ⟨l0,h0,rfl⟩
 have r0:=(hw.line (y:=0) (u:=0) ((CD.ray2 (k:=1) (l:=1) (by rw[RM.C9];decide) (by rw[RM.C9];decide)).mono (by decide)) h0).2.1.2
 rw[b3f]
 exact b0R (a2d _) r0 (W6 _ hm) (g _ hm)
theorem b9b{c:Rat}(hc:f6 c≤1)(hw:B1 near bs far)(g:∀ l∈p6 near bs far y u,F2 (tbQ (d8 near bs far)) l):∀ l∈p6 near bs far (y*c) (u*c),F2 (tbQ (d8 near bs far)) l:=fun l hl=>by
 obtain⟨l0,h0,rfl⟩:=c9t.mp hl
 have r0:=(hw.line (y:=0) (u:=0) ((CD.ray2 (k:=1) (l:=1) (by rw[RM.C9];decide) (by rw[RM.C9];decide)).mono (by decide)) h0).2.1.2
 rw[c1U]
 exact b3s r0 hc (g _ (c9t.mpr ⟨l0,h0,rfl⟩))
end
local macro_rules|`(tactic| walk_at "inj")=>`(tactic| (rename_i e h;simp only[List.cons.injEq,and_true,true_and,GM.j7,GM.j3,GM.i7,GM.j4,GM.i8,D.tup.injEq,D.ref.injEq,D.int.injEq,D.str.injEq,D.bl.injEq,D.vl.injEq,c9i,and_assoc]at e;(repeat(obtain⟨e1,e⟩:=e;subst e1));subst e;exact h))
local macro_rules|`(tactic| walk_at "injs")=>`(tactic| (rename_i e o h;rcases o with o|o<;>(subst o;first|(exfalso;simp only[D.tup.injEq,List.cons.injEq,reduceCtorEq,false_and,and_false]at e;done)|(simp only[List.cons.injEq,and_true,true_and,GM.j7,GM.j3,GM.i7,GM.j4,GM.i8,D.tup.injEq,D.ref.injEq,D.int.injEq,D.str.injEq,D.bl.injEq,D.vl.injEq,c9i,and_assoc]at e;(repeat(obtain⟨e1,e⟩:=e;subst e1));subst e;exact h))))
noncomputable abbrev N6(near:Rat)(bs:List (Str × Rat))(far:Rat)(y u:Rat)(k:Nat)(M:Mem)(R:DK)(Y:DXK):Prop:=(B1 near bs far∧∃ S,CD S y 0 u 0∧S≤1700)∧∃ l,(p6 near bs far y u)[k]? = some l∧R (.bl (p8 (tbQ (d8 near bs far)) l.1 l.2.1 l.2.2)) M
noncomputable def a1Q:DSp:=fun ds M R Y=>∃(x0:D) (near:Rat) (bs:List (Str × Rat)) (far:Rat) (y u:Rat) (k:Nat),ds=[.tup [d9 near,x0,d9 far],v6 y u,.int (k:Int)]∧(x0 = .vl (bs.map f9)∨x0 = .tup (bs.map f9))∧N6 near bs far y u k M R Y
theorem a3A{near:Rat}{bs:List (Str × Rat)}{far:Rat}{y u:Rat}{k:Nat}{M:Mem}{R:DK}{Y:DXK}:a1Q [.tup [d9 near,.vl (bs.map f9),d9 far],v6 y u,.int (k:Int)] M R Y=(N6 near bs far y u k M R Y):=propext ⟨fun z=>by obtain⟨_,_,_,_,_,_,_,_,_,_⟩:=z;walk_at "injs",fun h=>⟨_,near,bs,far,y,u,k,rfl,.inl rfl,h⟩⟩
theorem a1s{near:Rat}{bs:List (Str × Rat)}{far:Rat}{y u:Rat}{k:Nat}{M:Mem}{R:DK}{Y:DXK}:a1Q [.tup [d9 near,.tup (bs.map f9),d9 far],v6 y u,.int (k:Int)] M R Y=(N6 near bs far y u k M R Y):=propext ⟨fun z=>by obtain⟨_,_,_,_,_,_,_,_,_,_⟩:=z;walk_at "injs",fun h=>⟨_,near,bs,far,y,u,k,rfl,.inr rfl,h⟩⟩
noncomputable abbrev V6(near:Rat)(bs:List (Str × Rat))(far:Rat)(y u:Rat)(N:Nat)(M:Mem)(R:DK)(Y:DXK):Prop:=(B1 near bs far∧CD 1000 y 0 u 0∧N≤100)∧((∀ n k,n<N→y4 (trQ (tbQ (d8 near bs far))) (p6 near bs far y u) k n=false)→R .non M)∧∀ n k:Nat,n<N→y4 (trQ (tbQ (d8 near bs far))) (p6 near bs far y u) k n=true→(∀ n',n'<n→∀ k',y4 (trQ (tbQ (d8 near bs far))) (p6 near bs far y u) k' n'=false)→(∀ k',k'<k→y4 (trQ (tbQ (d8 near bs far))) (p6 near bs far y u) k' n=false)→R (.tup [.int (n:Int),.int (k:Int)]) M
noncomputable def a4i:DSp:=fun ds M R Y=>∃(near:Rat) (bs:List (Str × Rat)) (far:Rat) (y u:Rat) (N:Nat),ds=[.tup [d9 near,.vl (bs.map f9),d9 far],v6 y u,.int (N:Int)]∧V6 near bs far y u N M R Y
theorem a3z{near:Rat}{bs:List (Str × Rat)}{far:Rat}{y u:Rat}{N:Nat}{M:Mem}{R:DK}{Y:DXK}:a4i [.tup [d9 near,.vl (bs.map f9),d9 far],v6 y u,.int (N:Int)] M R Y=(V6 near bs far y u N M R Y):=propext ⟨fun z=>by obtain⟨_,_,_,_,_,_,_,_⟩:=z;walk_at "inj",fun h=>⟨near,bs,far,y,u,N,rfl,h⟩⟩
noncomputable abbrev a0r(p:Addr)(near:Rat)(bs:List (Str × Rat))(far:Rat)(y u:Rat)(M:Mem)(R:DK)(Y:DXK):Prop:=C5 M p∧(C6 near bs far∧bs.length≤7∧CD 1000 y 0 u 0)∧∀(bs':List (Str × Rat)) M',B1 near bs' far→(∀ x∈bs',sz x.2≤2000)→u3 p M M'→R (.tup [d9 near,.vl (bs'.map f9),d9 far]) M'
noncomputable def a7a:DSp:=fun ds M R Y=>∃(p:Addr) (near:Rat) (bs:List (Str × Rat)) (far:Rat) (y u:Rat),ds=[.ref p,.tup [d9 near,.vl (bs.map f9),d9 far],v6 y u]∧a0r p near bs far y u M R Y
theorem a5N{p:Addr}{near:Rat}{bs:List (Str × Rat)}{far:Rat}{y u:Rat}{M:Mem}{R:DK}{Y:DXK}:a7a [.ref p,.tup [d9 near,.vl (bs.map f9),d9 far],v6 y u] M R Y=(a0r p near bs far y u M R Y):=propext ⟨fun z=>by obtain⟨_,_,_,_,_,_,_,_⟩:=z;walk_at "inj",fun h=>⟨p,near,bs,far,y,u,rfl,h⟩⟩
noncomputable abbrev a1B(p:Addr)(near:Rat)(bs:List (Str × Rat))(far:Rat)(M:Mem)(R:DK)(Y:DXK):Prop:=C5 M p∧(B1 near bs far∧∀ x∈bs,sz x.2≤2000)∧∀(cs:List (Str × Rat)) M',Ea bs cs→B1 near cs far→u3 p M M'→R (.tup [d9 near,.vl (cs.map f9),d9 far]) M'
noncomputable def b0e:DSp:=fun ds M R Y=>∃(p:Addr) (near:Rat) (bs:List (Str × Rat)) (far:Rat),ds=[.ref p,.tup [d9 near,.vl (bs.map f9),d9 far]]∧a1B p near bs far M R Y
theorem a8c{p:Addr}{near:Rat}{bs:List (Str × Rat)}{far:Rat}{M:Mem}{R:DK}{Y:DXK}:b0e [.ref p,.tup [d9 near,.vl (bs.map f9),d9 far]] M R Y=(a1B p near bs far M R Y):=propext ⟨fun z=>by obtain⟨_,_,_,_,_,_⟩:=z;walk_at "inj",fun h=>⟨p,near,bs,far,rfl,h⟩⟩
noncomputable abbrev a1T(p:Addr)(near:Rat)(bs:List (Str × Rat))(far:Rat)(M:Mem)(R:DK)(Y:DXK):Prop:=C5 M p∧B1 near bs far∧∀(cs:List (Str × Rat)) M',Ea bs cs→B1 near cs far→u3 p M M'→R (.tup [d9 near,.vl (cs.map f9),d9 far]) M'
noncomputable def b0o:DSp:=fun ds M R Y=>∃(p:Addr) (near:Rat) (bs:List (Str × Rat)) (far:Rat),ds=[.ref p,.tup [d9 near,.vl (bs.map f9),d9 far]]∧a1T p near bs far M R Y
theorem a8r{p:Addr}{near:Rat}{bs:List (Str × Rat)}{far:Rat}{M:Mem}{R:DK}{Y:DXK}:b0o [.ref p,.tup [d9 near,.vl (bs.map f9),d9 far]] M R Y=(a1T p near bs far M R Y):=propext ⟨fun z=>by obtain⟨_,_,_,_,_,_⟩:=z;walk_at "inj",fun h=>⟨p,near,bs,far,rfl,h⟩⟩
noncomputable abbrev a3h(p:Addr)(near:Rat)(bs:List (Str × Rat))(far:Rat)(y u:Rat)(d:D)(M:Mem)(R:DK)(Y:DXK):Prop:=C5 M p∧(d = .vl (((p6 near bs far y u).map (N3 (tbQ (d8 near bs far)))).map enD)∧(B1 near bs far∧∀ x∈bs,sz x.2≤2000)∧CD 1000 y 0 u 0∧∀ l∈p6 near bs far y u,F2 (tbQ (d8 near bs far)) l)∧∀ M',u3 p M M'→R (.bl true) M'
noncomputable def b5h:DSp:=fun ds M R Y=>∃(p:Addr) (near:Rat) (bs:List (Str × Rat)) (far:Rat) (y u:Rat) (d:D),ds=[.ref p,.tup [d9 near,.vl (bs.map f9),d9 far],v6 y u,d]∧a3h p near bs far y u d M R Y
theorem b1d{p:Addr}{near:Rat}{bs:List (Str × Rat)}{far:Rat}{y u:Rat}{d:D}{M:Mem}{R:DK}{Y:DXK}:b5h [.ref p,.tup [d9 near,.vl (bs.map f9),d9 far],v6 y u,d] M R Y=(a3h p near bs far y u d M R Y):=propext ⟨fun z=>by obtain⟨_,_,_,_,_,_,_,_,_⟩:=z;walk_at "inj",fun h=>⟨p,near,bs,far,y,u,d,rfl,h⟩⟩
end GM
namespace K43
open PySem PySem.Spec L2 DL GM
open RM (sz)
open PyProof.Rows hiding St
local macro_rules|`(tactic| walk_at "sim")=>do
 let f:=fun(b:Bool) (p:String) (s:String)=>((s.splitOn " ").mapM (fun s=>(let i:=Lean.mkIdent (p++s).toName;if b then `(Lean.Parser.Tactic.simpLemma| ↓$i:ident)else `(Lean.Parser.Tactic.simpLemma| $i:ident))):Lean.MacroM _)
 let a := "z_C c3s c3q c3o c3p c3n c3m c3l b4n c0c c0e c3r b90 b4E b9Z b4u c3u b95 b91 b4B b9U b93 b4D c3v b4v b9W b4A b9X b1B b1q b4m b1r a3V a8w c0d b9Y b4t c0f b92 b94 b97 b96 b4x b4C b9V a8E b4s b1A b1C a8z a6i a8v a8A b1p b4r a8x a8y a8B a8D b1H b1z b4l b1o b98 c0a b1F b1G b9T b1t b4p b4o a8C b1E b1D b1s b1y b1v b1x b1w b1u b4q b99 c0b b4y b4z c3t b4F a2F a3J a57 a3K a56 a2E a3H a55 a3I a54 a2I a3P a6d a3Q a6c a2H a3N a6b a3O a6a a2G a3L a59 a3M a58 a2K a3T a6h a3U a6g a2J a3R a6f a3S a6e c3a c2Z c2Y c2X c2W c2V c2U c2T c2S c2R b9C b9B b9A b9z b9y c3k c3j c3i c3h c3g c3f c3e c3d c3c c3b b9S b9R b9Q b9P b9O a3G a3F a9S b4k b4j b4i b4h b4g b4f b4e b4d b4c b4b b4a b3Z b3Y b9M b9L b9K b9J b9I b9H b9G b9F b9E b9D"
 let b := "a8u a53 b1g b3X b3W b3V b3U b1j b1i b1h b1k b1n b1m b1l a8t a52 b3T b1f a51 b3S a8s a8r a3E a1u a50 a5Z a3D a5Y b1e a3C a1t a8q b1d a8p a8o a3B b9N a5X a3A a1s b3R b1c a8n a8m a5W b1b a3z a3y a3x b3Q a8l a8k a5V a8j a5U a8i b1a a8h b09 b08 a5T a2D a3w a8g a3v b07 a5S a5R b3P a8f a5Q a8e a3u a5P b3O Y3 a5O b3N b06 a5N a5M b3M a8d a3t a5L a5K a8c b05 a2C a2B a8b b04 a5J a8a b03 a79 a78 a77 a76 a5I a5H a0D a1W a7q a1V a7p a1U a1T V8 L8 a0C a0B V7 a0A N7 a3i a1S a1R a3h a0c b1R a0z N6 a3g a7l a1P a1O a0y a3f V6 V5 V4 a7j a1M a1L a0x a1K a0w a1J a1I a3e a3d a3c R3 V3 a0b a1G a0v a7e a1F a0u a1E V2 a0t a7d a1D a0s a7b a27 a0r a0q a68 a0a a0p a0o a1B"
 let xs:=((← f true "DL." a)++(← f true "GM." b)++(← f false "GM." b)++(← f false "DL." a)++(← f false "" "DL.b7W DL.b7Q DL.b7G DL.b7A DL.b7X DL.b7R DL.b7H DL.b7B DL.b7Y DL.b7S DL.b7I DL.b7C DL.b7Z DL.b7T DL.b7J DL.b7D DL.b77 DL.b7U DL.b7K DL.b7E DL.b78 DL.b7V DL.b7L DL.b7F DL.b7o DL.b7u DL.b7p DL.b7v DL.b7q DL.b7w DL.b7r DL.b7x DL.b7s DL.b7y DL.b7t DL.b7z GM.b7M GM.b7N GM.b7O GM.b7P DL.c02 DL.c01 DL.c00 DL.c0Z DL.c0Y DL.c0X DL.c0W DL.c0V DL.c0U DL.b7n DL.b7m DL.b7l Nat.reduceAdd Nat.reduceLT Nat.reduceLeDiff d2c Int.reduceLT Int.reduceLE Int.reduceEq eq_self decide_true decide_false D.int.injEq D.str.injEq beq_self_eq_true and_self true_and and_true not_true_eq_false not_false_eq_true false_implies true_implies forall_const a1m c9F d0e List.cons_append List.nil_append c9M c9B d0i d0m a5z List.getElem?_cons_zero List.getElem?_cons_succ Option.getD_some decide_eq_true_eq decide_eq_false_iff_not d15 Bool.not_eq_false' Bool.and_self d1h Bool.and_true Bool.xor_false Bool.false_xor Bool.true_xor Bool.not_true Bool.not_false c9U Bool.true_eq_false reduceIte GM.r0 GM.r1 GM.r2 GM.r4 GM.rm1 GM.rm2 GM.j7 GM.c1n GM.c3L GM.c3K GM.c1m")).toArray
 `(tactic| try simp only[$xs,*])
local macro_rules|`(tactic| walk_at "len")=>`(tactic| (intro ds M R Y h;repeat(first|exact congrArg d1J h.1|(obtain⟨_,h⟩:=h))))
local macro_rules|`(tactic| walk_at "size")=>`(tactic| first|omega|grind only[RM.y8,RM.a01,RM.S4,RM.S6,RM.S5,RM.C9,GM.a02])
local macro_rules|`(tactic| walk_at "sc")=>`(tactic| exact⟨rfl,rfl,rfl,by decide +kernel,rfl,by decide +kernel,by decide +kernel⟩)
noncomputable def top(i:Nat):Stmt:=PySem.Challenge.pw_roundglass_k43_whole_never_is_kept.main.body.getD i (.Pass ⟨0,0,0,0⟩)
noncomputable abbrev a2m:Stmt:=top 7
noncomputable abbrev T7:Stmt:=top 6
noncomputable abbrev a26:Stmt:=top 9
noncomputable abbrev b0b:Stmt:=top 15
noncomputable abbrev Y9:Stmt:=top 17
noncomputable abbrev L1:Stmt:=top 16
noncomputable abbrev a60:Stmt:=top 45
noncomputable abbrev a1b:Stmt:=top 46
noncomputable abbrev a62:Stmt:=top 12
noncomputable abbrev a98:Stmt:=top 37
noncomputable abbrev a1c:Stmt:=top 10
noncomputable abbrev J2:Stmt:=top 38
noncomputable abbrev a09:Stmt:=top 62
noncomputable abbrev a64:Stmt:=top 18
noncomputable abbrev a07:Stmt:=top 11
noncomputable abbrev Z3:Stmt:=top 39
noncomputable abbrev S9:Stmt:=top 57
noncomputable abbrev Q6:Stmt:=top 56
noncomputable abbrev P8:Stmt:=top 58
noncomputable abbrev K9:Stmt:=top 59
noncomputable abbrev L0:Stmt:=top 60
noncomputable abbrev U0:Stmt:=top 61
noncomputable abbrev a25:Stmt:=top 14
noncomputable abbrev S8:Stmt:=top 54
noncomputable abbrev T5:Stmt:=top 55
noncomputable abbrev Z2:Stmt:=top 44
noncomputable abbrev b5c:Stmt:=top 26
noncomputable abbrev Z4:Stmt:=top 53
noncomputable abbrev a63:Stmt:=top 13
noncomputable abbrev Q5:Stmt:=top 29
noncomputable abbrev a1d:Stmt:=top 49
noncomputable abbrev N4:Stmt:=top 31
noncomputable abbrev Q0:Stmt:=top 35
noncomputable abbrev T8:Stmt:=top 52
noncomputable abbrev U1:Stmt:=top 27
noncomputable abbrev a08:Stmt:=top 30
noncomputable abbrev a1a:Stmt:=top 36
noncomputable abbrev b0d:Stmt:=top 63
noncomputable abbrev U7:Stmt:=top 80
noncomputable abbrev Z6:Stmt:=top 79
noncomputable abbrev U6:Stmt:=top 81
noncomputable abbrev Q7:Stmt:=top 82
noncomputable abbrev Z7:Stmt:=top 73
noncomputable abbrev L7:Stmt:=top 74
noncomputable abbrev V0:Stmt:=top 94
noncomputable abbrev U3:Stmt:=top 93
noncomputable abbrev U9:Stmt:=top 87
noncomputable abbrev T1:Stmt:=top 70
noncomputable abbrev N5:Stmt:=top 89
noncomputable abbrev U8:Stmt:=top 91
noncomputable abbrev a4d:Stmt:=top 88
noncomputable abbrev G4:Stmt:=top 92
noncomputable abbrev a1e:Stmt:=top 8
noncomputable abbrev T6:Stmt:=top 67
noncomputable abbrev a99:Stmt:=top 19
noncomputable abbrev Q1:Stmt:=top 66
noncomputable abbrev P9:Stmt:=top 65
noncomputable abbrev T0:Stmt:=top 68
noncomputable abbrev Q3:Stmt:=top 69
noncomputable abbrev Z8:Stmt:=top 95
noncomputable abbrev G2:Stmt:=top 85
noncomputable abbrev a61:Stmt:=top 47
noncomputable abbrev T9:Stmt:=top 20
noncomputable abbrev b0a:Stmt:=top 21
noncomputable abbrev Z0:Stmt:=top 42
noncomputable abbrev Z1:Stmt:=top 41
noncomputable abbrev a2l:Stmt:=top 40
noncomputable abbrev b0c:Stmt:=top 43
noncomputable abbrev U4:Stmt:=top 86
noncomputable abbrev V1:Stmt:=top 83
noncomputable abbrev a1f:Stmt:=top 84
noncomputable abbrev U5:Stmt:=top 76
noncomputable abbrev Q8:Stmt:=top 75
noncomputable abbrev G3:Stmt:=top 77
noncomputable abbrev Z9:Stmt:=top 78
noncomputable abbrev Z5:Stmt:=top 72
noncomputable abbrev b5d:Stmt:=top 96
theorem a97:f8 ["one","other"] ["one","other"] (e8 a2m):=by walk_at "sc"
theorem a2O:f8 ["thing"] ["thing"] (e8 T7):=by walk_at "sc"
theorem a8Y:f8 ["top","bottom","share"] ["top","bottom"] (e8 a26):=by walk_at "sc"
theorem b8j:f8 ["one","other"] ["one","other"] (e8 b0b):=by walk_at "sc"
theorem a6P:f8 ["ratios","bottom"] ["ratios","bottom"] (e8 Y9):=by walk_at "sc"
theorem a2k:f8 ["ratios","bottom","one"] ["ratios"] (e8 L1):=by walk_at "sc"
theorem b4Z:f8 ["t","x","later","bottom","one","other"] ["t","x","later"] (e8 a60):=by walk_at "sc"
theorem a8X:f8 ["t","x","later","top","bottom"] ["t","x","later"] (e8 a1b):=by walk_at "sc"
theorem b1O:f8 ["one","other"] ["one","other"] (e8 a62):=by walk_at "sc"
theorem b8g:f8 ["table"] ["table"] (e8 a98):=by walk_at "sc"
theorem a8Z:f8 ["one"] ["one"] (e8 a1c):=by walk_at "sc"
theorem a1A:f8 ["table","t"] ["table"] (e8 J2):=by walk_at "sc"
theorem a8V:f8 ["word","table","x","later","top","bottom"] ["word","table","x","later"] (e8 a09):=by walk_at "sc"
theorem b1P:f8 ["one","other"] ["one","other"] (e8 a64):=by walk_at "sc"
theorem a8S:f8 ["one"] ["one"] (e8 a07):=by walk_at "sc"
theorem a6T:f8 ["table","size"] ["table"] (e8 Z3):=by walk_at "sc"
theorem a4W:f8 ["t","state","now","then","bound"] ["t","state"] (e8 S9):=by walk_at "sc"
theorem a39:f8 ["t","x","later","r","ratios","now","then","bound"] ["t","x","later","r"] (e8 Q6):=by walk_at "sc"
theorem a33:f8 ["t","numbers","watched","rounds","states","passed","k","state"] ["t","numbers","watched","rounds"] (e8 P8):=by walk_at "sc"
theorem a2i:f8 ["t","x","later","r","ratios","now","then","bound","step","ahead"] ["t","x","later","r"] (e8 K9):=by walk_at "sc"
theorem a2j:f8 ["t","numbers","late","stops","k","x","later","r"] ["t","numbers","late"] (e8 L0):=by walk_at "sc"
theorem a43:f8 ["table","numbers","late","k","x","later","r","t","word"] ["table","numbers","late"] (e8 U0):=by walk_at "sc"
theorem a8T:f8 ["one","other"] ["one","other"] (e8 a25):=by walk_at "sc"
theorem a4V:f8 ["word","t","x","later","r"] ["word","t","x","later","r"] (e8 S8):=by walk_at "sc"
theorem a4Z:f8 ["table","numbers","word","t"] ["table","numbers"] (e8 T5):=by walk_at "sc"
theorem a6S:f8 ["p","q","ray"] ["p","q","ray"] (e8 Z2):=by walk_at "sc"
theorem c1d:f8 ["table","ray","a","b","c","d","y","u"] ["table","ray"] (e8 b5c):=by walk_at "sc"
theorem a6U:f8 ["table","ray","lines","later"] ["table","ray","lines"] (e8 Z4):=by walk_at "sc"
theorem b5b:f8 ["one","other"] ["one","other"] (e8 a63):=by walk_at "sc"
theorem a38:f8 ["part","ray","word","number","y","u"] ["part","ray"] (e8 Q5):=by walk_at "sc"
theorem a80:f8 ["bench","lines","level","axis","part"] ["bench"] (e8 a1d):=by walk_at "sc"
theorem a2X:f8 ["bench"] ["bench"] (e8 N4):=by walk_at "sc"
theorem a35:f8 ["hall","near","bench","far"] ["hall"] (e8 Q0):=by walk_at "sc"
theorem a41:f8 ["hall","forth","back","lines"] ["hall"] (e8 T8):=by walk_at "sc"
theorem a44:f8 ["first","second"] ["first","second"] (e8 U1):=by walk_at "sc"
theorem a8U:f8 ["bench","first","second","part"] ["bench"] (e8 a08):=by walk_at "sc"
theorem a8W:f8 ["hall"] ["hall"] (e8 a1a):=by walk_at "sc"
theorem b8l:f8 ["hall","ray","table","met","numbers","late","stop","passed","k","word"] ["hall","ray"] (e8 b0d):=by walk_at "sc"
theorem a49:f8 ["hall","found"] ["hall"] (e8 U7):=by walk_at "sc"
theorem a6W:f8 ["part","ray","word","number"] ["part","ray"] (e8 Z6):=by walk_at "sc"
theorem a48:f8 ["hall","ray","word","number","part"] ["hall","ray"] (e8 U6):=by walk_at "sc"
theorem a4a:f8 ["ray","factor"] ["ray","factor"] (e8 Q7):=by walk_at "sc"
theorem a6X:f8 ["pool","base","digit","near","stir"] ["pool","base"] (e8 Z7):=by walk_at "sc"
theorem a0U:f8 ["pool","tops","bottoms"] ["pool","tops","bottoms"] (e8 L7):=by walk_at "sc"
theorem a5c:f8 ["pool","hall"] ["pool","hall"] (e8 V0):=by walk_at "sc"
theorem a45:f8 ["pool","hall","parts","word","number"] ["pool","hall"] (e8 U3):=by walk_at "sc"
theorem a5b:f8 ["hall","first","second","found","word","number","part"] ["hall"] (e8 U9):=by walk_at "sc"
theorem a4Y:f8 ["hall","ray","k","met","table","x","later","r"] ["hall","ray","k"] (e8 T1):=by walk_at "sc"
theorem a2Y:f8 ["hall","ray","later","found","word","number","p","q","r","x"] ["hall","ray"] (e8 N5):=by walk_at "sc"
theorem a5a:f8 ["t","x","further","r","rounds","bottom","now","then","turn"] ["t","x","further","r","rounds"] (e8 U8):=by walk_at "sc"
theorem b2X:f8 ["hall","first","second"] ["hall"] (e8 a4d):=by walk_at "sc"
theorem a06:f8 ["hall","ray","rounds","t","found","k","x","further","r","turn"] ["hall","ray","rounds"] (e8 G4):=by walk_at "sc"
theorem a81:f8 ["thing","top","bottom"] ["thing"] (e8 a1e):=by walk_at "sc"
theorem a40:f8 ["table","numbers","k","x","later","r"] ["table","numbers","k"] (e8 T6):=by walk_at "sc"
theorem b8h:f8 ["one","other"] ["one","other"] (e8 a99):=by walk_at "sc"
theorem a36:f8 ["table","numbers","s","x","later","r"] ["table","numbers","s"] (e8 Q1):=by walk_at "sc"
theorem a34:f8 ["table","numbers","n"] ["table","numbers","n"] (e8 P9):=by walk_at "sc"
theorem a4X:f8 ["table","numbers","shown","word","told"] ["table","numbers","shown"] (e8 T0):=by walk_at "sc"
theorem a37:f8 ["hall","ray","paper","lines","table"] ["hall","ray","paper"] (e8 Q3):=by walk_at "sc"
theorem a6Y:f8 ["pool","hall","ray","paper","k","factor","here","turn"] ["pool","hall","ray","paper"] (e8 Z8):=by walk_at "sc"
theorem a04:f8 ["number","low","high","mid"] ["number"] (e8 G2):=by walk_at "sc"
theorem b5a:f8 ["hall","ray","p","q","table","top","bottom"] ["hall","ray","p","q"] (e8 a61):=by walk_at "sc"
theorem a42:f8 ["number","guess","step","better"] ["number"] (e8 T9):=by walk_at "sc"
theorem b8i:f8 ["one","top","bottom"] ["one"] (e8 b0a):=by walk_at "sc"
theorem a6Q:f8 ["t","apart"] ["t"] (e8 Z0):=by walk_at "sc"
theorem a6R:f8 ["table","a","b","c","d"] ["table"] (e8 Z1):=by walk_at "sc"
theorem a96:f8 ["table","a","b","c","d"] ["table"] (e8 a2l):=by walk_at "sc"
theorem b8k:f8 ["hall","table","word"] ["hall"] (e8 b0c):=by walk_at "sc"
theorem a46:f8 ["pool","hall","ray","stops","at","farthest","word","number","p","q","r","scale","low","some"] ["pool","hall","ray"] (e8 U4):=by walk_at "sc"
theorem a5d:f8 ["hall","other","a","b","c","d","told","k","found"] ["hall","other"] (e8 V1):=by walk_at "sc"
theorem a82:f8 ["pool","hall","way_drawn","ray","factor","along","little"] ["pool","hall"] (e8 a1f):=by walk_at "sc"
theorem a47:f8 ["pool","parts","count","found","k","r"] ["pool","parts","count"] (e8 U5):=by walk_at "sc"
theorem a4b:f8 ["pool","gap","count","found","k","piece"] ["pool","gap"] (e8 Q8):=by walk_at "sc"
theorem a05:f8 ["pool","pairs","near","far","bottoms","halves","gap","parts","first"] ["pool"] (e8 G3):=by walk_at "sc"
theorem a6Z:f8 ["pool","way_drawn","power_drawn","parts","k"] ["pool"] (e8 Z9):=by walk_at "sc"
theorem a6V:f8 ["cell"] ["cell"] (e8 Z5):=by walk_at "sc"
theorem c1e:f8 ["script","cell","pool","hall","ray","told"] ["script"] (e8 b5d):=by walk_at "sc"
structure Txt(K:c8U)(mg:Str→Option Value):Prop where
 b_abs:mg "abs" = none
 b_all:mg "all" = none
 b_bool:mg "bool" = none
 b_enumerate:mg "enumerate" = none
 b_int:mg "int" = none
 b_isinstance:mg "isinstance" = none
 b_len:mg "len" = none
 b_list:mg "list" = none
 b_max:mg "max" = none
 b_min:mg "min" = none
 b_range:mg "range" = none
 b_reversed:mg "reversed" = none
 b_tuple:mg "tuple" = none
 b_zip:mg "zip" = none
 sub:b7c K
 c_AXIS_RAY:GlD K mg "AXIS_RAY" (.tup [(.tup [(.int 0),(.int 1)]),(.tup [(.int 1),(.int 1)])])
 c_FIRST_ROUNDS:GlD K mg "FIRST_ROUNDS" (.int 60)
 c_FOUR:GlD K mg "FOUR" (.tup [(.int 4),(.int 1)])
 c_LEVEL_RAY:GlD K mg "LEVEL_RAY" (.tup [(.tup [(.int 1),(.int 1)]),(.tup [(.int 0),(.int 1)])])
 c_NOUGHT:GlD K mg "NOUGHT" (.tup [(.int 0),(.int 1)])
 c_ONE:GlD K mg "ONE" (.tup [(.int 1),(.int 1)])
 c_SELF:GlD K mg "SELF" (.tup [(.tup [(.int 1),(.int 1)]),(.tup [(.int 0),(.int 1)]),(.tup [(.int 0),(.int 1)]),(.tup [(.int 1),(.int 1)])])
 c_TWO:GlD K mg "TWO" (.tup [(.int 2),(.int 1)])
section
variable {P:Program} {w:World} {K:c8U} {mg:Str→Option Value} {base:Heap}
theorem b0B(T:Txt K mg)(d:Df K mg "divisor" a2m ["one","other"]):Fn P w K mg base "divisor" 1 ["one","other"] M7:=by
 have sc:=a97
 refine i4 d sc (fun ds M R Y h=>?_) (fun f cdv A outer s H E ds M R Y hr h=>?_)
 ·obtain⟨a,b,rfl,_⟩:=h;rfl
 ·obtain⟨a,b,rfl,k⟩:=h
  refine⟨_,(d4 (a2w PassesOwn.never (jtm a4B (a8 1) d3) (d5 (a7M (i:=0) (j:=1) rfl sc.nd rfl rfl (by decide) rfl rfl (a7 (a8 1) (a7 (g6 a4C (a8 0) (a8 1)) a9))))) (d5 (d7 (a8 0)))),?_⟩
  refine⟨fun m e M'=>M'=M∧∃ u:Nat,e=[some (.int (u:Int)),some (.int (m:Int))]∧c9z u m=c9z a b,⟨b,rfl,a,rfl,rfl⟩,?_⟩
  rintro v e M' ⟨rfl,u,rfl,hg⟩
  refine⟨_,rfl,_,rfl,_,rfl,?_⟩
  refine b6h (fun h0=>?_) (fun h0=>?_)
  ·have hv:0<v:=by omega
   refine⟨_,rfl,_,rfl,_,rfl,_,_,rfl,rfl,by omega,_,_,rfl,?_⟩
   exact⟨u % v,Nat.mod_lt _ hv,rfl,v,rfl,by rw[← RM.b6o u v (by omega)];exact hg⟩
  ·have hv:v=0:=by omega
   subst hv
   rw[Nat.gcd_zero_right]at hg
   subst hg
   exact⟨_,rfl,k⟩
theorem a9k(T:Txt K mg)(d:Df K mg "is_whole" T7 ["thing"]):Fn P w K mg base "is_whole" 1 ["thing"] a1z:=by
 have sc:=a2O
 refine i4 d sc (fun ds M R Y h=>?_) (fun f cdv A outer s H E ds M R Y hr h=>?_)
 ·obtain⟨n,rfl,_⟩:=h;rfl
 ·obtain⟨n,rfl,k⟩:=h
  refine⟨_,(d5 (d7 (E1 (p0 (a0j T.sub) rfl T.b_isinstance u9 (a7 (a8 0) (a7 (a0g rfl T.b_int b0X) a9))) (D2 (W3 (p0 (a0j T.sub) rfl T.b_isinstance u9 (a7 (a8 0) (a7 (a0g rfl T.b_bool a70) a9)))))))),?_⟩
  refine⟨_,rfl,_,_,_,_,rfl,rfl,rfl,_,rfl,?_⟩
  refine c5E ?_
  exact⟨_,rfl,_,_,_,_,rfl,rfl,rfl,_,rfl,k⟩
theorem b5N(T:Txt K mg)(d:Df K mg "ratio" a26 ["top","bottom"])(c6g:Fn P w K mg base "is_whole" 1 ["thing"] a1z)(c6n:Fn P w K mg base "divisor" 1 ["one","other"] M7):Fn P w K mg base "ratio" 2 ["top","bottom"] X6:=by
 have sc:=a8Y
 refine i4 d sc (fun ds M R Y h=>?_) (fun f cdv A outer s H E ds M R Y hr h=>?_)
 ·obtain⟨p,b,rfl,_⟩:=h;rfl
 ·obtain⟨a,b,rfl,hb,hl,k⟩:=h
  refine⟨_,(d4 (g7 (D6 (C8 (C3 (u0 (jc c6g hr (a7 (a8 0) a9)))) (C8 (C3 (u0 (jc c6g hr (a7 (a8 1) a9)))) (B6 (jtm R5 (a8 1) d3))))) (d5 a6y) f7) (d4 (jst 2 sc.nd (jc c6n hr (a7 (p0 a0Z rfl T.b_abs R0 (a7 (a8 0) a9)) (a7 (p0 a0Z rfl T.b_abs R0 (a7 (a8 1) a9)) a9)))) (d4 (g7 (jtm a0P (a8 1) d3) (d5 (jst 2 sc.nd (A9 (a8 2)))) f7) (d5 (d7 (e9 (a7 (g6 E9 (a8 0) (a8 2)) (a7 (g6 E9 (a8 1) (a8 2)) a9)))))))),?_⟩
  refine⟨_,rfl,_,rfl,true,rfl,?_⟩
  refine c4j ?_
  refine⟨_,rfl,_,rfl,true,rfl,?_⟩
  refine c4j ?_
  refine⟨_,rfl,_,rfl,_,rfl,?_⟩
  refine b3o (fun h=>absurd h hb) (fun _=>?_)
  refine⟨_,rfl,_,rfl,_,rfl,_,rfl,a.natAbs,b.natAbs,rfl,?_⟩
  have hn:=b6p (a:=a) hb
  have hlg:=b9d (a:=a) hb hl
  refine⟨_,rfl,_,rfl,_,rfl,?_⟩
  refine b3o (fun h1=>?_) (fun h1=>?_)
  ·have c1:∀ i:Int,CFd i (-((c9z a.natAbs b.natAbs:Nat):Int)):=fun i=>⟨by omega,by rw[d0c];exact hlg⟩
   refine⟨_,rfl,_,rfl,_,rfl,_,rfl,_,_,rfl,rfl,c1 _,_,rfl,_,rfl,_,_,rfl,rfl,c1 _,sl 2,?_⟩
   exact a3o hb (by rw[if_pos h1]) k
  ·have c1:∀ i:Int,CFd i ((c9z a.natAbs b.natAbs:Nat):Int):=fun i=>⟨hn,hlg⟩
   refine⟨_,rfl,_,rfl,_,_,rfl,rfl,c1 _,_,rfl,_,rfl,_,_,rfl,rfl,c1 _,sl 2,?_⟩
   exact a3o hb (by rw[if_neg h1]) k
theorem b8U(T:Txt K mg)(d:Df K mg "over" b0b ["one","other"])(c5Y:Fn P w K mg base "ratio" 2 ["top","bottom"] X6):Fn P w K mg base "over" 3 ["one","other"] a2f:=by
 have sc:=b8j
 refine i4 d sc (fun ds M R Y h=>?_) (fun f cdv A outer s H E ds M R Y hr h=>?_)
 ·obtain⟨q,r,rfl,_⟩:=h;rfl
 ·obtain⟨q,r,rfl,h0,hz,k⟩:=h
  refine⟨_,(d5 (d7 (jc c5Y hr (a7 (g6 o6 (jx (a8 0) d3) (jx (a8 1) d3)) (a7 (g6 o6 (jx (a8 0) d3) (jx (a8 1) d3)) a9))))),?_⟩
  refine⟨_,rfl,_,rfl,_,rfl,_,rfl,_,_,rfl,rfl,mND hz,_,rfl,_,rfl,_,rfl,_,rfl,_,_,rfl,rfl,mDN hz,_,_,rfl,c9Z (RM.E5 q) (c1T h0),lDN hz,?_⟩
  rw[RM.b6A]at k
  exact k
theorem a7x(T:Txt K mg)(d:Df K mg "tops_over" Y9 ["ratios","bottom"]):Fn P w K mg base "tops_over" 1 ["ratios","bottom"] b5f:=by
 have sc:=a6P
 refine i4 d sc (by walk_at "len") (fun f cdv A outer s H E ds M R Y hr h=>?_)
 have hu:=hr.units
 obtain⟨x,b,rfl,qs,hx,⟨hl,hb,b0,hq⟩,k⟩:=h
 have hb':b<2 ^ 8501:=c9e hb (d0u (by decide) (by decide))
 have key:∀ s∈qs,IntMulOk s.num ((b:Int).fdiv (s.den:Int))∧CFd (b:Int) (s.den:Int):=fun s hs=>by
  obtain⟨_,hs⟩:=hq s hs
  have e1:((b:Int).fdiv (s.den:Int))=((b / s.den:Nat):Int):=by
   rw[K2 (by omega) (by omega)];norm_cast
  refine⟨?_,?_⟩
  ·rw[e1]
   exact u5 8900 8501 (u4 s hs) (by rw[c8V];exact c9e (d0X _ _) hb') (by decide)
  ·exact⟨by have:=s.den_pos;omega,by rw[c8V];exact c80 (F0 (t9 s hs) (by decide)) (by decide)⟩
 rcases hx with rfl|rfl
 all_goals
  refine⟨_,(d5 (d7 (G9 [1] ["one"] ["bottom"] rfl (by decide +kernel) rfl (by decide +kernel) (by decide +kernel) rfl (a18 ⟨rfl,rfl⟩) (a18 (Or.inl rfl)) (A1 (a8 0)) (fun _ _ _ _ _ _=>(jn 0 (show(["one","bottom"]:List Str).Nodup by decide +kernel))) (fun _ _ _ _ _ _=>A2) (fun _ _ _ _ _ _=>(g6 o6 (jx (a8 0) d3) (g6 E9 (a8 1) (jx (a8 0) d3))))))),?_⟩
  walk_at "sim"
  refine A6 (xs:=qs) (enc:=d9) (fun s=>D.int (s.num*(b:Int).fdiv (s.den:Int))) hl (by simp only[C0,o9]) (fun s hs Q hQ=>?_) k
  obtain⟨k1,k2⟩:=key s hs
  walk_at "sim"
  exact⟨k2,k1,hQ⟩
theorem a2t(T:Txt K mg)(d:Df K mg "common_bottom" L1 ["ratios"])(c6n:Fn P w K mg base "divisor" 1 ["one","other"] M7):Fn P w K mg base "common_bottom" 2 ["ratios"] b5j:=by
 have sc:=a2k
 refine i4 d sc (by walk_at "len") (fun f cdv A outer s H E ds M R Y hr h=>?_)
 have hu:=hr.units
 obtain⟨x,rfl,qs,hx,hz,k⟩:=h
 have key:∀(i:Nat) (b:Nat) (q:Rat),qs[i]? = some q→0<b→b≤2 ^ (szs (qs.take i))→(∀ r∈qs.take i,r.den ∣ b)→CFd (b:Int) ((c9z b q.den:Nat):Int)∧IntMulOk ((b:Int).fdiv ((c9z b q.den:Nat):Int)) (q.den:Int)∧((b:Int).fdiv ((c9z b q.den:Nat):Int))*(q.den:Int)=((b / c9z b q.den*q.den:Nat):Int)∧0<b / c9z b q.den*q.den∧b / c9z b q.den*q.den≤2 ^ (szs (qs.take (i+1)))∧(∀ r∈qs.take (i+1),r.den ∣ b / c9z b q.den*q.den)∧(b ∣ ((qs.take i).map fun q:Rat=>q.den).prod→b / c9z b q.den*q.den ∣ ((qs.take (i+1)).map fun q:Rat=>q.den).prod):=fun i b q hq b0 bl hd=>by
  have q0:=q.den_pos
  have ql:=t9 q (c9b _)
  have zt:=b4T hq
  have zl:=c07 qs i
  have zm:=a23 (c81 hq)
  have g0:=d0j b q0
  have gl:c9z b q.den<2 ^ sz q:=c9e (d1q b q0) ql
  obtain⟨c,hc⟩:=Nat.gcd_dvd_left b q.den
  have ec:b / c9z b q.den=c:=by
   conv=>lhs;lhs;rw[hc]
   exact Nat.mul_div_cancel_left c g0
  have e1:((b:Int).fdiv ((c9z b q.den:Nat):Int))=(c:Int):=by
   rw[K2 (by omega) (by omega),← ec];norm_cast
  have cb:c≤b:=by rw[← ec];exact d0X _ _
  have c0:0<c:=Nat.pos_of_ne_zero fun z=>by rw[z,Nat.mul_zero]at hc;omega
  rw[e1,ec]
  have bl3:b<2 ^ (szs (qs.take i)+1):=by rw[d05];have:=c90 (szs (qs.take i));omega
  refine⟨⟨by omega,by rw[c8V];exact c80 (F0 (r9 gl (show sz q≤8500 by omega)) (by decide)) (by decide)⟩,u5 8501 8500 (by rw[c8V];exact r9 (c9e cb bl3) (by omega)) (by rw[c8V];exact r9 ql (by omega)) (by decide),by rw[c9P],d0G c0 q0,?_,fun r hr=>?_,fun hp=>?_⟩
  ·rw[zt,d1g]
   exact d0n (c85 cb bl) (d0H ql)
  ·rw[c9T,hq]at hr
   rcases c9g.mp hr with hr|hr
   ·obtain⟨e,he⟩:=hd r hr
    obtain⟨f',hf⟩:=Nat.gcd_dvd_right b q.den
    refine Nat.dvd_trans (hd r hr) ?_
    rw[hf]
    refine⟨f',?_⟩
    conv=>rhs;lhs;rw[hc]
    rw[d2d _ c,d1W]
   ·rw[c88.mp hr];exact Nat.dvd_mul_left _ _
  ·rw[c9T,hq,c9f,List.prod_append]
   show c*q.den ∣ _*(q.den*1)
   rw[Nat.mul_one]
   exact Nat.mul_dvd_mul (Nat.dvd_trans ⟨c9z b q.den,by rw[d2d];exact hc⟩ hp) (Nat.dvd_refl _)
 rcases hx with rfl|rfl
 all_goals
  refine⟨_,(d4 (jst 1 sc.nd d3) (d4 (u8 PassesOwn.never rfl (A1 (a8 0)) (jn 2 sc.nd) (d5 (jst 1 sc.nd (g6 o6 (g6 E9 (a8 1) (jc c6n hr (a7 (a8 1) (a7 (jx (a8 2) d3) a9)))) (jx (a8 2) d3))))) (d5 (d7 (a8 1))))),?_⟩
  walk_at "sim"
  refine O5.by (fun i e M'=>M'=M∧∃(b:Nat) (z:Option D),e=[some _,some (.int (b:Int)),z]∧0<b∧b≤2 ^ (szs (qs.take i))∧(∀ r∈qs.take i,r.den ∣ b)∧b ∣ ((qs.take i).map fun q:Rat=>q.den).prod) ⟨rfl,1,_,rfl,by decide,by show 1≤2 ^ 0;decide,fun r hr=>(by cases hr),Nat.dvd_refl _⟩ (fun _ _ _ _ _=>by simp only[C0,o9]) ?_ ?_
  ·rintro i dd e M' hd ⟨rfl,b,z,rfl,b0,bl,hdv,hdp⟩
   rw[c83]at hd
   obtain⟨q,hq,rfl⟩:=c9o.mp hd
   obtain⟨k1,k2,k3,k4,k5,k6,k7⟩:=key i b q hq b0 bl hdv
   walk_at "sim"
   exact⟨k1,k2,_,some (d9 q),by rw[k3],k4,k5,k6,k7 hdp⟩
  ·rintro e M' ⟨rfl,b,z,rfl,b0,bl,hdv,hdp⟩
   rw[c8Y,c9k]at *
   walk_at "sim"
   exact k b b0 bl hdv hdp
theorem b5L(T:Txt K mg)(d:Df K mg "swing" a60 ["t","x","later"])(c6o:Fn P w K mg base "tops_over" 1 ["ratios","bottom"] b5f)(c6e:Fn P w K mg base "common_bottom" 2 ["ratios"] b5j):Fn P w K mg base "swing" 3 ["t","x","later"] a28:=by
 have sc:=b4Z
 refine i4 d sc (by walk_at "len") (fun f cdv A outer s H E ds M R Y hr h=>?_)
 have hu:=hr.units
 obtain⟨t,x,f',rfl,⟨ht,hz⟩,k⟩:=h
 have es:szs [x,f']=sz x+sz f':=by unfold szs;simp only[c9F,d0e,d1Y,d2e];omega
 have xn:=L4 x
 have xd:=J7 x
 have fn:=L4 f'
 have fd:=J7 f'
 rw[c8V]at xd fd
 refine⟨_,(d4 (jst 3 sc.nd (jc c6e hr (a7 (e9 (a7 (a8 1) (a7 (a8 2) a9))) a9))) (d4 (p9 (jc c6o hr (a7 (e9 (a7 (a8 1) (a7 (a8 2) a9))) (a7 (a8 3) a9))) (a4K (n:=2) rfl (d6 (jn 4 sc.nd) (d6 (jn 5 sc.nd) g9)))) (d5 (d7 (e9 (a7 (g6 a1Z (g6 o6 (jx (a8 0) d3) (g6 F1 (g6 o6 (a8 4) (a8 4)) (g6 o6 (a8 5) (a8 5)))) (g6 o6 (g6 o6 (jx (a8 0) d3) (a8 4)) (a8 5))) (a7 (g6 o6 (a8 3) (a8 3)) a9))))))),?_⟩
 walk_at "sim"
 refine⟨[x,f'],.inl rfl,by omega,fun B B0 Bl hB _=>⟨[x,f'],.inl rfl,⟨by show 2≤1000;decide,c85 Bl (c9j (by decide) (by omega)),B0,fun q hq=>⟨hB q hq,?_⟩⟩,?_⟩⟩
 ·have:=a23 hq;omega
 have cl1:B<2 ^ 4201:=c9e Bl (d0u (by decide) (by omega))
 obtain⟨o1,o2⟩:=K3 (hB x (by simp))
 obtain⟨p1,p2⟩:=K3 (hB f' (by simp))
 have o3:(x.num*(B:Int).fdiv (x.den:Int)).natAbs<2 ^ 8401:=by
  refine c9e o2 (c80 (o7 xn cl1) (c9j (by decide) (by omega)))
 have p3:(f'.num*(B:Int).fdiv (f'.den:Int)).natAbs<2 ^ 8401:=by
  refine c9e p2 (c80 (o7 fn cl1) (c9j (by decide) (by omega)))
 walk_at "sim"
 generalize x.num*(B:Int).fdiv (x.den:Int)=O at *
 generalize f'.num*(B:Int).fdiv (f'.den:Int)=P at *
 have td:=t9 t ht
 have tn:=u4 t ht
 have td':(t.den:Int).natAbs<2 ^ 231:=by rw[c8V];exact td
 have B':(B:Int).natAbs<2 ^ 4201:=by rw[c8V];exact cl1
 have oo:=e7 o3 o3
 have pp:=e7 p3 p3
 have op:=b7a oo pp
 have tdo:=e7 td' op
 have tno:=e7 tn o3
 have tnop:=e7 tno p3
 refine⟨u5 _ _ o3 o3 (by decide),u5 _ _ p3 p3 (by decide),u5 _ _ td' op (by decide),u5 _ _ tn o3 (by decide),u5 _ _ tno p3 (by decide),u5 _ _ B' B' (by decide),?_⟩
 refine k _ _ ?_ ?_ ?_ ?_
 ·have:(0:Int)<(B:Int):=by omega
  exact Int.mul_pos this this
 ·exact r9 (e7 B' B') (by decide)
 ·exact r9 (Y5 (r9 tdo (show _≤17034 by decide)) (r9 tnop (by decide))) (by decide)
 ·have e:=w6 t
  rw[d0r,c82,c96,c82,c82,c82,c82,c82,c87,c87,o1,p1,← e]
  grind
theorem a9g(T:Txt K mg)(d:Df K mg "reach_by" a1b ["t","x","later"])(c7k:Fn P w K mg base "swing" 3 ["t","x","later"] a28):Fn P w K mg base "reach_by" 4 ["t","x","later"] a6p:=by
 have sc:=a8X
 refine i4 d sc (by walk_at "len") (fun f cdv A outer s H E ds M R Y hr h=>?_)
 have hu:=hr.units
 obtain⟨t,x,f',rfl,⟨ht,t1,t2,hz⟩,k⟩:=h
 have td:=t9 t ht
 have tn:=u4 t ht
 have td':(t.den:Int).natAbs<2 ^ 231:=by rw[c8V];exact td
 have e:=w6 t
 have d0:(0:Rat)<(t.den:Rat):=by
  have:=t.den_pos
  exact_mod_cast this
 have h4:=b1K t1 t2
 refine⟨_,(d4 (p9 (jc c7k hr (a7 (a8 0) (a7 (a8 1) (a7 (a8 2) a9)))) (i0 (n:=2) rfl (d6 (jn 3 sc.nd) (d6 (jn 4 sc.nd) g9)))) (d5 (d7 (e9 (a7 (g6 o6 (g6 o6 d3 (a8 3)) (jx (a8 0) d3)) (a7 (g6 o6 (a8 4) (g6 a1Z (g6 o6 (g6 o6 d3 (jx (a8 0) d3)) (jx (a8 0) d3)) (g6 o6 (jx (a8 0) d3) (jx (a8 0) d3)))) a9)))))),?_⟩
 walk_at "sim"
 refine⟨⟨ht,hz⟩,fun T B b0 bB bT eT=>?_⟩
 have t4d:(4*(t.den:Int)).natAbs<2 ^ (3+231):=e7 (show(4:Int).natAbs<2 ^ 3 by decide) td'
 have tdd:=e7 t4d td'
 have tnn:=e7 tn tn
 have bd:=Y5 tdd (r9 tnn (by decide))
 have rat:(((4*(t.den:Int)*(t.den:Int) - t.num*t.num:Int)):Rat)=(4 - t*t)*((t.den:Rat)*(t.den:Rat)):=by
  rw[d0r,c82,c82,c82,c87,← e]
  rw[show(((4:Int)):Rat)=4 from rfl]
  grind
 have pos:0<4*(t.den:Int)*(t.den:Int) - t.num*t.num:=by
  have:(0:Rat)<((4*(t.den:Int)*(t.den:Int) - t.num*t.num:Int):Rat):=by
   rw[rat];exact c9L h4 (c9L d0 d0)
  exact_mod_cast this
 have t4:=e7 (show(4:Int).natAbs<2 ^ 3 by decide) bT
 have t4t:=e7 t4 td'
 refine⟨a9o (by decide) (by decide),u5 _ _ t4 td' (by decide),a9o (by decide) (by decide),u5 _ _ t4d td' (by decide),u5 _ _ tn tn (by decide),u5 _ _ bB bd (by decide),?_⟩
 refine k _ _ (Int.mul_pos b0 pos) (r9 (e7 bB bd) (by decide)) (r9 t4t (by decide)) ?_
 have b0':(0:Rat)<(B:Rat):=by exact_mod_cast b0
 rw[c9S,c82,c82,c82,rat,eT,c87]
 unfold J3
 rw[show(((4:Int)):Rat)=4 from rfl]
 exact b8r (fun z=>by rw[z]at d0;exact absurd d0 (by decide)) (fun z=>by rw[z]at b0';exact absurd b0' (by decide)) (fun z=>by rw[z]at h4;exact absurd h4 (by decide))
theorem b8T(T:Txt K mg)(d:Df K mg "plus" a62 ["one","other"])(c5Y:Fn P w K mg base "ratio" 2 ["top","bottom"] X6):Fn P w K mg base "plus" 3 ["one","other"] K8:=by
 have sc:=b1O
 refine i4 d sc (fun ds M R Y h=>?_) (fun f cdv A outer s H E ds M R Y hr h=>?_)
 ·obtain⟨q,r,rfl,_⟩:=h;rfl
 ·obtain⟨q,r,rfl,hz,k⟩:=h
  refine⟨_,(d5 (d7 (jc c5Y hr (a7 (g6 F1 (g6 o6 (jx (a8 0) d3) (jx (a8 1) d3)) (g6 o6 (jx (a8 1) d3) (jx (a8 0) d3))) (a7 (g6 o6 (jx (a8 0) d3) (jx (a8 1) d3)) a9))))),?_⟩
  refine⟨_,rfl,_,rfl,_,rfl,_,rfl,_,_,rfl,rfl,mND hz,_,rfl,_,rfl,_,rfl,_,rfl,_,_,rfl,rfl,mND (by omega),_,rfl,_,rfl,_,rfl,_,rfl,_,rfl,_,_,rfl,rfl,mDD hz,_,_,rfl,c9Z (RM.E5 q) (RM.E5 r),lDD hz,?_⟩
  rw[RM.b00]at k
  exact k
theorem b8Q(T:Txt K mg)(d:Df K mg "t_of" a98 ["table"])(c6d:Fn P w K mg base "plus" 3 ["one","other"] K8):Fn P w K mg base "t_of" 4 ["table"] a1C:=by
 have sc:=b8g
 refine i4 d sc (by walk_at "len") (fun f cdv A outer s H E ds M R Y hr h=>?_)
 have hu:=hr.units
 obtain⟨x,rfl,⟨a,b,c,d⟩,hx,cd,k⟩:=h
 have hx':x=a2e a b c d:=hx
 subst hx'
 have t4:=CD.t4 cd
 have h1:sz a≤230:=t4.a
 have h4:sz d≤230:=t4.d
 refine⟨_,(d5 (d7 (jc c6d hr (a7 (jx (a8 0) d3) (a7 (jx (a8 0) d3) a9))))),?_⟩
 walk_at "sim"
 exact⟨by omega,k⟩
theorem a9i(T:Txt K mg)(d:Df K mg "opposite" a1c ["one"]):Fn P w K mg base "opposite" 1 ["one"] a6m:=by
 have sc:=a8Z
 refine i4 d sc (fun ds M R Y h=>?_) (fun f cdv A outer s H E ds M R Y hr h=>?_)
 ·obtain⟨q,rfl,_⟩:=h;rfl
 ·obtain⟨q,rfl,k⟩:=h
  refine⟨_,(d5 (d7 (e9 (a7 (A9 (jx (a8 0) d3)) (a7 (jx (a8 0) d3) a9))))),?_⟩
  refine⟨_,rfl,_,rfl,_,rfl,_,rfl,_,rfl,sl 2,?_⟩
  have e:d9 (-q) = .tup [.int (-q.num),.int (q.den:Int)]:=by unfold d9;rw[d1M,d1N]
  rw[e]at k
  exact k
theorem a1Y(T:Txt K mg)(d:Df K mg "rounds_to_self" J2 ["table"])(c6h:Fn P w K mg base "opposite" 1 ["one"] a6m)(c5Z:Fn P w K mg base "t_of" 4 ["table"] a1C):Fn P w K mg base "rounds_to_self" 5 ["table"] b0h:=by
 have sc:=a1A
 refine i4 d sc (by walk_at "len") (fun f cdv A outer s H E ds M R Y hr h=>?_)
 have hu:=hr.units
 obtain⟨x,rfl,⟨a,b,c,d⟩,hx,cd,k⟩:=h
 have hx':x=a2e a b c d:=hx
 subst hx'
 refine⟨_,(d4 (g7 (jtm (E4 hu) (a8 0) (o8 rfl T.c_SELF)) (d5 (d7 d3)) f7) (d4 (g7 (jtm (E4 hu) (a8 0) (b2h c2B rfl T.b_tuple S2 (a7 (G9 [] ["entry"] [] rfl (by decide +kernel) rfl (by decide +kernel) (by decide +kernel) rfl a0S a0S (A1 (o8 rfl T.c_SELF)) (fun _ _ _ _ _ _=>(jn 0 (show(["entry"]:List Str).Nodup by decide +kernel))) (fun _ _ _ _ _ _=>A2) (fun _ _ _ _ _ _=>(jc c6h hr (a7 (a8 0) a9)))) a9))) (d5 (d7 d3)) f7) (d4 (jst 1 sc.nd (jc c5Z hr (a7 (a8 0) a9))) (d4 (g7 (jtm (E4 hu) (a8 1) (jc c6h hr (a7 (o8 rfl T.c_ONE) a9))) (d5 (d7 d3)) f7) (d4 (g7 (jtm (E4 hu) (a8 1) (o8 rfl T.c_NOUGHT)) (d5 (d7 d3)) f7) (d5 (d7 (a11 (jtm (E4 hu) (a8 1) (o8 rfl T.c_ONE)) d3 D8)))))))),?_⟩
 walk_at "sim"
 refine⟨fun e=>?_,fun e=>?_⟩
 ·have e:=a8L (m:=(a,b,c,d)) (k:=(1,0,0,1)) (@of_decide_eq_true _ (c9R _) e)
  unfold a1X at k
  rw[if_pos e]at k
  exact k
 ·have e1:¬ (a,b,c,d)=((1,0,0,1):Q4):=fun z=>@of_decide_eq_false _ (c9R _) e (congrArg F6 z)
  refine A6 (xs:=[1,0,0,1]) (enc:=d9) (fun q=>d9 (-q)) (by show 4≤1000;decide) (by simp only[C0]) (fun q hq Q hQ=>?_) ?_
  ·walk_at "sim"
   exact hQ
  ·walk_at "sim"
   unfold a1X at k
   rw[if_neg e1]at k
   refine⟨fun e=>?_,fun e=>⟨(a,b,c,d),rfl,cd,fun e3=>?_,fun e3=>⟨fun e4=>?_,fun e4=>⟨fun e5=>?_,fun e5=>?_⟩⟩⟩⟩
   ·have e:=a8L (m:=(a,b,c,d)) (k:=(-1,0,0,-1)) e
    rw[if_pos e]at k
    exact k
   ·have e2:¬ (a,b,c,d)=((-1,0,0,-1):Q4):=fun z=>e (congrArg F6 z)
    rw[if_neg e2,if_pos e3]at k
    exact k
   ·have e2:¬ (a,b,c,d)=((-1,0,0,-1):Q4):=fun z=>e (congrArg F6 z)
    rw[if_neg e2,if_neg e3,if_pos e4]at k
    exact k
   ·have e2:¬ (a,b,c,d)=((-1,0,0,-1):Q4):=fun z=>e (congrArg F6 z)
    rw[if_neg e2,if_neg e3,if_neg e4,if_pos e5]at k
    exact k
   ·have e2:¬ (a,b,c,d)=((-1,0,0,-1):Q4):=fun z=>e (congrArg F6 z)
    rw[if_neg e2,if_neg e3,if_neg e4,if_neg e5]at k
    exact k
theorem a9e(T:Txt K mg)(d:Df K mg "shown_by" a09 ["word","table","x","later"])(c6J:Fn P w K mg base "over" 3 ["one","other"] a2f)(c5Y:Fn P w K mg base "ratio" 2 ["top","bottom"] X6)(c6i:Fn P w K mg base "reach_by" 4 ["t","x","later"] a6p)(c5Z:Fn P w K mg base "t_of" 4 ["table"] a1C)(c5U:Fn P w K mg base "rounds_to_self" 5 ["table"] b0h):Fn P w K mg base "shown_by" 6 ["word","table","x","later"] a4e:=by
 have sc:=a8V
 refine i4 d sc (by walk_at "len") (fun f cdv A outer s H E ds M R Y hr h=>?_)
 have hu:=hr.units
 obtain⟨w',x,a,f',rfl,m,r,rfl,rfl,⟨cd,hd,hl,hx⟩,k⟩:=h
 have zt:sz (trQ m)≤231:=CD.tr cd
 have xf:sz a+sz f'≤4200:=hl.xf
 have body:¬ (a=0∧f'=0)→(kwS m=Str.ofString "same" → ∃ m_1,F6 m=F6 m_1∧CDQ 230 m_1∧R (D.tup [D.str (Str.ofString "round"),a1X m_1]) M)∧(¬ kwS m=Str.ofString "same" → (kwS m=Str.ofString "turns" → ∃ m_1,F6 m=F6 m_1∧CDQ 230 m_1∧(sz (trQ m_1)≤231∧-2<trQ m_1∧trQ m_1<2∧sz a+sz f'≤4200)∧∀(T B:Int),0<B→B.natAbs<2 ^ 8870→T.natAbs<2 ^ 17400→c9x T B=J3 (trQ m_1) a f'→B≠0∧B.natAbs.log2<9000∧R (D.tup [D.str (Str.ofString "reach"),d9 (c9x T B)]) M)∧(¬ kwS m=Str.ofString "turns" → a≠0∧sz f'+sz a≤8900∧R (D.tup [D.str (Str.ofString "kept"),d9 (f' / a)]) M)):=fun h0=>by
  unfold N3 at k
  rw[if_neg (show ¬ ((a,f',r).1=0∧(a,f',r).2.1=0)from h0)]at k
  rcases K7 m with⟨c1,e⟩|⟨c1,c2,e⟩|⟨c1,c2,c3,e⟩|⟨c1,c2,c3,e⟩
  ·rw[if_pos c1]at k
   refine⟨fun _=>⟨m,rfl,cd,?_⟩,fun h=>absurd e h⟩
   rw[a2n m c1];exact k
  ·have c3:¬ f6 (trQ m)<2:=by rw[c2];decide
   rw[if_neg c1,if_neg c3]at k
   rw[e]
   refine⟨fun h=>absurd h (by decide),fun _=>⟨fun h=>absurd h (by decide),fun _=>⟨fun z=>h0 ⟨z,hx c1 c3 z⟩,by omega,k⟩⟩⟩
  ·rw[if_neg c1,if_pos c3]at k
   rw[e]
   obtain⟨t1,t2⟩:=X5.mp c3
   refine⟨fun h=>absurd h (by decide),fun _=>⟨fun _=>⟨m,rfl,cd,⟨zt,t1,t2,xf⟩,fun T B b0 bB bT eT=>⟨by omega,c80 (F0 bB (by decide)) (by decide),?_⟩⟩,fun h=>absurd rfl h⟩⟩
   rw[eT];exact k
  ·rw[if_neg c1,if_neg c3]at k
   rw[e]
   refine⟨fun h=>absurd h (by decide),fun _=>⟨fun h=>absurd h (by decide),fun _=>⟨fun z=>h0 ⟨z,hx c1 c3 z⟩,by omega,k⟩⟩⟩
 refine⟨_,(d4 (g7 (D6 (a7O (jtm (E4 hu) (a8 2) (o8 rfl T.c_NOUGHT)) (a3p (jtm (E4 hu) (a8 3) (o8 rfl T.c_NOUGHT))))) (d5 (d7 (e9 (a7 i3 a9)))) f7) (d4 (g7 (jtm B2 (a8 0) i3) (d5 (d7 (e9 (a7 i3 (a7 (jc c5U hr (a7 (a8 1) a9)) a9))))) f7) (d4 (g7 (jtm B2 (a8 0) i3) (d4 (p9 (jc c6i hr (a7 (jc c5Z hr (a7 (a8 1) a9)) (a7 (a8 2) (a7 (a8 3) a9)))) (i0 (n:=2) rfl (d6 (jn 4 sc.nd) (d6 (jn 5 sc.nd) g9)))) (d5 (d7 (e9 (a7 i3 (a7 (jc c5Y hr (a7 (a8 4) (a7 (a8 5) a9))) a9)))))) f7) (d5 (d7 (e9 (a7 i3 (a7 (jc c6J hr (a7 (a8 3) (a7 (a8 2) a9))) a9)))))))),?_⟩
 walk_at "sim"
 refine⟨fun h1=>⟨fun h2=>?_,fun h2=>body fun z=>h2 z.2⟩,fun h1=>body fun z=>h1 z.1⟩
 unfold N3 at k
 rw[if_pos (show(a,f',r).1=0∧(a,f',r).2.1=0 from⟨h1,h2⟩)]at k
 exact k
theorem b8V(T:Txt K mg)(d:Df K mg "less" a64 ["one","other"]):Fn P w K mg base "less" 1 ["one","other"] a03:=by
 have sc:=b1P
 refine i4 d sc (fun ds M R Y h=>?_) (fun f cdv A outer s H E ds M R Y hr h=>?_)
 ·obtain⟨q,r,rfl,_⟩:=h;rfl
 ·obtain⟨q,r,rfl,hz,k⟩:=h
  refine⟨_,(d5 (d7 (jm a0P (g6 o6 (jx (a8 0) d3) (jx (a8 1) d3)) (g6 o6 (jx (a8 1) d3) (jx (a8 0) d3))))),?_⟩
  refine⟨_,rfl,_,rfl,_,rfl,_,rfl,_,_,rfl,rfl,mND hz,_,rfl,_,rfl,_,rfl,_,rfl,_,_,rfl,rfl,mND (by omega),_,rfl,?_⟩
  rw[← RM.c4f]at k
  exact k
theorem a9b(T:Txt K mg)(d:Df K mg "unsigned" a07 ["one"]):Fn P w K mg base "unsigned" 1 ["one"] a6n:=by
 have sc:=a8S
 refine i4 d sc (by walk_at "len") (fun f cdv A outer s H E ds M R Y hr h=>?_)
 have hu:=hr.units
 obtain⟨q,rfl,k⟩:=h
 refine⟨_,(d5 (d7 (e9 (a7 (p0 a0Z rfl T.b_abs R0 (a7 (jx (a8 0) d3) a9)) (a7 (jx (a8 0) d3) a9))))),?_⟩
 walk_at "sim"
 exact k
theorem a7B(T:Txt K mg)(d:Df K mg "kind_word" Z3 ["table"])(c6r:Fn P w K mg base "less" 1 ["one","other"] a03)(c6b:Fn P w K mg base "unsigned" 1 ["one"] a6n)(c5Z:Fn P w K mg base "t_of" 4 ["table"] a1C)(c5U:Fn P w K mg base "rounds_to_self" 5 ["table"] b0h):Fn P w K mg base "kind_word" 6 ["table"] sKw:=by
 have sc:=a6T
 refine i4 d sc (by walk_at "len") (fun f cdv A outer s H E ds M R Y hr h=>?_)
 have hu:=hr.units
 obtain⟨x,rfl,⟨a,b,c,d⟩,hx,cd,k⟩:=h
 have hx':x=a2e a b c d:=hx
 subst hx'
 have ht:sz (trQ (a,b,c,d))≤231:=CD.tr cd
 have hs:=GM.a02 (trQ (a,b,c,d))
 have z2:sz 2≤2:=by decide +kernel
 refine⟨_,(d4 (g7 (jtm a0F (jc c5U hr (a7 (a8 0) a9)) D8) (d5 (d7 i3)) f7) (d4 (jst 1 sc.nd (jc c6b hr (a7 (jc c5Z hr (a7 (a8 0) a9)) a9))) (d4 (g7 (jtm (E4 hu) (a8 1) (o8 rfl T.c_TWO)) (d5 (d7 i3)) f7) (d5 (d7 (a11 (u0 (jc c6r hr (a7 (a8 1) (a7 (o8 rfl T.c_TWO) a9)))) i3 i3)))))),?_⟩
 walk_at "sim"
 refine⟨(a,b,c,d),rfl,cd,?_⟩
 unfold kwS at k
 by_cases h1:u7 (a,b,c,d)
 ·rw[if_pos h1]at k
  obtain⟨n,e⟩:=b1S h1
  rw[e,a1v rfl]
  walk_at "sim"
  exact k
 ·rw[if_neg h1]at k
  rw[a7s h1,a1v rfl]
  walk_at "sim"
  refine⟨(a,b,c,d),rfl,cd,fun e=>?_,fun e=>⟨by omega,fun e2=>?_,fun e2=>?_⟩⟩
  ·rw[if_pos e]at k;exact k
  ·rw[if_neg e,if_pos e2]at k;exact k
  ·rw[if_neg e,if_neg e2]at k;exact k
theorem a5f(T:Txt K mg)(d:Df K mg "next_state" S9 ["t","state"]):Fn P w K mg base "next_state" 1 ["t","state"] a7i:=by
 have sc:=a4W
 refine i4 d sc (by walk_at "len") (fun f cdv A outer s H E ds M R Y hr h=>?_)
 have hu:=hr.units
 obtain⟨t,x,rfl,s,rfl,⟨ht,kk,b1,b2,b3,hk⟩,k⟩:=h
 have td:=t9 t ht
 have tn:=u4 t ht
 have td':(t.den:Int).natAbs<2 ^ 231:=by rw[c8V];exact td
 unfold stD at *
 refine⟨_,(d4 (p9 (a8 1) (i0 (n:=3) rfl (d6 (jn 2 sc.nd) (d6 (jn 3 sc.nd) (d6 (jn 4 sc.nd) g9))))) (d5 (d7 (e9 (a7 (a8 3) (a7 (g6 a1Z (g6 o6 (jx (a8 0) d3) (a8 3)) (g6 o6 (g6 o6 (jx (a8 0) d3) (jx (a8 0) d3)) (a8 2))) (a7 (g6 o6 (a8 4) (jx (a8 0) d3)) a9))))))),?_⟩
 walk_at "sim"
 exact⟨u5 _ _ tn b2 (by omega),u5 _ _ td' td' (by decide),u5 _ _ (e7 td' td') b1 (by omega),u5 _ _ b3 td' (by omega),k⟩
theorem a4y(T:Txt K mg)(d:Df K mg "first_state" Q6 ["t","x","later","r"])(c6o:Fn P w K mg base "tops_over" 1 ["ratios","bottom"] b5f)(c6e:Fn P w K mg base "common_bottom" 2 ["ratios"] b5j):Fn P w K mg base "first_state" 3 ["t","x","later","r"] a4m:=by
 have sc:=a39
 refine i4 d sc (by walk_at "len") (fun f cdv A outer s H E ds M R Y hr h=>?_)
 have hu:=hr.units
 obtain⟨t,x,f',r,rfl,⟨ht,hz,zx,zf,zr⟩,k⟩:=h
 have es:szs [x,f',r]=sz x+sz f'+sz r:=by unfold szs;simp only[c9F,d0e,d1Y,d2e];omega
 have td:=t9 t ht
 have td':(t.den:Int).natAbs<2 ^ 231:=by rw[c8V];exact td
 refine⟨_,(d4 (jst 4 sc.nd (e9 (a7 (a8 1) (a7 (a8 2) (a7 (a8 3) a9))))) (d4 (p9 (jc c6o hr (a7 (a8 4) (a7 (jc c6e hr (a7 (a8 4) a9)) a9))) (a4K (n:=3) rfl (d6 (jn 5 sc.nd) (d6 (jn 6 sc.nd) (d6 (jn 7 sc.nd) g9))))) (d5 (d7 (e9 (a7 (a8 5) (a7 (g6 o6 (a8 6) (jx (a8 0) d3)) (a7 (a8 7) a9)))))))),?_⟩
 walk_at "sim"
 refine⟨[x,f',r],.inl rfl,by omega,fun B B0 Bl hB _=>⟨[x,f',r],.inl rfl,⟨by show 3≤1000;decide,c85 Bl (c9j (by decide) (by omega)),B0,fun q hq=>⟨hB q hq,?_⟩⟩,?_⟩⟩
 ·have:=a23 hq;omega
 have Bb:B<2 ^ 8501:=c9e Bl (d0u (by decide) (by omega))
 obtain⟨o1,o2⟩:=K3 (hB x (by simp))
 obtain⟨p1,p2⟩:=K3 (hB f' (by simp))
 obtain⟨q1,q2⟩:=K3 (hB r (by simp))
 have n1:=c9e o2 (o7 (u4 x zx) Bb)
 have n2:=c9e p2 (o7 (u4 f' zf) Bb)
 have n3:=c9e q2 (o7 (u4 r zr) Bb)
 walk_at "sim"
 generalize x.num*(B:Int).fdiv (x.den:Int)=a at *
 generalize f'.num*(B:Int).fdiv (f'.den:Int)=b at *
 generalize r.num*(B:Int).fdiv (r.den:Int)=c at *
 refine⟨u5 _ _ n2 td' (by decide),?_⟩
 refine k (a,b*(t.den:Int),c) ⟨⟨B,B0,o1,?_,q1⟩,r9 n1 (by decide),r9 (e7 n2 td') (by decide),r9 n3 (by decide)⟩
 show((b*(t.den:Int):Int):Rat)=f'*((B:Rat)*(t.den:Rat))
 rw[c82,p1,c87];grind
theorem a4r(T:Txt K mg)(d:Df K mg "stop_within" P8 ["t","numbers","watched","rounds"])(c6U:Fn P w K mg base "next_state" 1 ["t","state"] a7i)(c6R:Fn P w K mg base "first_state" 3 ["t","x","later","r"] a4m):Fn P w K mg base "stop_within" 4 ["t","numbers","watched","rounds"] a7c:=by
 have sc:=a33
 refine i4 d sc (by walk_at "len") (fun f cdv A outer s H E ds M R Y hr h=>?_)
 have hu:=hr.units
 obtain⟨t,x,y,N,rfl,ls,ws,rfl,rfl,⟨ht,⟨hl,hw⟩,hN,hok,hk⟩,k⟩:=h
 have at':∀ j∈ws,∃ l,ls[j]? = some l∧ls.getD j (0,0,0)=l∧a2a l:=fun j hj=>by
  have h1:=c9d (hk j hj)
  exact⟨_,h1,by rw[c9D,h1];rfl,hok _ (c81 h1)⟩
 have bA:∀ j∈ws,∀ n,y4 t ls j n=decide (A7 t (ls.getD j (0,0,0)) n):=fun j hj n=>by
  obtain⟨l,h1,h2,_⟩:=at' j hj
  unfold y4;rw[h1,h2]
 refine⟨_,(d4 (E7 (i:=4) [0] ["x","later","r"] ["t"] sc.nd rfl (Or.inl rfl) rfl (by decide +kernel) rfl (by decide +kernel) (by decide +kernel) rfl (a18 ⟨rfl,rfl⟩) (a18 (Or.inl rfl)) (A1 (G9 [1] ["k"] ["numbers"] rfl (by decide +kernel) rfl (by decide +kernel) (by decide +kernel) rfl (a18 ⟨rfl,rfl⟩) (a18 (Or.inl rfl)) (A1 (a8 2)) (fun _ _ _ _ _ _=>(jn 0 (show(["k","numbers"]:List Str).Nodup by decide +kernel))) (fun _ _ _ _ _ _=>A2) (fun _ _ _ _ _ _=>(jx (a8 1) (a8 0))))) (fun _ _ _ _ _ _=>(i0 (n:=3) rfl (d6 (jn 0 (show(["x","later","r","t"]:List Str).Nodup by decide +kernel)) (d6 (jn 1 (show(["x","later","r","t"]:List Str).Nodup by decide +kernel)) (d6 (jn 2 (show(["x","later","r","t"]:List Str).Nodup by decide +kernel)) g9))))) (fun _ _ _ _ _ _=>A2) (fun _ _ _ _ _ _=>(jc c6R hr (a7 (a8 3) (a7 (a8 0) (a7 (a8 1) (a7 (a8 2) a9))))))) (d4 (u8 PassesOwn.never rfl (P2 rfl T.b_range (a7 (a8 3) a9)) (jn 5 sc.nd) (d4 (u8 PassesOwn.never rfl (a7K rfl T.b_zip (a7 (a8 2) (a7 (a8 4) a9))) (i0 (n:=2) rfl (d6 (jn 6 sc.nd) (d6 (jn 7 sc.nd) g9))) (d5 (g7 (jtm a5y (p0 a0Z rfl T.b_abs R0 (a7 (jx (a8 7) d3) a9)) (jx (a8 7) d3)) (d5 (d7 (e9 (a7 (a8 5) (a7 (a8 6) a9))))) f7))) (d5 (E7 (i:=4) [0] ["state"] ["t"] sc.nd rfl (Or.inl rfl) rfl (by decide +kernel) rfl (by decide +kernel) (by decide +kernel) rfl (a18 ⟨rfl,rfl⟩) (a18 (Or.inl rfl)) (A1 (a8 4)) (fun _ _ _ _ _ _=>(jn 0 (show(["state","t"]:List Str).Nodup by decide +kernel))) (fun _ _ _ _ _ _=>A2) (fun _ _ _ _ _ _=>(jc c6U hr (a7 (a8 1) (a7 (a8 0) a9)))))))) (d5 (d7 D8)))),?_⟩
 walk_at "sim"
 refine A6 (xs:=ws) (enc:=fun k:Nat=>D.int (k:Int)) (fun k=>p5 (ls.getD k (0,0,0))) (by omega) (by simp only[o9]) (fun j hj Q hQ=>?_) ?_
 ·obtain⟨l,h1,h2,_⟩:=at' j hj
  walk_at "sim"
  exact⟨_,y3 (n:=j) (by rw[c83,h1,h2];rfl),hQ⟩
 walk_at "sim"
 refine b6N stD (fun i s=>∃ k,ws[i]? = some k∧a5F t (ls.getD k (0,0,0)) 0 s) (by rw[c8Y];omega) (by simp only[o9]) (fun i d hd Q hQ=>?_) (fun ss hlen hss=>?_)
 ·rw[c83]at hd
  obtain⟨j,hj,rfl⟩:=c9o.mp hd
  obtain⟨l,h1,h2,h3⟩:=at' j (c81 hj)
  rw[h2]
  walk_at "sim"
  have:=h3.xf;have:=h3.x;have:=h3.f;have:=h3.r
  exact⟨⟨ht,by omega,by omega,by omega,by omega⟩,fun s hs=>hQ s ⟨j,hj,by rw[h2];exact hs⟩⟩
 rw[c8Y]at hlen
 refine⟨⟨by omega,by omega⟩,?_⟩
 rw[c9X]
 refine O5.by (fun i e M'=>M'=M∧∃(ss:List (Int × Int × Int)) (z5 z6 z7:Option D),e=[some (d9 t),some (.vl (ls.map p5)),some (.vl (ws.map fun k:Nat=>D.int (k:Int))),some (.int (N:Int)),some (.vl (ss.map stD)),z5,z6,z7]∧ss.length=ws.length∧(∀ j s,ss[j]? = some s→∃ k,ws[j]? = some k∧a5F t (ls.getD k (0,0,0)) i s)∧∀ n,n<i→∀ k∈ws,y4 t ls k n=false) ⟨rfl,ss,_,_,_,rfl,hlen,hss,fun n hn=>absurd hn (by omega)⟩ (fun _ _ _ _ _=>trivial) ?_ ?_
 ·rintro i dd e M' hd ⟨rfl,ss,z5,z6,z7,rfl,hlen,hss,hno⟩
  obtain⟨hi,rfl⟩:=a2p hd
  rw[show(0:Int)+(i:Int)=(i:Int)by omega]
  walk_at "sim"
  refine O5.by (fun j e M''=>M''=M'∧∃(z6 z7:Option D),e=[some (d9 t),some (.vl (ls.map p5)),some (.vl (ws.map fun k:Nat=>D.int (k:Int))),some (.int (N:Int)),some (.vl (ss.map stD)),some (.int (i:Int)),z6,z7]∧∀ j',j'<j→∀ k',ws[j']? = some k'→y4 t ls k' i=false) ⟨rfl,_,_,rfl,fun j hj=>absurd hj (by omega)⟩ (fun _ _ _ _ _=>by simp only[o9,and_self]) ?_ ?_
  ·rintro j dd e M'' hd2 ⟨rfl,z6,z7,rfl,hn2⟩
   obtain⟨k',s',rfl,hkj,hsj⟩:∃(k':Nat) (s':Int × Int × Int),dd = .tup [.int (k':Int),stD s']∧ws[j]? = some k'∧ss[j]? = some s':=by
    unfold Y1 at hd2
    rw[c95,c83,c83]at hd2
    cases h1:ws[j]? with
    | none=>rw[h1]at hd2;simp at hd2
    | some a =>
     cases h2:ss[j]? with
     | none=>rw[h1,h2]at hd2;simp at hd2
     | some b=>rw[h1,h2]at hd2;exact⟨a,b,(Option.some.inj hd2).symm,rfl,rfl⟩
   obtain⟨k2,hk2,hst⟩:=hss j s' hsj
   obtain rfl:k'=k2:=by rw[hkj]at hk2;exact Option.some.inj hk2
   have hb:=hst.bey
   have hbA:=bA k' (c81 hkj) i
   unfold stD
   walk_at "sim"
   refine⟨fun h1=>?_,fun h1=>⟨_,_,rfl,fun j' hj' k3 hk3=>?_⟩⟩
   ·rw[a90 hi hkj (by rw[hbA];exact decide_eq_true (hb.mp h1)) hno hn2]at k
    exact k
   ·rcases c93 j' j with z|z
    ·exact hn2 j' z k3 hk3
    ·have:j'=j:=by omega
     subst this
     rw[hkj]at hk3
     obtain rfl:=Option.some.inj hk3
     rw[hbA];exact decide_eq_false fun z=>h1 (hb.mpr z)
  ·rintro e M'' ⟨rfl,z6,z7,rfl,hn2⟩
   have hzl:(Y1 (ws.map fun k:Nat=>D.int (k:Int)) (ss.map stD)).length=ws.length:=by rw[X9,c8Y,c8Y];omega
   rw[hzl]at hn2
   walk_at "sim"
   refine A6 (xs:=ss) (enc:=stD) (fun s=>stD (s.2.1,t.num*s.2.1 - (t.den:Int)*(t.den:Int)*s.1,s.2.2*(t.den:Int))) (by omega) (by simp only[o9]) (fun s hs Q hQ=>?_) ?_
   ·obtain⟨j,hj⟩:=c9G hs
    obtain⟨k2,hk2,hst⟩:=hss j s hj
    walk_at "sim"
    exact⟨s,rfl,⟨ht,12000+470*i,hst.b1,hst.b2,hst.b3,by omega⟩,hQ⟩
   ·walk_at "sim"
    refine⟨ss.map fun s=>(s.2.1,t.num*s.2.1 - (t.den:Int)*(t.den:Int)*s.1,s.2.2*(t.den:Int)),some (.int (i:Int)),z6,z7,by rw[c9N];rfl,by rw[c8Y];exact hlen,fun j s hs=>?_,fun n hn k3 hk3=>?_⟩
    ·rw[c83]at hs
     obtain⟨s0,hs0,rfl⟩:=c9o.mp hs
     obtain⟨k2,hk2,hst⟩:=hss j s0 hs0
     exact⟨k2,hk2,hst.next ht⟩
    ·rcases c93 n i with z|z
     ·exact hno n z k3 hk3
     ·have:n=i:=by omega
      subst this
      obtain⟨j,hj⟩:=c9G hk3
      exact hn2 j (c8W.mp hj).1 k3 hj
 ·rw[p7]
  rintro e M' ⟨rfl,ss,z5,z6,z7,rfl,hlen,hss,hno⟩
  walk_at "sim"
  rw[a3Z hno]at k
  exact k
theorem a2r(T:Txt K mg)(d:Df K mg "sheared_round" K9 ["t","x","later","r"])(c6o:Fn P w K mg base "tops_over" 1 ["ratios","bottom"] b5f)(c6e:Fn P w K mg base "common_bottom" 2 ["ratios"] b5j):Fn P w K mg base "sheared_round" 3 ["t","x","later","r"] b0f:=by
 have sc:=a2i
 refine i4 d sc (by walk_at "len") (fun f cdv A outer s H E ds M R Y hr h=>?_)
 have hu:=hr.units
 obtain⟨t,x,f',r,rfl,⟨ht,hl,h0,hw⟩,k⟩:=h
 have es:szs [x,f',r]=sz x+sz f'+sz r:=by unfold szs;simp only[c9F,d0e,d1Y,d2e];omega
 have zx:sz x≤3000:=hl.x
 have zf:sz f'≤3000:=hl.f
 have zr:sz r≤3000:=hl.r
 have xf:sz x+sz f'≤4200:=hl.xf
 have tp:(0<t.num)↔0<t:=by
  constructor
  ·intro h
   rw[d12];simpa using h
  ·exact a7I
 refine⟨_,(d4 (jst 4 sc.nd (e9 (a7 (a8 1) (a7 (a8 2) (a7 (a8 3) a9))))) (d4 (p9 (jc c6o hr (a7 (a8 4) (a7 (jc c6e hr (a7 (a8 4) a9)) a9))) (a4K (n:=3) rfl (d6 (jn 5 sc.nd) (d6 (jn 6 sc.nd) (d6 (jn 7 sc.nd) g9))))) (d4 (jst 8 sc.nd (g6 a1Z (a11 (jtm a5y (jx (a8 0) d3) d3) (a8 6) (A9 (a8 6))) (a8 5))) (d4 (jst 9 sc.nd (a11 (jtm a5y (a8 8) d3) (g6 a1Z (a8 7) (a8 5)) (g6 F1 (a8 7) (a8 5)))) (d5 (d7 (g6 F1 (g6 E9 (a8 9) (p0 a0Z rfl T.b_abs R0 (a7 (a8 8) a9))) d3))))))),?_⟩
 walk_at "sim"
 refine⟨[x,f',r],.inl rfl,by omega,fun B B0 Bl hB hBp=>⟨[x,f',r],.inl rfl,⟨by show 3≤1000;decide,c85 Bl (c9j (by decide) (by omega)),B0,fun q hq=>⟨hB q hq,?_⟩⟩,?_⟩⟩
 ·have:=a23 hq;omega
 obtain⟨o1,o2⟩:=K3 (hB x (by simp))
 obtain⟨p1,p2⟩:=K3 (hB f' (by simp))
 obtain⟨q1,q2⟩:=K3 (hB r (by simp))
 have hBp:B ∣ x.den*(f'.den*r.den):=by simpa using hBp
 have o3:(x.num*(B:Int).fdiv (x.den:Int)).natAbs<2 ^ 8000:=b1I (hB x (by simp)) hBp (L4 x) (d0G f'.den_pos r.den_pos) (o7 (t9 f' (c9b _)) (t9 r (c9b _))) (by omega)
 have p3:(f'.num*(B:Int).fdiv (f'.den:Int)).natAbs<2 ^ 8000:=b1I (hB f' (by simp)) (by rw[d1c]at hBp;exact hBp) (L4 f') (d0G x.den_pos r.den_pos) (o7 (t9 x (c9b _)) (t9 r (c9b _))) (by omega)
 have hdn:=a94 ht hw
 have B0':(0:Rat)<(B:Rat):=by exact_mod_cast B0
 walk_at "sim"
 generalize x.num*(B:Int).fdiv (x.den:Int)=a at *
 generalize f'.num*(B:Int).fdiv (f'.den:Int)=b at *
 generalize r.num*(B:Int).fdiv (r.den:Int)=c at *
 have fin:∀ bb:Int,bb.natAbs<2 ^ 8000→(bb:Rat)=(if 0<t then f' else -f')*(B:Rat)→∀ g:Int,g=(if 0<bb - a then c - a else c+a)→CFd g (((bb - a).natAbs:Nat):Int)∧R (.int (g.fdiv (((bb - a).natAbs:Nat):Int)+1)) M:=fun bb hbb ebb g hg=>by
  generalize hd:(if 0<t then f' else -f') - x=d at *
  have es2:((bb - a:Int):Rat)=d*(B:Rat):=by rw[d0r,ebb,o1,← hd];grind
  have sp:(0<bb - a)↔0<d:=by
   have e1:(0<bb - a)↔(0:Rat)<((bb - a:Int):Rat):=by exact_mod_cast Iff.rfl
   rw[e1,es2]
   constructor
   ·intro z
    apply c9a
    intro nz
    have:=c9s (a:=-d) (b:=(B:Rat)) (by grind) (by grind)
    grind
   ·intro z;exact c9L z B0'
  have sne:bb - a≠0:=fun z=>by
   rw[z]at es2
   have es2:(0:Rat)=d*(B:Rat):=es2
   rcases c9A.mp es2.symm with z|z
   ·exact hdn z
   ·rw[z]at B0';exact absurd B0' (by decide)
  have sl:(bb - a).natAbs<2 ^ 8001:=Y5 hbb o3
  have sz1:(((bb - a).natAbs:Nat):Rat)=f6 d*(B:Rat):=by
   rw[← b2D,es2,O4,show f6 (B:Rat)=(B:Rat)by unfold f6;rw[if_pos (by grind)]]
  have hgq:(g:Rat)=(if 0<d then r - x else r+x)*(B:Rat):=by
   rw[hg]
   by_cases h:0<d
   ·rw[if_pos (sp.mpr h),if_pos h,d0r,q1,o1];grind
   ·rw[if_neg (fun z=>h (sp.mp z)),if_neg h,c96,q1,o1];grind
  have xr:x≤r∧-r≤x:=by
   unfold f6 at h0;split at h0<;>exact⟨by grind,by grind⟩
  have g0:0≤g:=by
   have:(0:Rat)≤(g:Rat):=by
    rw[hgq]
    refine c9s ?_ (by grind)
    split<;>grind
   exact_mod_cast this
  obtain⟨G,rfl⟩:∃ G:Nat,g=(G:Int):=⟨g.toNat,by omega⟩
  generalize hS:(bb - a).natAbs=Sn at *
  have S0:0<Sn:=by omega
  refine⟨⟨by omega,by rw[c8V];exact c80 (F0 sl (by decide)) (by decide)⟩,?_⟩
  rw[K2 (by omega) (by omega)]
  have eN:((G:Int) / (Sn:Int))+1=((G / Sn+1:Nat):Int):=by norm_cast
  rw[eN]
  have d1:G / Sn*Sn≤G:=Nat.div_mul_le_self G Sn
  have d2:G<(G / Sn+1)*Sn:=by rw[d1S,Nat.one_mul];exact Nat.lt_div_mul_add S0
  generalize G / Sn=N at *
  have f1:(N:Rat)*(Sn:Rat)≤(G:Rat):=by exact_mod_cast d1
  have f2:(G:Rat)<((N:Rat)+1)*(Sn:Rat):=by exact_mod_cast d2
  have hgq:(G:Rat)=(if 0<d then r - x else r+x)*(B:Rat):=hgq
  rw[sz1,hgq]at f1 f2
  obtain⟨k1,k2⟩:=a8R (f:=f') (N:=N) ht h0 hd.symm hdn rfl (by
   apply c9a
   intro nz
   have:=c9L (a:=(N:Rat)*f6 d - (if 0<d then r - x else r+x)) (b:=(B:Rat)) (by grind) B0'
   grind) (by
   apply c9a
   intro nz
   have:=c9s (a:=(if 0<d then r - x else r+x) - ((N:Rat)+1)*f6 d) (b:=(B:Rat)) (by grind) (by grind)
   grind)
  exact k _ k1 k2
 refine⟨fun h=>?_,fun h=>?_⟩
 ·have:=fin b p3 (by rw[if_pos (tp.mp h)];exact p1)
  exact⟨fun h2=>this _ (by rw[if_pos h2]),fun h2=>this _ (by rw[if_neg h2])⟩
 ·have:=fin (-b) (by rw[d0c];exact p3) (by rw[if_neg (fun z=>h (tp.mpr z)),d1A,p1];grind)
  exact⟨fun h2=>this _ (by rw[if_pos h2]),fun h2=>this _ (by rw[if_neg h2])⟩
theorem a2s(T:Txt K mg)(d:Df K mg "first_sheared" L0 ["t","numbers","late"])(c6K:Fn P w K mg base "sheared_round" 3 ["t","x","later","r"] b0f):Fn P w K mg base "first_sheared" 4 ["t","numbers","late"] c1i:=by
 have sc:=a2j
 refine i4 d sc (by walk_at "len") (fun f cdv A outer s H E ds M R Y hr h=>?_)
 have hu:=hr.units
 obtain⟨t,x,y,rfl,ls,ws,rfl,rfl,⟨ht,⟨hl,hwl⟩,hok,hk⟩,k0,k⟩:=h
 refine⟨_,(d4 (jst 3 sc.nd (W4 a9)) (d4 (u8 PassesOwn.never rfl (A1 (a8 2)) (jn 4 sc.nd) (d4 (p9 (jx (a8 1) (a8 4)) (i0 (n:=3) rfl (d6 (jn 5 sc.nd) (d6 (jn 6 sc.nd) (d6 (jn 7 sc.nd) g9))))) (d5 (C2 (R8 PySem.F.slot_list_append PySem.F.type_list_append C4 (a8 3) (a7 (e9 (a7 (jc c6K hr (a7 (a8 0) (a7 (a8 5) (a7 (a8 6) (a7 (a8 7) a9))))) (a7 (a8 4) a9))) a9)))))) (d5 (d7 (L5 (b2g hu rfl rfl T.b_min b6V (a7 (G8 (a8 3)) a9))))))),?_⟩
 walk_at "sim"
 intro p hp
 refine O5.by (fun i e M'=>∃(ps:List (Int × Int)) (z4 z5 z6 z7:Option D),e=[some (d9 t),some (D.vl (ls.map p5)),some (D.vl (ws.map fun k:Nat=>D.int (k:Int))),some (.ref p),z4,z5,z6,z7]∧M'=B9 M p (.lst (ps.map a2q))∧ps.length=i∧∀(j:Nat) (q:Int × Int),ps[j]? = some q→∃(N k:Nat) (l:Rat × Rat × Rat),q=((N:Int),(k:Int))∧ws[j]? = some k∧ls[k]? = some l∧A7 t l N∧∀ n,n<N→¬ A7 t l n) ⟨[],_,_,_,_,rfl,rfl,rfl,fun j q h=>by simp at h⟩ (fun _ _ _ _ _=>by simp only[o9]) ?_ ?_
 ·rintro i dd e M' hd ⟨ps,z4,z5,z6,z7,rfl,rfl,hpl,hps⟩
  rw[c83]at hd
  obtain⟨k1,hk1,rfl⟩:=c9o.mp hd
  obtain⟨l,hl1,hsw⟩:=hk k1 (c81 hk1)
  obtain⟨ok,h0⟩:=hok l (c81 hl1)
  have hi:=(c8W.mp hk1).1
  walk_at "sim"
  refine⟨p5 l,y3 (n:=k1) (by rw[c83,hl1];rfl),?_⟩
  walk_at "sim"
  refine J8 h8 ⟨⟨ht,ok,h0,hsw⟩,fun N b1 b2=>?_⟩
  walk_at "sim"
  refine O6 h8 (by rw[c8Y];omega) ⟨ps++[((N:Int),(k1:Int))],_,_,_,_,rfl,?_,by rw[c9h,hpl];rfl,fun j q hq=>?_⟩
  ·rw[Y4,c9f];rfl
  ·rcases c93 j ps.length with z|z
   ·rw[d0v z]at hq;exact hps j q hq
   ·rw[d0t z]at hq
    have hj:j - ps.length=0:=by
     have:=(c8W.mp hq).1
     simp at this;omega
    rw[hj]at hq
    have e5:q=((N:Int),(k1:Int)):=by simpa using hq.symm
    exact⟨N,k1,l,e5,by rw[show j=i by omega];exact hk1,hl1,b1,b2⟩
 ·rintro e M' ⟨ps,z4,z5,z6,z7,rfl,rfl,hpl,hps⟩
  rw[c8Y]at hpl
  walk_at "sim"
  rw[P7 h8,J1 hp]
  walk_at "sim"
  refine b4w.mpr ⟨fun z=>J9 (M2:=M) (fun _ _ h=>h) (k0 (d0P (by rw[z]at hpl;exact hpl.symm))),fun q hq hm=>J9 (M2:=M) (fun _ _ h=>h) ?_⟩
  obtain⟨j,hj⟩:=c9G hq
  obtain⟨N,k1,l,rfl,hw1,hl1,b1,b2⟩:=hps j q hj
  have of:∀ k'∈ws,∃(N':Nat) (l':Rat × Rat × Rat),((N':Int),(k':Int))∈ps∧ls[k']? = some l'∧∀ n,n<N'→¬ A7 t l' n:=fun k' hk'=>by
   obtain⟨j',hj'⟩:=c9G hk'
   have hlt:j'<ps.length:=by rw[hpl];exact(c8W.mp hj').1
   have hq':=c9d hlt
   obtain⟨N',k2,l',e5,hw2,hl2,_,b4⟩:=hps j' _ hq'
   rw[hj']at hw2
   obtain rfl:=Option.some.inj hw2
   exact⟨N',l',by rw[← e5];exact d2h hlt,hl2,b4⟩
  refine k N k1 (c81 hw1) (P4.mpr ⟨l,hl1,b1⟩) (fun n' hn k' hk'=>?_) (fun k' hk' hlt=>?_)
  ·obtain⟨N',l',hm',hl',b4⟩:=of k' hk'
   have:=hm _ hm'
   refine P5.mpr fun l2 e2=>?_
   rw[hl']at e2
   obtain rfl:=Option.some.inj e2
   exact b4 n' (by omega)
  ·obtain⟨N',l',hm',hl',b4⟩:=of k' hk'
   have:=hm _ hm'
   refine P5.mpr fun l2 e2=>?_
   rw[hl']at e2
   obtain rfl:=Option.some.inj e2
   exact b4 N (by omega)
theorem a5m(T:Txt K mg)(d:Df K mg "first_stop" U0 ["table","numbers","late"])(c6k:Fn P w K mg base "stop_within" 4 ["t","numbers","watched","rounds"] a7c)(c6L:Fn P w K mg base "first_sheared" 4 ["t","numbers","late"] c1i)(c5U:Fn P w K mg base "rounds_to_self" 5 ["table"] b0h)(c5X:Fn P w K mg base "kind_word" 6 ["table"] sKw)(c5Z:Fn P w K mg base "t_of" 4 ["table"] a1C)(c6r:Fn P w K mg base "less" 1 ["one","other"] a03)(c6b:Fn P w K mg base "unsigned" 1 ["one"] a6n):Fn P w K mg base "first_stop" 7 ["table","numbers","late"] b0p:=by
 have sc:=a43
 refine i4 d sc (by walk_at "len") (fun f cdv A outer s H E ds M R Y hr h=>?_)
 have hu:=hr.units
 obtain⟨x,y,z,rfl,m,ls,rfl,rfl,rfl,⟨cd,hd,hl,hok⟩,k⟩:=h
 have zt:sz (trQ m)≤231:=CD.tr cd
 refine⟨_,(d4 (u8 PassesOwn.never rfl (R7 rfl T.b_enumerate (a7 (a8 1) a9)) (i0 (n:=2) rfl (d6 (jn 3 sc.nd) (d6 (i0 (n:=3) rfl (d6 (jn 4 sc.nd) (d6 (jn 5 sc.nd) (d6 (jn 6 sc.nd) g9)))) g9))) (d5 (g7 (u0 (jc c6r hr (a7 (a8 6) (a7 (jc c6b hr (a7 (a8 4) a9)) a9)))) (d5 (d7 (e9 (a7 d3 (a7 (a8 3) a9))))) f7))) (d4 (jst 7 sc.nd (jc c5Z hr (a7 (a8 0) a9))) (d4 (jst 8 sc.nd (jc c5X hr (a7 (a8 0) a9))) (d4 (g7 (jtm B2 (a8 8) i3) (d5 (d7 (jc c6k hr (a7 (a8 7) (a7 (a8 1) (a7 (a7N rfl rfl T.b_list a3s rfl T.b_range (a7 (p0 F3 rfl T.b_len B7 (a7 (a8 1) a9)) a9)) (a7 (jc c5U hr (a7 (a8 0) a9)) a9))))))) f7) (d4 (g7 (jtm B2 (a8 8) i3) (d5 (d7 (jc c6L hr (a7 (a8 7) (a7 (a8 1) (a7 (a8 2) a9)))))) f7) (d5 (d7 (jc c6k hr (a7 (a8 7) (a7 (a8 1) (a7 (a8 2) (a7 (o8 rfl T.c_FIRST_ROUNDS) a9)))))))))))),?_⟩
 walk_at "sim"
 rw[a7V]
 refine O5.by (fun i e M'=>M'=M∧(∃ z3 z4 z5 z6 z7 z8:Option D,e=[some (F6 m),some (D.vl (ls.map p5)),some (D.vl ((A8 m ls).map fun k:Nat=>D.int (k:Int))),z3,z4,z5,z6,z7,z8])∧∀(j:Nat) l,j<i→ls[j]? = some l→¬ l.2.2<f6 l.1) ⟨rfl,⟨_,_,_,_,_,_,rfl⟩,fun j l h=>absurd h (by omega)⟩ (fun _ _ _ _ _=>by simp only[o9]) ?_ ?_
 ·rintro i dd e M' hd2 ⟨rfl,⟨z3,z4,z5,z6,z7,z8,rfl⟩,hno⟩
  rw[c83]at hd2
  obtain⟨zz,hz,rfl⟩:=c9o.mp hd2
  obtain⟨l,rfl,hli⟩:∃ l,zz=(l,i)∧ls[i]? = some l:=by
   rw[d1G]at hz
   obtain⟨l,hl1,e5⟩:=c9o.mp hz
   exact⟨l,by rw[← e5];simp,hl1⟩
  have ok:=(hok l (c81 hli)).1
  have:=ok.x;have:=ok.r
  have ax:=a02 l.1
  walk_at "sim"
  refine⟨by omega,fun h1=>?_,fun h1=>⟨⟨_,_,_,_,_,_,rfl⟩,fun j l' hj hl'=>?_⟩⟩
  ·refine k (some (0,i)) ⟨P4.mpr ⟨l,hli,h1⟩,fun n hn=>absurd hn (by omega),fun j hj=>P5.mpr fun l' hl'=>hno j l' hj hl',.inr (by show 0<60;decide)⟩
  ·rcases c93 j i with z|z
   ·exact hno j l' z hl'
   ·have:j=i:=by omega
    subst this
    rw[hli]at hl'
    obtain rfl:=Option.some.inj hl'
    exact h1
 ·rw[c8Y,c9C]
  rintro e M' ⟨rfl,⟨z3,z4,z5,z6,z7,z8,rfl⟩,hno⟩
  have h0:∀ l∈ls,¬ l.2.2<f6 l.1:=fun l hl=>by
   obtain⟨j,hj⟩:=c9G hl
   exact hno j l (c8W.mp hj).1 hj
  have stays:¬ u7 m→∀ j,j∉A8 m ls→∀ n,y4 (trQ m) ls j n=false:=fun hs j hj n=>P5.mpr fun l hl=>by
   have lm:=c81 hl
   refine a1l hs (hok l lm).1.p ?_ (h0 l lm) n
   cases e:p8 m l.1 l.2.1 l.2.2 with
   | false=>rfl
   | true=>exact absurd (R6.mpr ⟨l,hl,e⟩) hj
  have lk:∀ j∈A8 m ls,j<ls.length:=fun j hj=>by
   obtain⟨l,h1,_⟩:=R6.mp hj
   exact(c8W.mp h1).1
  have ll:(A8 m ls).length≤40:=by
   unfold A8
   rw[c8Y]
   have:=d0q (fun z:(Rat × Rat × Rat) × Nat=>p8 m z.1.1 z.1.2.1 z.1.2.2) ls.zipIdx
   rw[c9C]at this;omega
  walk_at "sim"
  refine⟨m,rfl,cd,m,rfl,cd,fun hsm=>?_,fun hsm=>⟨fun hsh=>?_,fun hsh=>?_⟩⟩
  ·have hs:u7 m:=by
    rcases K7 m with⟨c1,_⟩|⟨_,_,e⟩|⟨_,_,_,e⟩|⟨_,_,_,e⟩
    ·exact c1
    ·rw[e]at hsm;exact absurd hsm (by decide)
    ·rw[e]at hsm;exact absurd hsm (by decide)
    ·rw[e]at hsm;exact absurd hsm (by decide)
   have rt6:rtN m≤6:=by
    unfold rtN;repeat' split
    all_goals decide
   rw[c5c]
   walk_at "sim"
   refine⟨ls.length,by rw[c8Y],by omega,m,rfl,cd,?_⟩
   rw[a2n m hs]
   refine(Y3 (N:=rtN m)).mpr ⟨ls,c9H ls.length,rfl,rfl,⟨zt,⟨hl,by rw[d1d];exact hl⟩,by omega,fun l h=>(hok l h).1,fun j hj=>c9Q.mp hj⟩,?_⟩
   have rg:∀{j:Nat},j<ls.length→(c9H ls.length)[j]? = some j:=fun{j} hj=>by rw[List.getElem?_range hj]
   have out:∀{j n:Nat},¬ j<ls.length→y4 (trQ m) ls j n=false:=fun{j n} hj=>P5.mpr fun l e5=>absurd (c8W.mp e5).1 hj
   cases e:M9 (trQ m) ls (c9H ls.length) (rtN m)with
   | none =>
    have inv:=Y8 e
    refine k none fun n j _=>P5.mpr fun l hl5=>?_
    have lm:=c81 hl5
    have jl:=(c8W.mp hl5).1
    exact a4c hd hs (hok l lm).2 (fun n5 hn5=>P5.mp (inv n5 hn5 j (c9Q.mpr jl)) l hl5) n
   | some z =>
    obtain⟨h1,⟨i5,h2,h3⟩,h4,h5⟩:=Y7 e
    have ei:i5=z.2∧i5<ls.length:=by
     have hlt:=(c8W.mp h2).1
     rw[d1d]at hlt
     rw[rg hlt]at h2
     exact⟨Option.some.inj h2,hlt⟩
    refine k (some z) ⟨h4,fun n hn j=>?_,fun j hj=>?_,.inl (.inl hs)⟩
    ·by_cases hj:j<ls.length
     ·exact h5 n hn j (c9Q.mpr hj)
     ·exact out hj
    ·by_cases hj2:j<ls.length
     ·exact h3 j (by omega) j (rg hj2)
     ·exact out hj2
  ·obtain⟨hs,h2⟩:¬ u7 m∧f6 (trQ m)=2:=by
    rcases K7 m with⟨_,e⟩|⟨c1,c2,_⟩|⟨_,_,_,e⟩|⟨_,_,_,e⟩
    ·exact absurd e hsm
    ·exact⟨c1,c2⟩
    ·rw[e]at hsh;exact absurd hsh (by decide)
    ·rw[e]at hsh;exact absurd hsh (by decide)
   have st:=stays hs
   have h3:¬ f6 (trQ m)<2:=by rw[h2];decide
   refine⟨ls,A8 m ls,rfl,rfl,⟨h2,⟨hl,ll⟩,fun l h=>⟨(hok l h).1,h0 l h⟩,fun j hj=>?_⟩,fun hn=>?_,fun n j hj b1 b2 b3=>?_⟩
   ·obtain⟨l,e1,e2⟩:=R6.mp hj
    refine⟨l,e1,fun z=>?_⟩
    unfold p8 at e2
    rw[if_neg hs,if_neg h3,if_neg (fun w=>w z),if_pos h2]at e2
    cases e2
   ·refine k none fun n j _=>st j (fun z=>?_) n
    rw[hn]at z;cases z
   ·refine k (some (n,j)) ⟨b1,fun n' hn' j'=>?_,fun j' hj'=>?_,.inl (.inr h2)⟩
    ·by_cases z:j'∈A8 m ls
     ·exact b2 n' hn' j' z
     ·exact st j' z n'
    ·by_cases z:j'∈A8 m ls
     ·exact b3 j' z hj'
     ·exact st j' z n
  ·obtain⟨hs,hnr⟩:¬ u7 m∧¬ a6t m:=by
    rcases K7 m with⟨_,e⟩|⟨_,_,e⟩|⟨c1,c2,_⟩|⟨c1,c2,_⟩
    ·exact absurd e hsm
    ·exact absurd e hsh
    ·exact⟨c1,fun z=>z.elim c1 c2⟩
    ·exact⟨c1,fun z=>z.elim c1 c2⟩
   have st:=stays hs
   refine(Y3 (N:=60)).mpr ⟨ls,A8 m ls,rfl,rfl,⟨zt,⟨hl,ll⟩,by decide,fun l h=>(hok l h).1,lk⟩,?_⟩
   have asc:∀{i j a b:Nat},(A8 m ls)[i]? = some a→(A8 m ls)[j]? = some b→a<b→i<j:=b6a
   cases e:M9 (trQ m) ls (A8 m ls) 60 with
   | none =>
    have inv:=Y8 e
    refine k none fun n j hn=>?_
    by_cases z:j∈A8 m ls
    ·exact inv n (hn.resolve_left hnr) j z
    ·exact st j z n
   | some z =>
    obtain⟨h1,⟨i5,h2,h3⟩,h4,h5⟩:=Y7 e
    refine k (some z) ⟨h4,fun n hn j=>?_,fun j hj=>?_,.inr h1⟩
    ·by_cases zz:j∈A8 m ls
     ·exact h5 n hn j zz
     ·exact st j zz n
    ·by_cases zz:j∈A8 m ls
     ·obtain⟨i6,h6⟩:=c9G zz
      exact h3 i6 (asc h6 h2 hj) j h6
     ·exact st j zz z.1
theorem b0z(T:Txt K mg)(d:Df K mg "less" a64 ["one","other"]):Fn P w K mg base "less" 1 ["one","other"] a4j:=by
 have sc:=b1P
 refine i4 d sc (by walk_at "len") (fun f cdv A outer s H E ds M R Y hr h=>?_)
 have hu:=hr.units
 obtain⟨q,T',B,rfl,⟨b0,zq,zB,zT⟩,k⟩:=h
 have e:decide (q<c9x T' B)=decide (q.num*B<T'*(q.den:Int)):=decide_eq_decide.mpr (b5V b0).symm
 rw[e]at k
 refine⟨_,(d5 (d7 (jm a0P (g6 o6 (jx (a8 0) d3) (jx (a8 1) d3)) (g6 o6 (jx (a8 1) d3) (jx (a8 0) d3))))),?_⟩
 walk_at "sim"
 exact⟨u5 _ _ (u4 q zq) zB (by decide),u5 _ _ zT (by rw[c8V];exact t9 q zq) (by decide),k⟩
theorem b5K(T:Txt K mg)(d:Df K mg "times" a25 ["one","other"])(c5Y:Fn P w K mg base "ratio" 2 ["top","bottom"] X6):Fn P w K mg base "times" 3 ["one","other"] F5:=by
 have sc:=a8T
 refine i4 d sc (fun ds M R Y h=>?_) (fun f cdv A outer s H E ds M R Y hr h=>?_)
 ·obtain⟨q,r,rfl,_⟩:=h;rfl
 ·obtain⟨q,r,rfl,hz,k⟩:=h
  refine⟨_,(d5 (d7 (jc c5Y hr (a7 (g6 o6 (jx (a8 0) d3) (jx (a8 1) d3)) (a7 (g6 o6 (jx (a8 0) d3) (jx (a8 1) d3)) a9))))),?_⟩
  refine⟨_,rfl,_,rfl,_,rfl,_,rfl,_,_,rfl,rfl,mNN hz,_,rfl,_,rfl,_,rfl,_,rfl,_,_,rfl,rfl,mDD hz,_,_,rfl,c9Z (RM.E5 q) (RM.E5 r),lDD hz,?_⟩
  rw[RM.b0D]at k
  exact k
theorem a5e(T:Txt K mg)(d:Df K mg "shows_late" S8 ["word","t","x","later","r"])(c6r:Fn P w K mg base "less" 1 ["one","other"] a03)(c6b:Fn P w K mg base "unsigned" 1 ["one"] a6n)(c7k:Fn P w K mg base "swing" 3 ["t","x","later"] a28)(c6t:Fn P w K mg base "less" 1 ["one","other"] a4j)(c6i:Fn P w K mg base "reach_by" 4 ["t","x","later"] a6p)(c5W:Fn P w K mg base "times" 3 ["one","other"] F5):Fn P w K mg base "shows_late" 5 ["word","t","x","later","r"] a29:=by
 have sc:=a4V
 refine i4 d sc (by walk_at "len") (fun f cdv A outer s H E ds M R Y hr h=>?_)
 have hu:=hr.units
 obtain⟨w',t,x,f',r,rfl,m,rfl,rfl,⟨cd,hd,hz,hr',r0⟩,k⟩:=h
 have zt:sz (trQ m)≤231:=CD.tr cd
 have zr:=RM.y8 r r
 have ax:=a02 x
 have af:=a02 f'
 have dn:((trQ m).den:Rat)≠0:=by
  intro z;exact(trQ m).den_nz (by exact_mod_cast z)
 have tz:∀{T B:Int},0<B→(T:Rat)=(trQ m).den*(x*x - trQ m*(x*f')+f'*f')*B→(T=0↔swQ (trQ m) x f'=0):=fun{T B} b0 e=>by
  have hB:(B:Rat)≠0:=by intro z;exact absurd (show B=0 by exact_mod_cast z) (by omega)
  unfold swQ
  generalize x*x - trQ m*(x*f')+f'*f'=v at *
  constructor
  ·intro z
   rw[z]at e
   have e:(0:Rat)=(trQ m).den*v*B:=e
   grind
  ·intro z
   rw[z]at e
   have:(T:Rat)=0:=by grind
   exact_mod_cast this
 unfold p8 at k
 refine⟨_,(d4 (g7 (jtm B2 (a8 0) i3) (d5 (d7 A4)) f7) (d4 (g7 (jtm B2 (a8 0) i3) (d5 (d7 (jc c6t hr (a7 (jc c5W hr (a7 (a8 4) (a7 (a8 4) a9))) (a7 (jc c6i hr (a7 (a8 1) (a7 (a8 2) (a7 (a8 3) a9)))) a9))))) f7) (d4 (g7 (jtm a4B (jx (jc c7k hr (a7 (a8 1) (a7 (a8 2) (a7 (a8 3) a9)))) d3) d3) (d5 (d7 A4)) f7) (d5 (d7 (E1 (jm B2 (a8 0) i3) (D2 (c2g (jc c6r hr (a7 (jc c6b hr (a7 (a8 2) a9)) (a7 (jc c6b hr (a7 (a8 3) a9)) a9))) (D2 (jc c6r hr (a7 (a8 4) (a7 (jc c6b hr (a7 (a8 2) a9)) a9)))))))))))),?_⟩
 walk_at "sim"
 rcases K7 m with⟨c1,e⟩|⟨c1,c2,e⟩|⟨c1,c2,c3,e⟩|⟨c1,c2,c3,e⟩
 ·rw[e]
  rw[if_pos c1]at k
  exact⟨fun _=>k,fun h=>absurd rfl h⟩
 ·have c3:¬ f6 (trQ m)<2:=by rw[c2];decide
  rw[if_neg c1,if_neg c3]at k
  rw[e]
  refine⟨fun h=>absurd h (by decide),fun _=>⟨fun h=>absurd h (by decide),fun _=>⟨⟨zt,hz⟩,fun T' B b0 bB bT eT=>⟨fun h=>?_,fun h=>⟨fun h=>absurd h (by decide),fun _=>?_⟩⟩⟩⟩⟩
  ·rw[if_pos (fun z=>h ((tz b0 eT).mpr z))]at k;exact k
  ·rw[if_neg (fun z=>z ((tz b0 eT).mp h)),if_pos c2]at k;exact k
 ·rw[if_neg c1,if_pos c3]at k
  rw[e]
  obtain⟨t1,t2⟩:=X5.mp c3
  refine⟨fun h=>absurd h (by decide),fun _=>⟨fun _=>⟨by omega,⟨zt,t1,t2,hz⟩,fun T' B b0 bB bT eT=>⟨⟨b0,by omega,r9 bB (by decide),r9 bT (by decide)⟩,?_⟩⟩,fun h=>absurd rfl h⟩⟩
  rw[eT];exact k
 ·rw[if_neg c1,if_neg c3]at k
  rw[e]
  refine⟨fun h=>absurd h (by decide),fun _=>⟨fun h=>absurd h (by decide),fun _=>⟨⟨zt,hz⟩,fun T' B b0 bB bT eT=>⟨fun h=>?_,fun h=>⟨fun _=>⟨by omega,fun h2=>?_,fun h2=>⟨by omega,?_⟩⟩,fun h=>absurd rfl h⟩⟩⟩⟩⟩
  ·rw[if_pos (fun z=>h ((tz b0 eT).mpr z))]at k;exact k
  ·rw[if_neg (fun z=>z ((tz b0 eT).mp h)),if_neg c2,decide_eq_true (.inl h2)]at k;exact k
  ·rw[if_neg (fun z=>z ((tz b0 eT).mp h)),if_neg c2]at k
   rw[show decide (f6 x<f6 f'∨r<f6 x)=decide (r<f6 x)from decide_eq_decide.mpr ⟨fun z=>z.resolve_left h2,.inr⟩]at k
   exact k
theorem a5i(T:Txt K mg)(d:Df K mg "late_lines" T5 ["table","numbers"])(c6x:Fn P w K mg base "shows_late" 5 ["word","t","x","later","r"] a29)(c5Z:Fn P w K mg base "t_of" 4 ["table"] a1C)(c5X:Fn P w K mg base "kind_word" 6 ["table"] sKw):Fn P w K mg base "late_lines" 7 ["table","numbers"] a7m:=by
 have sc:=a4Z
 refine i4 d sc (by walk_at "len") (fun f cdv A outer s H E ds M R Y hr h=>?_)
 have hu:=hr.units
 obtain⟨x,y,rfl,m,ls,rfl,rfl,⟨cd,hd,hl,hok⟩,k⟩:=h
 refine⟨_,(d4 (jst 2 sc.nd (jc c5X hr (a7 (a8 0) a9))) (d4 (jst 3 sc.nd (jc c5Z hr (a7 (a8 0) a9))) (d5 (d7 (G9 [2,3] ["k","x","later","r"] ["word","t"] rfl (by decide +kernel) rfl (by decide +kernel) (by decide +kernel) rfl (b3G ⟨rfl,rfl⟩ ⟨rfl,rfl⟩) (b3G (Or.inl rfl) (Or.inl rfl)) (R7 rfl T.b_enumerate (a7 (a8 1) a9)) (fun _ _ _ _ _ _=>(i0 (n:=2) rfl (d6 (jn 0 (show(["k","x","later","r","word","t"]:List Str).Nodup by decide +kernel)) (d6 (i0 (n:=3) rfl (d6 (jn 1 (show(["k","x","later","r","word","t"]:List Str).Nodup by decide +kernel)) (d6 (jn 2 (show(["k","x","later","r","word","t"]:List Str).Nodup by decide +kernel)) (d6 (jn 3 (show(["k","x","later","r","word","t"]:List Str).Nodup by decide +kernel)) g9)))) g9)))) (fun _ _ _ _ _ _=>(a0H (u0 (jc c6x hr (a7 (a8 4) (a7 (a8 5) (a7 (a8 1) (a7 (a8 2) (a7 (a8 3) a9))))))))) (fun _ _ _ _ _ _=>(a8 0))))))),?_⟩
 walk_at "sim"
 refine⟨m,rfl,cd,m,rfl,cd,?_⟩
 rw[a7V]
 refine X1 (xs:=ls.zipIdx) (fun z=>p8 m z.1.1 z.1.2.1 z.1.2.2) (fun z=>D.int (z.2:Int)) (by rw[c9C];omega) (by simp only[o9]) (fun z hz Q N h1 h2=>?_) ?_
 ·have ok:=hok z.1 (c81 (c9O.mp hz))
  walk_at "sim"
  refine⟨m,rfl,rfl,⟨cd,hd,ok.xf,ok.r,ok.p⟩,?_⟩
  walk_at "sim"
  exact⟨h1,h2⟩
 ·rw[show(ls.zipIdx.filter fun z=>p8 m z.1.1 z.1.2.1 z.1.2.2).map (fun z=>D.int (z.2:Int))=(A8 m ls).map fun k:Nat=>D.int (k:Int)by unfold A8;rw[c9N];rfl]
  exact k
theorem a7A(T:Txt K mg)(d:Df K mg "number_of" Z2 ["p","q","ray"])(c6d:Fn P w K mg base "plus" 3 ["one","other"] K8)(c5W:Fn P w K mg base "times" 3 ["one","other"] F5):Fn P w K mg base "number_of" 4 ["p","q","ray"] a7h:=by
 have sc:=a6S
 refine i4 d sc (by walk_at "len") (fun f cdv A outer s H E ds M R Y hr h=>?_)
 have hu:=hr.units
 obtain⟨p,q,y,u,rfl,hz,k⟩:=h
 have z1:=RM.y8 p y
 have z2:=RM.y8 q u
 refine⟨_,(d5 (d7 (jc c6d hr (a7 (jc c5W hr (a7 (a8 0) (a7 (jx (a8 2) d3) a9))) (a7 (jc c5W hr (a7 (a8 1) (a7 (jx (a8 2) d3) a9))) a9))))),?_⟩
 walk_at "sim"
 exact⟨by omega,by omega,by omega,k⟩
theorem c1Q(T:Txt K mg)(d:Df K mg "led" b5c ["table","ray"])(c6d:Fn P w K mg base "plus" 3 ["one","other"] K8)(c5W:Fn P w K mg base "times" 3 ["one","other"] F5):Fn P w K mg base "led" 4 ["table","ray"] b8m:=by
 have sc:=c1d
 refine i4 d sc (by walk_at "len") (fun f cdv A outer s H E ds M R Y hr h=>?_)
 have hu:=hr.units
 obtain⟨a,b,c,d,y,u,rfl,h1,h2,k⟩:=h
 refine⟨_,(d4 (p9 (a8 0) (i0 (n:=4) rfl (d6 (jn 2 sc.nd) (d6 (jn 3 sc.nd) (d6 (jn 4 sc.nd) (d6 (jn 5 sc.nd) g9)))))) (d4 (p9 (a8 1) (i0 (n:=2) rfl (d6 (jn 6 sc.nd) (d6 (jn 7 sc.nd) g9)))) (d5 (d7 (e9 (a7 (jc c6d hr (a7 (jc c5W hr (a7 (a8 2) (a7 (a8 6) a9))) (a7 (jc c5W hr (a7 (a8 3) (a7 (a8 7) a9))) a9))) (a7 (jc c6d hr (a7 (jc c5W hr (a7 (a8 4) (a7 (a8 6) a9))) (a7 (jc c5W hr (a7 (a8 5) (a7 (a8 7) a9))) a9))) a9))))))),?_⟩
 walk_at "sim"
 exact⟨by walk_at "size",by walk_at "size",by walk_at "size",by walk_at "size",by walk_at "size",by walk_at "size",k⟩
theorem a7C(T:Txt K mg)(d:Df K mg "first_two" Z4 ["table","ray","lines"])(c6q:Fn P w K mg base "number_of" 4 ["p","q","ray"] a7h)(c7O:Fn P w K mg base "led" 4 ["table","ray"] b8m):Fn P w K mg base "first_two" 5 ["table","ray","lines"] N9:=by
 have sc:=a6U
 refine i4 d sc (by walk_at "len") (fun f cdv A outer s H E ds M R Y hr h=>?_)
 have hu:=hr.units
 obtain⟨x,y,u,z,rfl,L,ls,rfl,rfl,⟨S,cL,cd0,hS,hl,hs⟩,k⟩:=h
 have cd:CD 1700 y 0 u 0:=cd0.mono hS
 have ol:=G6 L y u
 have ray:=(V9 cL cd).t2
 have r1:=ray.y
 have r2:=ray.u
 have ty:=cd.t2.y
 have tu:=cd.t2.u
 have o1:(g8 L (y,u)).1=(tbQ L).1*y+(tbQ L).2.1*u:=ol.1
 have o2:(g8 L (y,u)).2=(tbQ L).2.2.1*y+(tbQ L).2.2.2*u:=ol.2
 have t4:=CD.t4 cL
 rw[o1]at r1
 rw[o2]at r2
 rw[c9N]at k
 unfold F6
 refine⟨_,(d4 (jst 3 sc.nd (jc c7O hr (a7 (a8 0) (a7 (a8 1) a9)))) (d5 (d7 (G9 [1,3] ["p","q","r"] ["ray","later"] rfl (by decide +kernel) rfl (by decide +kernel) (by decide +kernel) rfl (b3G ⟨rfl,rfl⟩ ⟨rfl,rfl⟩) (b3G (Or.inl rfl) (Or.inl rfl)) (A1 (a8 2)) (fun _ _ _ _ _ _=>(i0 (n:=3) rfl (d6 (jn 0 (show(["p","q","r","ray","later"]:List Str).Nodup by decide +kernel)) (d6 (jn 1 (show(["p","q","r","ray","later"]:List Str).Nodup by decide +kernel)) (d6 (jn 2 (show(["p","q","r","ray","later"]:List Str).Nodup by decide +kernel)) g9))))) (fun _ _ _ _ _ _=>A2) (fun _ _ _ _ _ _=>(e9 (a7 (jc c6q hr (a7 (a8 0) (a7 (a8 1) (a7 (a8 3) a9)))) (a7 (jc c6q hr (a7 (a8 0) (a7 (a8 1) (a7 (a8 4) a9)))) (a7 (a8 2) a9))))))))),?_⟩
 walk_at "sim"
 generalize tbQ L=m at *
 obtain⟨a,b,c,d⟩:=m
 have z3:sz a≤230:=t4.a
 have z4:sz b≤230:=t4.b
 have z5:sz c≤230:=t4.c
 have z6:sz d≤230:=t4.d
 have r1:sz (a*y+b*u)≤230+1700+1:=r1
 have r2:sz (c*y+d*u)≤230+1700+1:=r2
 have o1:(g8 L (y,u)).1=a*y+b*u:=o1
 have o2:(g8 L (y,u)).2=c*y+d*u:=o2
 refine⟨by show sz a+sz y+(sz b+sz u)≤8900;omega,by show sz c+sz y+(sz d+sz u)≤8900;omega,?_⟩
 refine A6 (xs:=ls) (enc:=p5) (fun l=>p5 (C7 L y u l)) (by omega) (by simp only[o9]) (fun l hl Q hQ=>?_) k
 obtain⟨q1,q2⟩:=hs l hl
 unfold p5 C7 at *
 rw[o1,o2]at hQ
 walk_at "sim"
 exact⟨by omega,by omega,hQ⟩
theorem b5O(T:Txt K mg)(d:Df K mg "minus" a63 ["one","other"])(c6d:Fn P w K mg base "plus" 3 ["one","other"] K8)(c6h:Fn P w K mg base "opposite" 1 ["one"] a6m):Fn P w K mg base "minus" 4 ["one","other"] K0:=by
 have sc:=b5b
 refine i4 d sc (fun ds M R Y h=>?_) (fun f cdv A outer s H E ds M R Y hr h=>?_)
 ·obtain⟨q,r,rfl,_⟩:=h;rfl
 ·obtain⟨q,r,rfl,hz,k⟩:=h
  refine⟨_,(d5 (d7 (jc c6d hr (a7 (a8 0) (a7 (jc c6h hr (a7 (a8 1) a9)) a9))))),?_⟩
  refine⟨_,rfl,_,rfl,r,rfl,q,-r,rfl,by rw[RM.S6];exact hz,?_⟩
  rw[d1V]at k
  exact k
theorem a4w(T:Txt K mg)(d:Df K mg "led_by_part" Q5 ["part","ray"])(c6c:Fn P w K mg base "minus" 4 ["one","other"] K0)(c5W:Fn P w K mg base "times" 3 ["one","other"] F5)(c6d:Fn P w K mg base "plus" 3 ["one","other"] K8):Fn P w K mg base "led_by_part" 5 ["part","ray"] a4k:=by
 have sc:=a38
 refine i4 d sc (by walk_at "len") (fun f cdv A outer s H E ds M R Y hr h=>?_)
 have hu:=hr.units
 obtain⟨x,y,u,rfl,hz,k⟩:=h
 refine⟨_,(d4 (p9 (a8 0) (i0 (n:=2) rfl (d6 (jn 2 sc.nd) (d6 (jn 3 sc.nd) g9)))) (d4 (p9 (a8 1) (i0 (n:=2) rfl (d6 (jn 4 sc.nd) (d6 (jn 5 sc.nd) g9)))) (d4 (g7 (jtm B2 (a8 2) i3) (d5 (d7 (e9 (a7 (jc c6d hr (a7 (a8 4) (a7 (jc c5W hr (a7 (a8 3) (a7 (a8 5) a9))) a9))) (a7 (a8 5) a9))))) f7) (d4 (g7 (jtm B2 (a8 2) i3) (d5 (d7 (e9 (a7 (a8 4) (a7 (jc c6c hr (a7 (a8 5) (a7 (jc c5W hr (a7 (a8 3) (a7 (a8 4) a9))) a9))) a9))))) f7) (d5 (d7 (a8 1))))))),?_⟩
 walk_at "sim"
 unfold y9 at k
 refine⟨fun h1=>?_,fun h1=>⟨fun h2=>?_,fun h2=>?_⟩⟩
 ·rw[if_pos h1]at k;exact⟨by omega,by walk_at "size",k⟩
 ·rw[if_neg h1,if_pos h2]at k;exact⟨by omega,by walk_at "size",k⟩
 ·rw[if_neg h1,if_neg h2]at k;exact k
theorem a9j(T:Txt K mg)(d:Df K mg "lines_of" a1d ["bench"])(c6l:Fn P w K mg base "led_by_part" 5 ["part","ray"] a4k):Fn P w K mg base "lines_of" 6 ["bench"] a7k:=by
 have sc:=a80
 refine i4 d sc (by walk_at "len") (fun f cdv A outer s H E ds M R Y hr h=>?_)
 have hu:=hr.units
 obtain⟨bs,rfl,⟨⟨hz,hl⟩,hc⟩,k⟩:=h
 refine⟨_,(d4 (jst 1 sc.nd (W4 a9)) (d4 (jst 2 sc.nd (o8 rfl T.c_LEVEL_RAY)) (d4 (jst 3 sc.nd (o8 rfl T.c_AXIS_RAY)) (d4 (u8 PassesOwn.never rfl (A1 (a8 0)) (jn 4 sc.nd) (J6 (g7 (jtm B2 (jx (a8 4) d3) i3) (d5 (C2 (R8 PySem.F.slot_list_append PySem.F.type_list_append C4 (a8 1) (a7 (e9 (a7 (jx (a8 2) d3) (a7 (jx (a8 3) d3) (a7 (jx (a8 4) d3) a9)))) a9)))) f7) (d4 (jst 2 sc.nd (jc c6l hr (a7 (a8 4) (a7 (a8 2) a9)))) (d5 (jst 3 sc.nd (jc c6l hr (a7 (a8 4) (a7 (a8 3) a9)))))))) (d5 (d7 (L5 (G8 (a8 1))))))))),?_⟩
 walk_at "sim"
 intro p hp
 refine O5.by (fun i e M'=>(∃ y0 z:Option D,e=[y0,some (.ref p),some (v6 (g8 (bs.take i) (1,0)).1 (g8 (bs.take i) (1,0)).2),some (v6 (g8 (bs.take i) (0,1)).1 (g8 (bs.take i) (0,1)).2),z])∧M'=B9 M p (.lst ((A5 bs i).map p5))) ⟨⟨_,_,rfl⟩,rfl⟩ (fun i e M' _ _=>by simp only[o9,C0]) ?_ ?_
 ·rintro i dd e M' hd ⟨⟨y0,z,rfl⟩,rfl⟩
  obtain⟨pt,hpt,rfl⟩:=a6q hd
  have t4:=CD.t4 (hc i)
  have a1:sz (g8 (bs.take i) (1,0)).1≤230:=t4.a
  have a2:sz (g8 (bs.take i) (0,1)).1≤230:=t4.b
  have b1:sz (g8 (bs.take i) (1,0)).2≤230:=t4.c
  have b2:sz (g8 (bs.take i) (0,1)).2≤230:=t4.d
  have q2:=hz pt (c81 hpt)
  have o1:=O0 hpt (1,0)
  have o2:=O0 hpt (0,1)
  have hll:=K5 bs i
  have hi:=(c8W.mp hpt).1
  have on:=a1x hpt
  walk_at "sim"
  refine a1q (fun e' M'=>e'=[y0,some (.ref p),some (v6 (g8 (bs.take i) (1,0)).1 (g8 (bs.take i) (1,0)).2),some (v6 (g8 (bs.take i) (0,1)).1 (g8 (bs.take i) (0,1)).2),some (f9 pt)]∧M'=B9 M p (.lst ((A5 bs (i+1)).map p5))) ?_ ?_
  ·walk_at "sim"
   refine⟨fun h1=>J8 h8 (O6 h8 (by rw[c8Y];omega) ?_),fun h1=>?_⟩
   ·rw[Y4,on,if_pos h1,c9f];rfl
   ·rw[on,if_neg h1]
  ·rintro e' M' ⟨rfl,rfl⟩
   walk_at "sim"
   refine⟨by omega,by omega,⟨y0,some (f9 pt),?_⟩⟩
   rw[o1,o2]
 ·rintro e M' ⟨⟨y0,z,rfl⟩,rfl⟩
  walk_at "sim"
  rw[P7 h8,J1 hp]
  walk_at "sim"
  rw[c8Y]
  exact⟨_,fun _ _ h=>h,k⟩
theorem a2Z(T:Txt K mg)(d:Df K mg "turned_bench" N4 ["bench"]):Fn P w K mg base "turned_bench" 1 ["bench"] a67:=by
 have sc:=a2X
 refine i4 d sc (by walk_at "len") (fun f cdv A outer s H E ds M R Y hr h=>?_)
 have hu:=hr.units
 obtain⟨x0,xs,rfl,hx0,k⟩:=h
 rcases hx0 with rfl|rfl
 all_goals
  refine⟨_,(d5 (d7 (a9r rfl rfl T.b_list a3s rfl T.b_reversed a0k (a8 0)))),?_⟩
  walk_at "sim"
  exact k
theorem a4t(T:Txt K mg)(d:Df K mg "round_bench" Q0 ["hall"])(c6P:Fn P w K mg base "turned_bench" 1 ["bench"] a67):Fn P w K mg base "round_bench" 2 ["hall"] a4f:=by
 have sc:=a35
 refine i4 d sc (by walk_at "len") (fun f cdv A outer s H E ds M R Y hr h=>?_)
 have hu:=hr.units
 obtain⟨x0,near,bs,far,rfl,hx0,hl,k⟩:=h
 rw[show d8 near bs far=bs++[(Str.ofString "glass",far)]++bs.reverse++[(Str.ofString "glass",near)]from rfl,c9f,c9f,c9f,d0A]at k
 have l1:(bs.map f9).length=bs.length:=c8Y ..
 have hs:1000≤sizeLine:=by decide
 rcases hx0 with rfl|rfl
 all_goals
  refine⟨_,(d4 (p9 (a8 0) (i0 (n:=3) rfl (d6 (jn 1 sc.nd) (d6 (jn 2 sc.nd) (d6 (jn 3 sc.nd) g9))))) (d5 (d7 (P3 (P3 (P3 (b6f rfl T.b_list a3s (a7 (a8 2) a9)) (j9 (a7 (e9 (a7 i3 (a7 (a8 3) a9))) a9))) (jc c6P hr (a7 (a8 2) a9))) (j9 (a7 (e9 (a7 i3 (a7 (a8 1) a9))) a9)))))),?_⟩
  walk_at "sim"
  refine⟨by omega,by simp only[c9h,c9w,c9B,d0i];omega,by simp only[c9h,c9w,c9B,d0i];omega,?_⟩
  exact k
theorem a5k(T:Txt K mg)(d:Df K mg "hall_lines" T8 ["hall"])(c7m:Fn P w K mg base "lines_of" 6 ["bench"] a7k)(c6u:Fn P w K mg base "round_bench" 2 ["hall"] a4f):Fn P w K mg base "hall_lines" 7 ["hall"] N8:=by
 have sc:=a41
 refine i4 d sc (by walk_at "len") (fun f cdv A outer s H E ds M R Y hr h=>?_)
 have hu:=hr.units
 obtain⟨x0,near,bs,far,rfl,hx0,hok,k⟩:=h
 have hs:=hok.szs
 have hc:=hok.cd
 have hl:=hok.len
 have hl2:=O2 near far bs
 have fl:=b2s bs
 have sz1:1000≤sizeLine:=by decide
 rcases hx0 with rfl|rfl
 all_goals
  refine⟨_,(d4 (E7 (i:=1) [] ["number","part"] [] sc.nd rfl (Or.inl rfl) rfl (by decide +kernel) rfl (by decide +kernel) (by decide +kernel) rfl a0S a0S (R7 rfl T.b_enumerate (a7 (jx (a8 0) d3) a9)) (fun _ _ _ _ _ _=>(i0 (n:=2) rfl (d6 (jn 0 (show(["number","part"]:List Str).Nodup by decide +kernel)) (d6 (jn 1 (show(["number","part"]:List Str).Nodup by decide +kernel)) g9)))) (fun _ _ _ _ _ _=>(a0H (jtm B2 (jx (a8 1) d3) i3))) (fun _ _ _ _ _ _=>(e9 (a7 i3 (a7 (a8 0) a9))))) (d4 (E7 (i:=2) [] ["way","number"] [] sc.nd rfl (Or.inl rfl) rfl (by decide +kernel) rfl (by decide +kernel) (by decide +kernel) rfl a0S a0S (b6d rfl T.b_reversed a0k (a7 (a8 1) a9)) (fun _ _ _ _ _ _=>(i0 (n:=2) rfl (d6 (jn 0 (show(["way","number"]:List Str).Nodup by decide +kernel)) (d6 (jn 1 (show(["way","number"]:List Str).Nodup by decide +kernel)) g9)))) (fun _ _ _ _ _ _=>A2) (fun _ _ _ _ _ _=>(e9 (a7 i3 (a7 (a8 1) a9))))) (d4 (jst 3 sc.nd (jc c7m hr (a7 (jc c6u hr (a7 (a8 0) a9)) a9))) (d5 (d7 (a9s [] ["line","way","number"] [] rfl (by decide +kernel) rfl (by decide +kernel) (by decide +kernel) rfl a0S a0S (a7K rfl T.b_zip (a7 (P3 (a8 1) (a8 2)) (a7 (a8 3) a9))) (fun _ _ _ _ _ _=>(i0 (n:=2) rfl (d6 (i0 (n:=2) rfl (d6 (jn 1 (show(["line","way","number"]:List Str).Nodup by decide +kernel)) (d6 (jn 2 (show(["line","way","number"]:List Str).Nodup by decide +kernel)) g9))) (d6 (jn 0 (show(["line","way","number"]:List Str).Nodup by decide +kernel)) g9)))) (fun _ _ _ _ _ _=>A2) (fun _ _ _ _ _ _=>(e9 (a7 (a8 1) (a7 (a8 2) (a7 (a8 0) a9))))))))))),?_⟩
  walk_at "sim"
  rw[a2y]
  refine X1 (xs:=bs.zipIdx) (fun x=>x.1.1 == Str.ofString "stop") fwD (by rw[c9C];omega) (by simp only[o9,C0]) (fun x hx Q N h1 h2=>?_) ?_
  ·walk_at "sim"
   exact⟨fun e=>h1 (by rw[e];exact beq_self_eq_true _),fun e=>h2 (beq_eq_false_iff_ne.mpr e)⟩
  ·walk_at "sim"
   rw[show d1i (fun x:(Str × Rat) × Nat=>x.1.1 == Str.ofString "stop") bs.zipIdx=frW bs from rfl,← d0A]
   refine A6 (xs:=(frW bs).reverse) (enc:=fwD) bwD (by rw[c9w];omega) trivial (fun x hx Q hQ=>?_) ?_
   ·unfold fwD
    walk_at "sim"
    exact hQ
   ·walk_at "sim"
    refine⟨hl,⟨⟨hs,by omega⟩,hc⟩,c85 (by rw[c8Y,c8Y,c9w];omega) sz1,?_⟩
    rw[c2t near far bs,c0R]
    have zl:=K5 (d8 near bs far) (d8 near bs far).length
    refine A6 (fun z=>hlD z.1 z.2) (by rw[d02];omega) (by simp only[o9,and_self]) (fun z hz Q hQ=>?_) ?_
    ·unfold prD
     walk_at "sim"
     exact hQ
    ·rw[c2j]
     exact k
theorem a5n(T:Txt K mg)(d:Df K mg "by_columns" U1 ["first","second"]):Fn P w K mg base "by_columns" 1 ["first","second"] a2g:=by
 have sc:=a44
 refine i4 d sc (by walk_at "len") (fun f cdv A outer s H E ds M R Y hr h=>?_)
 have hu:=hr.units
 obtain⟨a,b,c,d,rfl,k⟩:=h
 refine⟨_,(d5 (d7 (e9 (a7 (jx (a8 0) d3) (a7 (jx (a8 1) d3) (a7 (jx (a8 0) d3) (a7 (jx (a8 1) d3) a9))))))),?_⟩
 walk_at "sim"
 exact k
theorem a9d(T:Txt K mg)(d:Df K mg "table_of" a08 ["bench"])(c6V:Fn P w K mg base "by_columns" 1 ["first","second"] a2g)(c6l:Fn P w K mg base "led_by_part" 5 ["part","ray"] a4k):Fn P w K mg base "table_of" 6 ["bench"] b5e:=by
 have sc:=a8U
 refine i4 d sc (by walk_at "len") (fun f cdv A outer s H E ds M R Y hr h=>?_)
 have hu:=hr.units
 obtain⟨bs,rfl,⟨⟨hz,hl⟩,hc⟩,k⟩:=h
 refine⟨_,(d4 (jst 1 sc.nd (o8 rfl T.c_LEVEL_RAY)) (d4 (jst 2 sc.nd (o8 rfl T.c_AXIS_RAY)) (d4 (u8 PassesOwn.never rfl (A1 (a8 0)) (jn 3 sc.nd) (d4 (jst 1 sc.nd (jc c6l hr (a7 (a8 3) (a7 (a8 1) a9)))) (d5 (jst 2 sc.nd (jc c6l hr (a7 (a8 3) (a7 (a8 2) a9))))))) (d5 (d7 (jc c6V hr (a7 (a8 1) (a7 (a8 2) a9)))))))),?_⟩
 walk_at "sim"
 refine O5.by (fun i e M'=>M'=M∧∃ z:Option D,e=[some _,some (v6 (g8 (bs.take i) (1,0)).1 (g8 (bs.take i) (1,0)).2),some (v6 (g8 (bs.take i) (0,1)).1 (g8 (bs.take i) (0,1)).2),z]) ⟨rfl,_,rfl⟩ (fun i e M' _ _=>by simp only[o9]) ?_ ?_
 ·rintro i dd e M' hd ⟨rfl,z,rfl⟩
  obtain⟨pt,hpt,rfl⟩:=a6q hd
  have t4:=CD.t4 (hc i)
  have a1:sz (g8 (bs.take i) (1,0)).1≤230:=t4.a
  have a2:sz (g8 (bs.take i) (0,1)).1≤230:=t4.b
  have b1:sz (g8 (bs.take i) (1,0)).2≤230:=t4.c
  have b2:sz (g8 (bs.take i) (0,1)).2≤230:=t4.d
  have q2:=hz pt (c81 hpt)
  have o1:=O0 hpt (1,0)
  have o2:=O0 hpt (0,1)
  walk_at "sim"
  rw[← o1,← o2]
  exact⟨by omega,by omega,_,rfl⟩
 ·rw[c8Y]
  rintro e M' ⟨rfl,z,rfl⟩
  rw[c9k]
  walk_at "sim"
  exact k
theorem a9f(T:Txt K mg)(d:Df K mg "round_of" a1a ["hall"])(c7n:Fn P w K mg base "table_of" 6 ["bench"] b5e)(c6u:Fn P w K mg base "round_bench" 2 ["hall"] a4f):Fn P w K mg base "round_of" 7 ["hall"] a1H:=by
 have sc:=a8W
 refine i4 d sc (by walk_at "len") (fun f cdv A outer s H E ds M R Y hr h=>?_)
 have hu:=hr.units
 obtain⟨x0,near,bs,far,rfl,hx0,hok,k⟩:=h
 have hs:=hok.szs
 have hc:=hok.cd
 have hl:=hok.len
 have hl2:=O2 near far bs
 rcases hx0 with rfl|rfl
 all_goals
  refine⟨_,(d5 (d7 (jc c7n hr (a7 (jc c6u hr (a7 (a8 0) a9)) a9)))),?_⟩
  walk_at "sim"
  exact⟨hl,⟨⟨hs,by omega⟩,hc⟩,k⟩
theorem b8X(T:Txt K mg)(d:Df K mg "ever" b0d ["hall","ray"])(c7o:Fn P w K mg base "shown_by" 6 ["word","table","x","later"] a4e)(c5X:Fn P w K mg base "kind_word" 6 ["table"] sKw)(c6W:Fn P w K mg base "first_stop" 7 ["table","numbers","late"] b0p)(c6X:Fn P w K mg base "late_lines" 7 ["table","numbers"] a7m)(c6p:Fn P w K mg base "first_two" 5 ["table","ray","lines"] N9)(c6f:Fn P w K mg base "hall_lines" 7 ["hall"] N8)(c6a:Fn P w K mg base "round_of" 7 ["hall"] a1H):Fn P w K mg base "ever" 8 ["hall","ray"] a84:=by
 have sc:=b8l
 refine i4 d sc (by walk_at "len") (fun f cdv A outer s H E ds M R Y hr h=>?_)
 have hu:=hr.units
 obtain⟨x0,near,bs,far,y,u,rfl,hx0,⟨hw,S,cd,hS⟩,k⟩:=h
 have cL:=hw.cd (d8 near bs far).length
 rw[c9k]at cL
 have dL:=a2d (d8 near bs far)
 have lsl:=K5 (d8 near bs far) (d8 near bs far).length
 have hl2:=O2 near far bs
 have hbl:=hw.len
 have hN:=a0h hw cd hS
 have hF:=W6 (near:=near) (far:=far) (bs:=bs) (y:=y) (u:=u)
 have hNl:=a2x near far bs y u
 have hmet:∀ j l,(p6 near bs far y u)[j]? = some l→∃(w0:D × D) (l0:Rat × Rat × Rat),(hlN (j5 near bs far) (j5 near bs far).length)[j]? = some (hlD w0 l0)∧(F7 (j5 near bs far) (j5 near bs far).length).getD j (.non,.non)=w0:=fun j l hj=>by
  unfold p6 at hj
  rw[c83]at hj
  obtain⟨l0,hl0,rfl⟩:=c9o.mp hj
  have h1:(A5 ((j5 near bs far).map fun z=>z.2.2) (j5 near bs far).length)[j]? = some l0:=by rw[I0,B3];exact hl0
  have hj2:=(c8W.mp h1).1
  rw[← O9]at hj2
  refine⟨(F7 (j5 near bs far) (j5 near bs far).length)[j],l0,?_,?_⟩
  ·unfold hlN
   rw[c95,h1,c9d hj2]
  ·rw[c9D,c9d hj2];rfl
 rcases hx0 with rfl|rfl
 all_goals
  refine⟨_,(d4 (jst 2 sc.nd (jc c6a hr (a7 (a8 0) a9))) (d4 (jst 3 sc.nd (G8 (jc c6f hr (a7 (a8 0) a9)))) (d4 (jst 4 sc.nd (jc c6p hr (a7 (a8 2) (a7 (a8 1) (a7 (G9 [] ["way","number","line"] [] rfl (by decide +kernel) rfl (by decide +kernel) (by decide +kernel) rfl a0S a0S (A1 (a8 3)) (fun _ _ _ _ _ _=>(i0 (n:=3) rfl (d6 (jn 0 (show(["way","number","line"]:List Str).Nodup by decide +kernel)) (d6 (jn 1 (show(["way","number","line"]:List Str).Nodup by decide +kernel)) (d6 (jn 2 (show(["way","number","line"]:List Str).Nodup by decide +kernel)) g9))))) (fun _ _ _ _ _ _=>A2) (fun _ _ _ _ _ _=>(a8 2))) a9))))) (d4 (jst 5 sc.nd (jc c6X hr (a7 (a8 2) (a7 (a8 4) a9)))) (d4 (jst 6 sc.nd (jc c6W hr (a7 (a8 2) (a7 (a8 4) (a7 (a8 5) a9))))) (d4 (g7 (jtm a0F (a8 6) D8) (d4 (p9 (a8 6) (i0 (n:=2) rfl (d6 (jn 7 sc.nd) (d6 (jn 8 sc.nd) g9)))) (d5 (d7 (e9 (a7 i3 (a7 (a8 7) (a7 (jx (jx (a8 3) (a8 8)) d3) (a7 (jx (jx (a8 3) (a8 8)) d3) a9)))))))) f7) (d4 (g7 (jtm a5y (p0 F3 rfl T.b_len B7 (a7 (a8 5) a9)) d3) (d5 (d7 (e9 (a7 i3 (a7 (jx (a8 5) d3) a9))))) f7) (d4 (jst 9 sc.nd (jc c5X hr (a7 (a8 2) a9))) (d5 (d7 (e9 (a7 i3 (a7 (G9 [2,9] ["x","later","r"] ["table","word"] rfl (by decide +kernel) rfl (by decide +kernel) (by decide +kernel) rfl (b3G ⟨rfl,rfl⟩ ⟨rfl,rfl⟩) (b3G (Or.inl rfl) (Or.inl rfl)) (A1 (a8 4)) (fun _ _ _ _ _ _=>(i0 (n:=3) rfl (d6 (jn 0 (show(["x","later","r","table","word"]:List Str).Nodup by decide +kernel)) (d6 (jn 1 (show(["x","later","r","table","word"]:List Str).Nodup by decide +kernel)) (d6 (jn 2 (show(["x","later","r","table","word"]:List Str).Nodup by decide +kernel)) g9))))) (fun _ _ _ _ _ _=>A2) (fun _ _ _ _ _ _=>(jc c7o hr (a7 (a8 4) (a7 (a8 3) (a7 (a8 0) (a7 (a8 1) a9))))))) a9))))))))))))),?_⟩
  walk_at "sim"
  refine⟨hw,hw,fun p hp=>?_⟩
  rw[P7 h8,J1 hp]
  walk_at "sim"
  rw[a7P]
  refine A6 (fun z=>p5 z.2) (by rw[d02,B3];omega) (by simp only[o9]) (fun z hz Q hQ=>?_) ?_
  ·unfold hlD
   walk_at "sim"
   exact hQ
  rw[a5G]
  refine⟨d8 near bs far,A5 (d8 near bs far) (d8 near bs far).length,rfl,rfl,⟨S,cL,cd,hS,by omega,fun l hl=>(hw.ln cd hS hl).2⟩,?_⟩
  rw[show c97 (C7 (d8 near bs far) y u) (A5 (d8 near bs far) (d8 near bs far).length)=p6 near bs far y u from rfl,← a7P]
  generalize p6 near bs far y u=ls at *
  generalize hlN (j5 near bs far) (j5 near bs far).length=HL at *
  generalize F7 (j5 near bs far) (j5 near bs far).length=WS at *
  refine⟨_,ls,rfl,rfl,⟨cL,dL,by omega,hN⟩,_,ls,rfl,rfl,rfl,⟨cL,dL,by omega,fun l h=>⟨hN l h,hF l h⟩⟩,fun o ho=>?_⟩
  generalize tbQ (d8 near bs far)=m at *
  cases o with
  | some z =>
   obtain⟨n,j⟩:=z
   have hk:R (.tup [.str (Str.ofString "stopped"),.int (n:Int),(WS.getD j (.non,.non)).1,(WS.getD j (.non,.non)).2]) M:=k (.stopped n j) ho
   obtain⟨l,hl5,_⟩:=P4.mp ho.1
   obtain⟨w0,l0,e1,e2⟩:=hmet j l hl5
   rw[e2]at hk
   unfold a30
   rw[a1v rfl]
   walk_at "sim"
   refine⟨_,y3 (n:=j) e1,?_⟩
   unfold hlD
   walk_at "sim"
   refine⟨_,y3 (n:=j) e1,?_⟩
   unfold hlD
   walk_at "sim"
   exact hk
  | none =>
   unfold a30
   rw[a1v rfl]
   walk_at "sim"
   cases e:A8 m ls with
   | cons a D4 =>
    have hk:R (.tup [.str (Str.ofString "late"),.int (a:Int)]) M:=k (.late a) ⟨ho,by rw[e];rfl⟩
    refine⟨fun _=>?_,fun h=>absurd (by rw[c9F,c9B];omega) h⟩
    walk_at "sim"
    exact hk
   | nil =>
    have hk:R (.tup [.str (Str.ofString "never"),.vl ((ls.map (N3 m)).map enD)]) M:=k .never ⟨ho,e⟩
    refine⟨fun h=>absurd h (by decide),fun _=>⟨m,rfl,cL,?_⟩⟩
    rw[c9N]at hk
    refine A6 (xs:=ls) (enc:=p5) (fun l=>enD (N3 m l)) (by omega) (by simp only[o9]) (fun l hl Q hQ=>?_) hk
    walk_at "sim"
    refine⟨m,l.2.2,rfl,rfl,⟨cL,dL,hN l hl,fun c1 c3 h0=>?_⟩,hQ⟩
    apply c9a
    intro hf
    obtain⟨j,hj⟩:=c9G hl
    have:j∈A8 m ls:=R6.mpr ⟨l,hj,by
     unfold p8
     rw[if_neg c1,if_neg c3,if_pos (by rw[h0];unfold swQ;grind)]⟩
    rw[e]at this;cases this
theorem a5t(T:Txt K mg)(d:Df K mg "_law_parts" U7 ["hall"]):Fn P w K mg base "_law_parts" 1 ["hall"] a3k:=by
 have sc:=a49
 refine i4 d sc (by walk_at "len") (fun f cdv A outer s H E ds M R Y hr h=>?_)
 have hu:=hr.units
 obtain⟨near,bs,far,rfl,hl,k⟩:=h
 refine⟨_,(d4 (a7L (i:=1) [] ["k","part"] [] sc.nd rfl (Or.inl rfl) rfl (by decide +kernel) rfl (by decide +kernel) (by decide +kernel) rfl a0S a0S (R7 rfl T.b_enumerate (a7 (jx (a8 0) d3) a9)) (fun _ _ _ _ _ _=>(i0 (n:=2) rfl (d6 (jn 0 (show(["k","part"]:List Str).Nodup by decide +kernel)) (d6 (jn 1 (show(["k","part"]:List Str).Nodup by decide +kernel)) g9)))) (fun _ _ _ _ _ _=>A2) (fun _ _ _ _ _ _=>(e9 (a7 i3 (a7 (a8 0) (a7 (a8 1) a9)))))) (d4 (C2 (R8 PySem.F.slot_list_append PySem.F.type_list_append C4 (a8 1) (a7 (e9 (a7 D8 (a7 D8 (a7 (e9 (a7 i3 (a7 (jx (a8 0) d3) a9))) a9)))) a9))) (d4 (C2 (R8 PySem.F.slot_list_extend PySem.F.type_list_extend b3x (a8 1) (a7 (a9s [0] ["k"] ["hall"] rfl (by decide +kernel) rfl (by decide +kernel) (by decide +kernel) rfl (a18 ⟨rfl,rfl⟩) (a18 (Or.inl rfl)) (b6c rfl T.b_reversed a0k rfl T.b_range boot_range (a7 (p0 F3 rfl T.b_len B7 (a7 (jx (a8 0) d3) a9)) a9)) (fun _ _ _ _ _ _=>(jn 0 (show(["k","hall"]:List Str).Nodup by decide +kernel))) (fun _ _ _ _ _ _=>A2) (fun _ _ _ _ _ _=>(e9 (a7 i3 (a7 (a8 0) (a7 (jx (jx (a8 1) d3) (a8 0)) a9)))))) a9))) (d4 (C2 (R8 PySem.F.slot_list_append PySem.F.type_list_append C4 (a8 1) (a7 (e9 (a7 D8 (a7 D8 (a7 (e9 (a7 i3 (a7 (jx (a8 0) d3) a9))) a9)))) a9))) (d5 (d7 (L5 (G8 (a8 1))))))))),?_⟩
 walk_at "sim"
 rw[a2y]
 refine A6 (fun x:(Str × Rat) × Nat=>lpD (.str "forth") (.int (x.2:Int)) x.1) (by rw[c9C];omega) (by simp only[o9]) (fun x hx Q hQ=>?_) (fun p hp=>?_)
 ·walk_at "sim"
  exact hQ
 ·refine J8 h8 (O6 h8 (by rw[c8Y,c9C];omega) (J8 h8 ⟨by rw[c8Y];omega,?_⟩))
  rw[c8Y,c9X,b6z]
  refine A6 (fun x:(Str × Rat) × Nat=>lpD (.str "back") (.int (x.2:Int)) x.1) (by rw[c9w,c9C];omega) trivial (fun x hx Q hQ=>?_) (fun b hb=>?_)
  ·have hx1:bs[x.2]? = some x.1:=by
    have:=c99.mp hx
    obtain⟨y,j⟩:=x
    exact c9O.mp this
   walk_at "sim"
   exact⟨f9 x.1,y3 (n:=x.2) (by rw[c83,hx1];rfl),hQ⟩
  ·have hbp:b≠p:=fun e=>by rw[e,h8]at hb;cases hb
   have hMb:M b=none:=by rw[A0 hbp,A0 hbp]at hb;exact hb
   have hlz:(bs.zipIdx.map fun x:(Str × Rat) × Nat=>lpD (.str "forth") (.int (x.2:Int)) x.1).length=bs.length:=by rw[c8Y,c9C]
   have hlr:(bs.zipIdx.reverse.map fun x:(Str × Rat) × Nat=>lpD (.str "back") (.int (x.2:Int)) x.1).length=bs.length:=by rw[c8Y,c9w,c9C]
   refine c2O (by rw[A0 (Ne.symm hbp)];exact h8) h8 (by rw[c9h,hlz,hlr];show bs.length+1+bs.length≤1000;omega) (J8 h8 (O6 h8 (by rw[c9h,c9h,hlz,hlr];show bs.length+1+bs.length<1000;omega) ⟨p,_,rfl,h8,J9 (M2:=M) (fun c o h=>?_) k⟩))
   have c1:c≠p:=fun e=>by rw[e,hp]at h;cases h
   have c2:c≠b:=fun e=>by rw[e,hMb]at h;cases h
   rw[a3r c1,A0 c1,A0 c1,A0 c2,A0 c1,A0 c1]
   exact h
theorem a7E(T:Txt K mg)(d:Df K mg "_law_part" Z6 ["part","ray"])(c6c:Fn P w K mg base "minus" 4 ["one","other"] K0)(c5W:Fn P w K mg base "times" 3 ["one","other"] F5)(c6d:Fn P w K mg base "plus" 3 ["one","other"] K8):Fn P w K mg base "_law_part" 5 ["part","ray"] a4k:=by
 have sc:=a6W
 refine i4 d sc (by walk_at "len") (fun f cdv A outer s H E ds M R Y hr h=>?_)
 have hu:=hr.units
 obtain⟨x,y,u,rfl,hz,k⟩:=h
 refine⟨_,(d4 (p9 (a8 0) (i0 (n:=2) rfl (d6 (jn 2 sc.nd) (d6 (jn 3 sc.nd) g9)))) (d4 (g7 (jtm B2 (a8 2) i3) (d5 (d7 (e9 (a7 (jc c6d hr (a7 (jx (a8 1) d3) (a7 (jc c5W hr (a7 (a8 3) (a7 (jx (a8 1) d3) a9))) a9))) (a7 (jx (a8 1) d3) a9))))) f7) (d4 (g7 (jtm B2 (a8 2) i3) (d5 (d7 (e9 (a7 (jx (a8 1) d3) (a7 (jc c6c hr (a7 (jx (a8 1) d3) (a7 (jc c5W hr (a7 (a8 3) (a7 (jx (a8 1) d3) a9))) a9))) a9))))) f7) (d5 (d7 (a8 1)))))),?_⟩
 walk_at "sim"
 unfold y9 at k
 refine⟨fun h1=>?_,fun h1=>⟨fun h2=>?_,fun h2=>?_⟩⟩
 ·rw[if_pos h1]at k;exact⟨by omega,by walk_at "size",k⟩
 ·rw[if_neg h1,if_pos h2]at k;exact⟨by omega,by walk_at "size",k⟩
 ·rw[if_neg h1,if_neg h2]at k;exact k
theorem a5r(T:Txt K mg)(d:Df K mg "_law_round" U6 ["hall","ray"])(c6y:Fn P w K mg base "_law_parts" 1 ["hall"] a3k)(c6v:Fn P w K mg base "_law_part" 5 ["part","ray"] a4k):Fn P w K mg base "_law_round" 6 ["hall","ray"] a0d:=by
 have sc:=a48
 refine i4 d sc (by walk_at "len") (fun f cdv A outer s H E ds M R Y hr h=>?_)
 have hu:=hr.units
 obtain⟨near,bs,far,y,u,rfl,⟨hok,S,cd,hS⟩,k⟩:=h
 refine⟨_,(d4 (u8 PassesOwn.never rfl (A1 (jc c6y hr (a7 (a8 0) a9))) (i0 (n:=3) rfl (d6 (jn 2 sc.nd) (d6 (jn 3 sc.nd) (d6 (jn 4 sc.nd) g9)))) (d5 (jst 1 sc.nd (jc c6v hr (a7 (a8 4) (a7 (a8 1) a9)))))) (d5 (d7 (a8 1)))),?_⟩
 walk_at "sim"
 refine⟨hok.len,?_⟩
 refine O5.by (fun i e M'=>M'=M∧∃ z2 z3 z4:Option D,e=[some (.tup [d9 near,.vl (bs.map f9),d9 far]),some (v6 (g8 ((d8 near bs far).take i) (y,u)).1 (g8 ((d8 near bs far).take i) (y,u)).2),z2,z3,z4]) ⟨rfl,_,_,_,rfl⟩ (fun i e M' _ _=>by simp only[o9]) ?_ ?_
 ·rintro i dd e M' hd ⟨rfl,z2,z3,z4,rfl⟩
  obtain⟨w,n,x,rfl,hx⟩:=b3r hd
  have t2:=(V9 (hok.cd i) cd).t2
  have a1:=t2.y
  have a2:=t2.u
  have q2:=hok.szs x (c81 hx)
  have o1:=O0 hx (y,u)
  walk_at "sim"
  rw[← o1]
  exact⟨by omega,_,_,_,rfl⟩
 ·rw[a6D]
  rintro e M' ⟨rfl,z2,z3,z4,rfl⟩
  rw[c9k]
  walk_at "sim"
  exact k
theorem a4z(T:Txt K mg)(d:Df K mg "_law_scaled" Q7 ["ray","factor"])(c5W:Fn P w K mg base "times" 3 ["one","other"] F5):Fn P w K mg base "_law_scaled" 4 ["ray","factor"] a3a:=by
 have sc:=a4a
 refine i4 d sc (by walk_at "len") (fun f cdv A outer s H E ds M R Y hr h=>?_)
 have hu:=hr.units
 obtain⟨y,u,g,rfl,⟨h1,h2⟩,k⟩:=h
 refine⟨_,(d5 (d7 (e9 (a7 (jc c5W hr (a7 (jx (a8 0) d3) (a7 (a8 1) a9))) (a7 (jc c5W hr (a7 (jx (a8 0) d3) (a7 (a8 1) a9))) a9))))),?_⟩
 walk_at "sim"
 exact⟨h1,h2,k⟩
theorem a7F(T:Txt K mg)(d:Df K mg "_law_next" Z7 ["pool","base"]):Fn P w K mg base "_law_next" 1 ["pool","base"] N2:=by
 have sc:=a6X
 refine i4 d sc (fun ds M R Y h=>?_) (fun f cdv A outer s H E ds M R Y hr h=>?_)
 ·obtain⟨p,b,rfl,_⟩:=h;rfl
 ·obtain⟨p,b,rfl,⟨x,y,z,hM⟩,hb,hl,k⟩:=h
  refine⟨_,(d4 (g7 (jtm a5y (jx (a8 0) d3) d3) (d4 (jst 2 sc.nd (g6 a4C (jx (a8 0) d3) (a8 1))) (d4 (p9 (g6 E9 (jx (a8 0) d3) (a8 1)) (b2f (a8 0) d3)) (d5 (d7 (a8 2))))) f7) (d4 (p9 (g6 F1 (jx (a8 0) d3) d3) (b2f (a8 0) d3)) (d4 (jst 3 sc.nd (g6 a4C (g6 F1 (jx (a8 0) d3) (g6 o6 d3 (jx (a8 0) d3))) d3)) (d4 (jst 4 sc.nd (g6 a4C (g6 o6 (g6 F1 (a8 3) d3) (g6 F1 (a8 3) d3)) d3)) (d5 (d7 (g6 a4C (g6 E9 (g6 a4C (g6 o6 (a8 4) (a8 4)) d3) d3) (a8 1)))))))),?_⟩
  refine⟨_,rfl,_,a0I hM rfl,_,rfl,_,rfl,?_⟩
  refine b3o (fun h0=>?_) (fun h0=>?_)
  ·refine⟨_,rfl,_,a0I hM rfl,_,rfl,_,_,rfl,rfl,hb,?_⟩
   refine⟨_,rfl,_,a0I hM rfl,_,rfl,_,_,rfl,rfl,⟨by omega,hl⟩,_,rfl,_,_,_,_,rfl,rfl,hM,rfl,?_⟩
   exact⟨_,rfl,k _ _ (d0Y _ (by omega)) (d0D _ hb) (u3.upd _ _ _)⟩
  ·refine⟨_,rfl,_,a0I hM rfl,_,rfl,_,rfl,_,_,_,_,rfl,rfl,hM,rfl,?_⟩
   refine⟨_,rfl,_,a0I h8 rfl,_,rfl,_,a0I h8 rfl,_,_,rfl,rfl,a9o (by decide) (by decide),_,rfl,_,_,rfl,rfl,(by show(0:Int)<1000000007;decide),?_⟩
   refine⟨_,rfl,_,rfl,_,rfl,_,rfl,_,_,rfl,rfl,c5B (by decide) (by decide) (by decide) (by decide),_,_,rfl,rfl,(by show(0:Int)<998244353;decide),?_⟩
   refine⟨_,rfl,_,rfl,_,_,rfl,rfl,c4d (by decide) (by decide),_,_,rfl,rfl,(by show(0:Int)<2147483647;decide),_,_,rfl,rfl,c5N,_,rfl,_,_,rfl,rfl,hb,?_⟩
   exact k _ _ (d0Y _ (by omega)) (d0D _ hb) (u3.upd _ _ _)
theorem a5s(T:Txt K mg)(d:Df K mg "_law_ratio" L7 ["pool","tops","bottoms"])(c5Y:Fn P w K mg base "ratio" 2 ["top","bottom"] X6)(c5T:Fn P w K mg base "_law_next" 1 ["pool","base"] N2):Fn P w K mg base "_law_ratio" 3 ["pool","tops","bottoms"] a2P:=by
 have sc:=a0U
 refine i4 d sc (by walk_at "len") (fun f cdv A outer s H E ds M R Y hr h=>?_)
 have hu:=hr.units
 obtain⟨p,x,y,rfl,hp,ts,bs,P,rfl,rfl,⟨⟨t0,t1⟩,⟨b0,b1⟩,hb,hP⟩,k⟩:=h
 refine⟨_,(d5 (d7 (jc c5Y hr (a7 (jx (a8 1) (jc c5T hr (a7 (a8 0) (a7 (p0 F3 rfl T.b_len B7 (a7 (a8 1) a9)) a9)))) (a7 (jx (a8 2) (jc c5T hr (a7 (a8 0) (a7 (p0 F3 rfl T.b_len B7 (a7 (a8 2) a9)) a9)))) a9))))),?_⟩
 walk_at "sim"
 have e1:(ts.map D.int).length=ts.length:=c8Y ..
 have e2:(bs.map D.int).length=bs.length:=c8Y ..
 refine⟨hp,by omega,lg9 (by omega),fun r M1 r0 r1 s1=>L9 r0 r1 fun d hd=>⟨s1.pool,by omega,lg9 (by omega),fun r' M2 r0' r1' s2=>L9 r0' r1' fun d' hd'=>?_⟩⟩
 obtain⟨t,ht,rfl⟩:=c9t.mp hd
 obtain⟨b,hb',rfl⟩:=c9t.mp hd'
 have hb2:=hb b hb'
 exact⟨_,_,rfl,by omega,c80 (F0 (k:=10) (by omega) (by decide)) (by decide),k _ _ (hP t ht b hb') (s1.trans s2)⟩
theorem a5w(T:Txt K mg)(d:Df K mg "_law_fewer" V0 ["pool","hall"])(c5T:Fn P w K mg base "_law_next" 1 ["pool","base"] N2):Fn P w K mg base "_law_fewer" 2 ["pool","hall"] b0o:=by
 have sc:=a5c
 refine i4 d sc (by walk_at "len") (fun f cdv A outer s H E ds M R Y hr h=>?_)
 have hu:=hr.units
 obtain⟨p,near,bs,far,rfl,hp,hw,k⟩:=h
 have hbl:=hw.len
 refine⟨_,(d5 (d7 (e9 (a7 (jx (a8 1) d3) (a7 (G9 [0] ["part"] ["pool"] rfl (by decide +kernel) rfl (by decide +kernel) (by decide +kernel) rfl (a18 ⟨rfl,rfl⟩) (a18 (Or.inl rfl)) (A1 (jx (a8 1) d3)) (fun _ _ _ _ _ _=>(jn 0 (show(["part","pool"]:List Str).Nodup by decide +kernel))) (fun _ _ _ _ _ _=>(a0H (D6 (C8 (jtm a2R (jx (a8 0) d3) i3) (B6 (jtm R5 (jc c5T hr (a7 (a8 1) (a7 d3 a9))) d3)))))) (fun _ _ _ _ _ _=>(a8 0))) (a7 (jx (a8 1) d3) a9)))))),?_⟩
 walk_at "sim"
 have hs:1000≤sizeLine:=by decide
 refine b9p (fun i ys M'=>∃ cs:List (Str × Rat),ys=cs.map f9∧u3 p M M'∧Ea (bs.take i) cs∧cs.length≤i∧∀ x∈cs,x∈bs) ⟨[],rfl,u3.refl hp,.nil,c9b _,fun x hx=>by cases hx⟩ (fun _ _ _ _=>by simp only[o9]) ?_ ?_
 ·rintro i x ys M' hx ⟨cs,rfl,st,ea,cl,hcs⟩
  have hxm:=c81 hx
  have hi:=(c8W.mp hx).1
  have tk:bs.take (i+1)=bs.take i++[x]:=by rw[c9T,hx];rfl
  have keep:∀ M5,u3 p M M5→(cs.map f9).length<sizeLine∧∃ cs':List (Str × Rat),cs.map f9++[f9 x]=cs'.map f9∧u3 p M M5∧Ea (bs.take (i+1)) cs'∧cs'.length≤i+1∧∀ x∈cs',x∈bs:=fun M5 s5=>⟨by rw[c8Y];omega,cs++[x],by rw[c9f];rfl,s5,by rw[tk];exact ea.app (.keep x .nil),by rw[c9h];show _+1≤_;omega,fun y hy=>by
   rcases c9g.mp hy with hy|hy
   ·exact hcs y hy
   ·rw[c88.mp hy];exact hxm⟩
  walk_at "sim"
  refine⟨fun _=>keep _ st,fun hsp=>⟨st.pool,by decide,fun r M5 r0 r1 s5=>⟨fun _=>keep _ (st.trans s5),fun _=>⟨cs,rfl,st.trans s5,?_,by omega,hcs⟩⟩⟩⟩
  rw[tk]
  obtain⟨w,q0⟩:=x
  have hsp:w=Str.ofString "stop" := hsp
  subst hsp
  have:=ea.app (.drop q0 .nil)
  rwa [c9M]at this
 ·rintro ys M' ⟨cs,rfl,st,ea,cl,hcs⟩
  rw[c9k]at ea
  exact k cs M' ea (ea.w hw fun x hx=>.inl (hcs x hx)) st
theorem a5o(T:Txt K mg)(d:Df K mg "_law_wider" U3 ["pool","hall"])(c6d:Fn P w K mg base "plus" 3 ["one","other"] K8)(c5V:Fn P w K mg base "_law_ratio" 3 ["pool","tops","bottoms"] a2P):Fn P w K mg base "_law_wider" 4 ["pool","hall"] b0e:=by
 have sc:=a45
 refine i4 d sc (by walk_at "len") (fun f cdv A outer s H E ds M R Y hr h=>?_)
 have hu:=hr.units
 obtain⟨p,near,bs,far,rfl,hp,⟨hw,hz⟩,k⟩:=h
 have hbl:=hw.len
 refine⟨_,(d4 (jst 2 sc.nd (W4 a9)) (d4 (u8 PassesOwn.never rfl (A1 (jx (a8 1) d3)) (i0 (n:=2) rfl (d6 (jn 3 sc.nd) (d6 (jn 4 sc.nd) g9))) (J6 (g7 (jtm B2 (a8 3) i3) (d5 (jst 4 sc.nd (jc c6d hr (a7 (a8 4) (a7 (jc c5V hr (a7 (a8 0) (a7 (j9 (a7 d3 (a7 d3 (a7 d3 a9)))) (a7 (j9 (a7 d3 (a7 d3 (a7 d3 a9)))) a9)))) a9))))) f7) (d5 (C2 (R8 PySem.F.slot_list_append PySem.F.type_list_append C4 (a8 2) (a7 (e9 (a7 (a8 3) (a7 (a8 4) a9))) a9)))))) (d5 (d7 (L5 (e9 (a7 (jx (a8 1) d3) (a7 (G8 (a8 2)) (a7 (jx (a8 1) d3) a9))))))))),?_⟩
 walk_at "sim"
 intro l hl
 have hlp:l≠p:=fun e=>by obtain⟨_,_,_,hq⟩:=hp;rw[e,hq]at hl;cases hl
 refine O5.by (fun i e M'=>∃(cs:List (Str × Rat)) (z3 z4:Option D),e=[some (D.ref p),some (D.tup [d9 near,D.vl (c97 f9 bs),d9 far]),some (D.ref l),z3,z4]∧M' l=some (.lst (cs.map f9))∧u3 p M M'∧Ea (bs.take i) cs∧cs.length=i∧∀ x∈cs,x∈bs∨(x.1 = "stop" ∧ 0<x.2∧sz x.2≤3000)) ⟨[],_,_,rfl,h8,(u3.refl hp).put hl hlp,.nil,rfl,fun x hx=>by cases hx⟩ (fun _ _ _ _ _=>by simp only[o9]) ?_ ?_
 ·rintro i dd e M' hd ⟨cs,z3,z4,rfl,hM,st,ea,cl,hcs⟩
  rw[c83]at hd
  obtain⟨x,hx,rfl⟩:=c9o.mp hd
  have hxm:=c81 hx
  have hi:=(c8W.mp hx).1
  have zx:=hz x hxm
  have tk:bs.take (i+1)=bs.take i++[x]:=by rw[c9T,hx];rfl
  unfold f9
  walk_at "sim"
  refine a1q (fun e' M5=>∃ q:Rat,e'=[some (D.ref p),some (D.tup [d9 near,D.vl (c97 f9 bs),d9 far]),some (D.ref l),some (.str x.1),some (d9 q)]∧M5 l=some (.lst (cs.map f9))∧u3 p M M5∧(q=x.2∨(x.1 = "stop" ∧ x.2≤q∧sz q≤3000))) ?_ ?_
  ·walk_at "sim"
   refine⟨fun hs=>⟨st.pool,[0,1,3],[1,2,1000],fun q=>0≤q∧sz q≤10,rfl,rfl,⟨by decide,by decide,by decide,b2m (by decide) (by decide) (by decide)⟩,?_⟩,fun _=>⟨_,rfl,hM,st,.inl rfl⟩⟩
   rintro q M5 ⟨q0,qz⟩ s5
   have:=RM.a01 x.2 q
   exact⟨by omega,_,rfl,s5.keep l _ hlp hM,st.trans s5,.inr ⟨hs,by grind,by omega⟩⟩
  ·rintro e' M5 ⟨q,rfl,hM5,st5,hq⟩
   walk_at "sim"
   refine J8 hM5 (O6 hM5 (by rw[c8Y];omega) ⟨cs++[(x.1,q)],_,_,rfl,by rw[h8,c9f];rfl,st5.put hl hlp,?_,by rw[c9h,cl];rfl,fun y hy=>?_⟩)
   ·rw[tk]
    refine ea.app ?_
    obtain⟨w,q0⟩:=x
    rcases hq with rfl|⟨hs,hle,_⟩
    ·exact .keep _ .nil
    ·have hs:w=Str.ofString "stop" := hs
     subst hs
     exact .wide q0 q hle .nil
   ·rcases c9g.mp hy with hy|hy
    ·exact hcs y hy
    ·rw[c88.mp hy]
     rcases hq with rfl|⟨hs,hle,hz3⟩
     ·exact .inl hxm
     ·refine .inr ⟨hs,?_,hz3⟩
      rcases hw.part x hxm with h1|h1
      ·rw[hs]at h1;exact absurd h1 (by decide +kernel)
      ·have:=h1.2;show 0<q;grind
 ·rw[c8Y]
  rintro e M' ⟨cs,z3,z4,rfl,hM,st,ea,cl,hcs⟩
  rw[c9k]at ea
  walk_at "sim"
  rw[P7 hM]
  walk_at "sim"
  exact J9 (M2:=a0Q M' l) (fun _ _ h=>h) (k cs _ ea (ea.w hw hcs) (st.del hl hlp))
theorem a5v(T:Txt K mg)(d:Df K mg "_law_lines" U9 ["hall"])(c6y:Fn P w K mg base "_law_parts" 1 ["hall"] a3k)(c6v:Fn P w K mg base "_law_part" 5 ["part","ray"] a4k):Fn P w K mg base "_law_lines" 6 ["hall"] a1N:=by
 have sc:=a5b
 refine i4 d sc (by walk_at "len") (fun f cdv A outer s H E ds M R Y hr h=>?_)
 have hu:=hr.units
 obtain⟨near,bs,far,rfl,hok,k⟩:=h
 have hl:=hok.len
 have hl2:=O2 near far bs
 refine⟨_,(d4 (jst 1 sc.nd (e9 (a7 (e9 (a7 d3 (a7 d3 a9))) (a7 (e9 (a7 d3 (a7 d3 a9))) a9)))) (d4 (jst 2 sc.nd (e9 (a7 (e9 (a7 d3 (a7 d3 a9))) (a7 (e9 (a7 d3 (a7 d3 a9))) a9)))) (d4 (jst 3 sc.nd (W4 a9)) (d4 (u8 PassesOwn.never rfl (A1 (jc c6y hr (a7 (a8 0) a9))) (i0 (n:=3) rfl (d6 (jn 4 sc.nd) (d6 (jn 5 sc.nd) (d6 (jn 6 sc.nd) g9)))) (J6 (g7 (jtm B2 (jx (a8 6) d3) i3) (d5 (C2 (R8 PySem.F.slot_list_append PySem.F.type_list_append C4 (a8 3) (a7 (e9 (a7 (a8 4) (a7 (a8 5) (a7 (e9 (a7 (jx (a8 1) d3) (a7 (jx (a8 2) d3) (a7 (jx (a8 6) d3) a9)))) a9)))) a9)))) f7) (d4 (jst 1 sc.nd (jc c6v hr (a7 (a8 6) (a7 (a8 1) a9)))) (d5 (jst 2 sc.nd (jc c6v hr (a7 (a8 6) (a7 (a8 2) a9)))))))) (d5 (d7 (L5 (G8 (a8 3))))))))),?_⟩
 walk_at "sim"
 intro p hp
 refine⟨hl,?_⟩
 refine O5.by (fun i e M'=>∃ z6 z7 z8:Option D,e=[some (D.tup [d9 near,D.vl (c97 f9 bs),d9 far]),some (v6 (g8 ((d8 near bs far).take i) (1,0)).1 (g8 ((d8 near bs far).take i) (1,0)).2),some (v6 (g8 ((d8 near bs far).take i) (0,1)).1 (g8 ((d8 near bs far).take i) (0,1)).2),some (D.ref p),z6,z7,z8]∧M'=B9 M p (.lst (hlN (j5 near bs far) i))) ⟨_,_,_,rfl,rfl⟩ (fun i e M' _ _=>by simp only[o9]) ?_ ?_
 ·rintro i dd e M' hd ⟨z6,z7,z8,rfl,rfl⟩
  obtain⟨w,n,x,rfl,hT,hx⟩:=b0Q hd
  have t4:=CD.t4 (hok.cd i)
  have a1:sz (g8 ((d8 near bs far).take i) (1,0)).1≤230:=t4.a
  have a2:sz (g8 ((d8 near bs far).take i) (0,1)).1≤230:=t4.b
  have b1:sz (g8 ((d8 near bs far).take i) (1,0)).2≤230:=t4.c
  have b2:sz (g8 ((d8 near bs far).take i) (0,1)).2≤230:=t4.d
  have q2:=hok.szs x (c81 hx)
  have o1:=O0 hx (1,0)
  have o2:=O0 hx (0,1)
  have hi:=(c8W.mp hx).1
  have on:=c2k hT
  rw[I0]at on
  have l1:=b89 (j5 near bs far) i
  walk_at "sim"
  refine a1q (fun e' M'=>e'=[some (D.tup [d9 near,D.vl (c97 f9 bs),d9 far]),some (v6 (g8 ((d8 near bs far).take i) (1,0)).1 (g8 ((d8 near bs far).take i) (1,0)).2),some (v6 (g8 ((d8 near bs far).take i) (0,1)).1 (g8 ((d8 near bs far).take i) (0,1)).2),some (D.ref p),some w,some n,some (f9 x)]∧M'=B9 M p (.lst (hlN (j5 near bs far) (i+1)))) ?_ ?_
  ·walk_at "sim"
   refine⟨fun h1=>?_,fun h1=>by rw[on,if_neg h1]⟩
   refine J8 h8 (O6 h8 (by omega) ?_)
   rw[Y4,on,if_pos h1]
  ·rintro e' M' ⟨rfl,rfl⟩
   walk_at "sim"
   refine⟨by omega,by omega,some w,some n,some (f9 x),?_⟩
   rw[o1,o2]
 ·rintro e M' ⟨z6,z7,z8,rfl,rfl⟩
  rw[a6D,← B3]
  walk_at "sim"
  rw[P7 h8,J1 hp]
  exact J9 (M2:=M) (fun _ _ h=>h) k
theorem a5h(T:Txt K mg)(d:Df K mg "late_shown" T1 ["hall","ray","k"])(c6x:Fn P w K mg base "shows_late" 5 ["word","t","x","later","r"] a29)(c5Z:Fn P w K mg base "t_of" 4 ["table"] a1C)(c5X:Fn P w K mg base "kind_word" 6 ["table"] sKw)(c6p:Fn P w K mg base "first_two" 5 ["table","ray","lines"] N9)(c6a:Fn P w K mg base "round_of" 7 ["hall"] a1H)(c6f:Fn P w K mg base "hall_lines" 7 ["hall"] N8):Fn P w K mg base "late_shown" 8 ["hall","ray","k"] a1Q:=by
 have sc:=a4Y
 refine i4 d sc (by walk_at "len") (fun f cdv A outer s H E ds M R Y hr h=>?_)
 have hu:=hr.units
 obtain⟨x0,near,bs,far,y,u,k,rfl,hx0,⟨hw,S,cd,hS⟩,l,hl,k'⟩:=h
 have cL:=hw.cd (d8 near bs far).length
 rw[c9k]at cL
 have dL:=a2d (d8 near bs far)
 have kl:k<(p6 near bs far y u).length:=(c8W.mp hl).1
 have hN:=a0h hw cd hS l (c81 hl)
 unfold p6 at hl
 rw[c83]at hl
 obtain⟨l0,hl0,rfl⟩:=c9o.mp hl
 obtain⟨w0,hat⟩:=c4p (T:=j5 near bs far) (i:=(j5 near bs far).length) (k:=k) (l:=l0) (by rw[I0,B3];exact hl0)
 have kl2:=(c8W.mp hat).1
 have ln:=(hw.ln cd hS (c81 hl0)).2
 rcases hx0 with rfl|rfl
 all_goals
  refine⟨_,(d4 (jst 3 sc.nd (G8 (jc c6f hr (a7 (a8 0) a9)))) (d4 (g7 (D6 (C8 (jtm a0P (a8 2) d3) (B6 (jtm c5z (a8 2) (p0 F3 rfl T.b_len B7 (a7 (a8 3) a9)))))) (d5 (d7 A4)) f7) (d4 (jst 4 sc.nd (jc c6a hr (a7 (a8 0) a9))) (d4 (p9 (jx (jc c6p hr (a7 (a8 4) (a7 (a8 1) (a7 (j9 (a7 (jx (jx (a8 3) (a8 2)) d3) a9)) a9)))) d3) (i0 (n:=3) rfl (d6 (jn 5 sc.nd) (d6 (jn 6 sc.nd) (d6 (jn 7 sc.nd) g9))))) (d5 (d7 (jc c6x hr (a7 (jc c5X hr (a7 (a8 4) a9)) (a7 (jc c5Z hr (a7 (a8 4) a9)) (a7 (a8 5) (a7 (a8 6) (a7 (a8 7) a9)))))))))))),?_⟩
  walk_at "sim"
  refine⟨hw,fun p hp=>?_⟩
  rw[P7 h8,J1 hp]
  walk_at "sim"
  refine⟨fun h=>by omega,fun _=>⟨fun h=>by omega,fun _=>⟨hw,?_⟩⟩⟩
  refine⟨hlD w0 l0,y3 (n:=k) hat,?_⟩
  unfold hlD
  walk_at "sim"
  refine⟨d8 near bs far,[l0],rfl,rfl,⟨S,cL,cd,hS,by show 1≤40;decide,fun x hx=>by rw[c88.mp hx];exact ln⟩,?_⟩
  walk_at "sim"
  refine⟨_,rfl,cL,_,rfl,cL,_,rfl,rfl,⟨cL,dL,hN.xf,hN.r,hN.p⟩,k'⟩
theorem a20(T:Txt K mg)(d:Df K mg "_law_numbers" N5 ["hall","ray"])(c6z:Fn P w K mg base "_law_lines" 6 ["hall"] a1N)(c6d:Fn P w K mg base "plus" 3 ["one","other"] K8)(c5W:Fn P w K mg base "times" 3 ["one","other"] F5)(c6j:Fn P w K mg base "_law_round" 6 ["hall","ray"] a0d):Fn P w K mg base "_law_numbers" 7 ["hall","ray"] a4h:=by
 have sc:=a2Y
 refine i4 d sc (by walk_at "len") (fun f cdv A outer s H E ds M R Y hr h=>?_)
 have hu:=hr.units
 obtain⟨near,bs,far,y,u,rfl,⟨hok,cd⟩,k⟩:=h
 rw[show(p6 near bs far y u).map p5=(A5 (d8 near bs far) (d8 near bs far).length).map (c0l (d8 near bs far) y u)by unfold p6;rw[c9N];rfl]at k
 have cL:=hok.cd (d8 near bs far).length
 rw[c9k]at cL
 have ray:=(V9 cL cd).t2
 have r1:=ray.y
 have r2:=ray.u
 have ty:=cd.t2.y
 have tu:=cd.t2.u
 have hl:=hok.len
 have hl2:=O2 near far bs
 have sl:=K5 (d8 near bs far) (d8 near bs far).length
 have hz:=b1M hok.cd (d8 near bs far).length
 refine⟨_,(d4 (jst 2 sc.nd (jc c6j hr (a7 (a8 0) (a7 (a8 1) a9)))) (d4 (jst 3 sc.nd (W4 a9)) (d4 (u8 PassesOwn.never rfl (A1 (jc c6z hr (a7 (a8 0) a9))) (i0 (n:=3) rfl (d6 (jn 4 sc.nd) (d6 (jn 5 sc.nd) (d6 (i0 (n:=3) rfl (d6 (jn 6 sc.nd) (d6 (jn 7 sc.nd) (d6 (jn 8 sc.nd) g9)))) g9)))) (d4 (jst 9 sc.nd (jc c6d hr (a7 (jc c5W hr (a7 (a8 6) (a7 (jx (a8 1) d3) a9))) (a7 (jc c5W hr (a7 (a8 7) (a7 (jx (a8 1) d3) a9))) a9)))) (d5 (C2 (R8 PySem.F.slot_list_append PySem.F.type_list_append C4 (a8 3) (a7 (e9 (a7 (a8 9) (a7 (jc c6d hr (a7 (jc c5W hr (a7 (a8 6) (a7 (jx (a8 2) d3) a9))) (a7 (jc c5W hr (a7 (a8 7) (a7 (jx (a8 2) d3) a9))) a9))) (a7 (a8 8) a9)))) a9)))))) (d5 (d7 (L5 (G8 (a8 3)))))))),?_⟩
 walk_at "sim"
 refine⟨⟨hok,_,cd,by decide⟩,fun p hp=>⟨hok,?_⟩⟩
 refine O5.by (fun i e M'=>∃ z4 z5 z6 z7 z8 z9:Option D,e=[some (D.tup [d9 near,D.vl (c97 f9 bs),d9 far]),some (v6 y u),some (v6 (g8 (d8 near bs far) (y,u)).1 (g8 (d8 near bs far) (y,u)).2),some (D.ref p),z4,z5,z6,z7,z8,z9]∧M'=B9 M p (.lst (((A5 (d8 near bs far) (d8 near bs far).length).take i).map (c0l (d8 near bs far) y u)))) ⟨_,_,_,_,_,_,rfl,rfl⟩ (fun i e M' _ _=>by simp only[o9]) ?_ ?_
 ·rintro i dd e M' hd ⟨z4,z5,z6,z7,z8,z9,rfl,rfl⟩
  obtain⟨w0,l,rfl,hli⟩:=b88 hd
  rw[I0,B3]at hli
  obtain⟨s1,s2⟩:=hz l (c81 hli)
  have hi:=(c8W.mp hli).1
  have m1:=RM.y8 l.1 y
  have m2:=RM.y8 l.2.1 u
  have m3:=RM.y8 l.1 (g8 (d8 near bs far) (y,u)).1
  have m4:=RM.y8 l.2.1 (g8 (d8 near bs far) (y,u)).2
  have tk:(A5 (d8 near bs far) (d8 near bs far).length).take (i+1)=(A5 (d8 near bs far) (d8 near bs far).length).take i++[l]:=by rw[c9T,hli];rfl
  unfold hlD p5
  walk_at "sim"
  refine⟨by omega,by omega,by omega,J8 h8 ⟨by omega,by omega,by omega,O6 h8 (by rw[c8Y,c9W];omega) ⟨_,_,_,_,_,_,rfl,?_⟩⟩⟩
  rw[Y4,tk,c9f];rfl
 ·rintro e M' ⟨z4,z5,z6,z7,z8,z9,rfl,rfl⟩
  rw[b6i,I0,B3,c9k]
  walk_at "sim"
  rw[P7 h8,J1 hp]
  exact J9 (M2:=M) (fun _ _ h=>h) k
theorem a5u(T:Txt K mg)(d:Df K mg "_law_march" U8 ["t","x","further","r","rounds"]):Fn P w K mg base "_law_march" 1 ["t","x","further","r","rounds"] b0l:=by
 have sc:=a5a
 refine i4 d sc (by walk_at "len") (fun f cdv A outer s H E ds M R Y hr h=>?_)
 have hu:=hr.units
 obtain⟨t,x,f',r,N,rfl,⟨ht,hl,hN⟩,k⟩:=h
 have zx:=hl.x
 have zf:=hl.f
 have zr:=hl.r
 have r0:=hl.p
 have xf:=hl.xf
 have zx:sz x≤3000:=zx
 have zf:sz f'≤3000:=zf
 have zr:sz r≤3000:=zr
 have xf:sz x+sz f'≤4200:=xf
 have r0:0<r:=r0
 have rn0:=a7I r0
 have rd0:=r.den_pos
 have td:=t9 t ht
 have tn:=u4 t ht
 have td':(t.den:Int).natAbs<2 ^ 231:=by rw[c8V];exact td
 have rd:=t9 r zr
 have rd':(r.den:Int).natAbs<2 ^ 3000:=by rw[c8V];exact rd
 have rn:=u4 r zr
 have xn:=u4 x zx
 have fn:=u4 f' zf
 have xd:(x.den:Int).natAbs<2 ^ 3000:=by rw[c8V];exact t9 x zx
 have fd:(f'.den:Int).natAbs<2 ^ 3000:=by rw[c8V];exact t9 f' zf
 have dn:∀{a:Int} {n:Nat},(a*(r.den:Int)).natAbs<n→a.natAbs<n:=fun{a n} h=>by
  rw[c9q,c8V]at h
  exact c9e (Nat.le_mul_of_pos_right _ rd0) h
 have dW:∀{W n:Nat},(r.num*(W:Int)).natAbs<n→(W:Int).natAbs<n:=fun{W n} h=>by
  rw[c9q]at h
  exact c9e (d1u _ (by omega)) h
 have e1:=w6 x
 have e2:=w6 f'
 have e3:=w6 r
 have st0:a5F t (x,f',r) 0 (x.num*(f'.den:Int)*(r.den:Int),f'.num*(x.den:Int)*(t.den:Int)*(r.den:Int),r.num*((x.den*f'.den:Nat):Int)):=by
  refine⟨⟨x.den*f'.den*r.den,d0G (d0G x.den_pos f'.den_pos) rd0,?_,?_,?_⟩,?_,?_,?_⟩
  ·show((x.num*(f'.den:Int)*(r.den:Int):Int):Rat)=x*((x.den*f'.den*r.den:Nat):Rat)
   rw[c82,c82,c87,c87,c9p,c9p,← e1];grind
  ·show((f'.num*(x.den:Int)*(t.den:Int)*(r.den:Int):Int):Rat)=f'*(((x.den*f'.den*r.den:Nat):Rat)*(t.den:Rat))
   rw[c82,c82,c82,c87,c87,c87,c9p,c9p,← e2];grind
  ·show((r.num*((x.den*f'.den:Nat):Int):Int):Rat)=r*((x.den*f'.den*r.den:Nat):Rat)
   rw[c82,c87,c9p,c9p,c9p,← e3];grind
  ·exact r9 (e7 (e7 xn fd) rd') (by decide)
  ·exact r9 (e7 (e7 (e7 fn xd) td') rd') (by decide)
  ·rw[c9P];exact r9 (e7 rn (e7 xd fd)) (by decide)
 refine⟨_,(d4 (jst 5 sc.nd (g6 o6 (jx (a8 1) d3) (jx (a8 2) d3))) (d4 (jst 6 sc.nd (g6 o6 (jx (a8 1) d3) (jx (a8 2) d3))) (d4 (jst 7 sc.nd (g6 o6 (g6 o6 (jx (a8 2) d3) (jx (a8 1) d3)) (jx (a8 0) d3))) (d4 (u8 PassesOwn.never rfl (P2 rfl T.b_range (a7 (a8 4) a9)) (jn 8 sc.nd) (d4 (g7 (jtm a5y (g6 o6 (p0 a0Z rfl T.b_abs R0 (a7 (a8 6) a9)) (jx (a8 3) d3)) (g6 o6 (jx (a8 3) d3) (a8 5))) (d5 (d7 (a8 8))) f7) (d4 (a7M (i:=6) (j:=7) rfl sc.nd rfl rfl (by decide) rfl rfl (a7 (a8 7) (a7 (g6 a1Z (g6 o6 (jx (a8 0) d3) (a8 7)) (g6 o6 (g6 o6 (jx (a8 0) d3) (jx (a8 0) d3)) (a8 6))) a9))) (d5 (jst 5 sc.nd (g6 o6 (a8 5) (jx (a8 0) d3))))))) (d5 (d7 D8)))))),?_⟩
 walk_at "sim"
 refine⟨u5 _ _ xd fd (by decide),u5 _ _ xn fd (by decide),u5 _ _ fn xd (by decide),u5 _ _ (e7 fn xd) td' (by decide),⟨by omega,by omega⟩,?_⟩
 rw[c9X]
 refine O5.by (fun i e M'=>M'=M∧∃(a b:Int) (W:Nat) (z:Option D),e=[some (d9 t),some (d9 x),some (d9 f'),some (d9 r),some (.int (N:Int)),some (.int (W:Int)),some (.int a),some (.int b),z]∧a5F t (x,f',r) i (a*(r.den:Int),b*(r.den:Int),r.num*(W:Int))∧∀ n,n<i→¬ A7 t (x,f',r) n) ⟨rfl,_,_,_,_,by rw[c9P],st0,fun n hn=>absurd hn (by omega)⟩ (fun _ _ _ _ _=>trivial) ?_ ?_
 ·rintro i dd e M' hd ⟨rfl,a,b,W,z,rfl,hst,hno⟩
  obtain⟨hi,rfl⟩:=a2p hd
  rw[show(0:Int)+(i:Int)=(i:Int)by omega]
  have ba:=dn hst.b1
  have bb:=dn hst.b2
  have bW:=dW hst.b3
  have hbe:=hst.bey
  rw[show(a*(r.den:Int)).natAbs=a.natAbs*r.den by rw[c9q,c8V],c9P]at hbe
  have hnx:=hst.next ht
  walk_at "sim"
  refine⟨u5 _ _ (by rw[c8V];exact ba) rd' (by omega),u5 _ _ rn bW (by omega),fun h1=>?_,fun h1=>⟨u5 _ _ tn bb (by omega),u5 _ _ td' td' (by decide),u5 _ _ (e7 td' td') ba (by omega),u5 _ _ bW td' (by omega),_,_,W*t.den,_,by rw[c9P],?_,fun n hn=>?_⟩⟩
  ·rw[b0H hi (hbe.mp h1) hno]at k
   exact k
  ·have e4:(t.num*(b*(r.den:Int)) - (t.den:Int)*(t.den:Int)*(a*(r.den:Int)))=(t.num*b - (t.den:Int)*(t.den:Int)*a)*(r.den:Int):=by rw[Int.sub_mul];simp only[Int.mul_assoc]
   have e5:r.num*(W:Int)*(t.den:Int)=r.num*((W*t.den:Nat):Int):=by rw[c9P,Int.mul_assoc]
   rw[← e4,← e5];exact hnx
  ·rcases c93 n i with z|z
   ·exact hno n z
   ·have:n=i:=by omega
    subst this
    exact fun z=>h1 (hbe.mpr z)
 ·rw[p7]
  rintro e M' ⟨rfl,a,b,W,z,rfl,hst,hno⟩
  walk_at "sim"
  rw[b0I hno]at k
  exact k
theorem b3d(T:Txt K mg)(d:Df K mg "_law_t" a4d ["hall"])(c6d:Fn P w K mg base "plus" 3 ["one","other"] K8)(c6j:Fn P w K mg base "_law_round" 6 ["hall","ray"] a0d):Fn P w K mg base "_law_t" 7 ["hall"] c1g:=by
 have sc:=b2X
 refine i4 d sc (by walk_at "len") (fun f cdv A outer s H E ds M R Y hr h=>?_)
 have hu:=hr.units
 obtain⟨near,bs,far,rfl,hok,k⟩:=h
 have cL:=hok.cd (d8 near bs far).length
 rw[c9k]at cL
 have t4:=CD.t4 cL
 have z3:sz (g8 (d8 near bs far) (1,0)).1≤230:=t4.a
 have z6:sz (g8 (d8 near bs far) (0,1)).2≤230:=t4.d
 refine⟨_,(d4 (jst 1 sc.nd (jc c6j hr (a7 (a8 0) (a7 (e9 (a7 (e9 (a7 d3 (a7 d3 a9))) (a7 (e9 (a7 d3 (a7 d3 a9))) a9))) a9)))) (d4 (jst 2 sc.nd (jc c6j hr (a7 (a8 0) (a7 (e9 (a7 (e9 (a7 d3 (a7 d3 a9))) (a7 (e9 (a7 d3 (a7 d3 a9))) a9))) a9)))) (d5 (d7 (jc c6d hr (a7 (jx (a8 1) d3) (a7 (jx (a8 2) d3) a9))))))),?_⟩
 walk_at "sim"
 exact⟨⟨hok,_,cdA,by decide⟩,⟨hok,_,cdB,by decide⟩,by omega,k⟩
theorem a1j(T:Txt K mg)(d:Df K mg "_law_first_stop" G4 ["hall","ray","rounds"])(c6Q:Fn P w K mg base "_law_numbers" 7 ["hall","ray"] a4h)(c6Y:Fn P w K mg base "_law_march" 1 ["t","x","further","r","rounds"] b0l)(c7B:Fn P w K mg base "_law_t" 7 ["hall"] c1g):Fn P w K mg base "_law_first_stop" 8 ["hall","ray","rounds"] a4i:=by
 have sc:=a06
 refine i4 d sc (by walk_at "len") (fun f cdv A outer s H E ds M R Y hr h=>?_)
 have hu:=hr.units
 obtain⟨near,bs,far,y,u,N,rfl,⟨hw,cd,hN⟩,k0,k⟩:=h
 have cL:=hw.cd (d8 near bs far).length
 rw[c9k]at cL
 have zt:sz (trQ (tbQ (d8 near bs far)))≤231:=CD.tr cL
 have hok:=a0h hw cd (by decide)
 have hlen:=a2x near far bs y u
 have hbl:=hw.len
 refine⟨_,(d4 (jst 3 sc.nd (jc c7B hr (a7 (a8 0) a9))) (d4 (jst 4 sc.nd (W4 a9)) (d4 (u8 PassesOwn.never rfl (R7 rfl T.b_enumerate (a7 (jc c6Q hr (a7 (a8 0) (a7 (a8 1) a9))) a9)) (i0 (n:=2) rfl (d6 (jn 5 sc.nd) (d6 (i0 (n:=3) rfl (d6 (jn 6 sc.nd) (d6 (jn 7 sc.nd) (d6 (jn 8 sc.nd) g9)))) g9))) (d4 (jst 9 sc.nd (jc c6Y hr (a7 (a8 3) (a7 (a8 6) (a7 (a8 7) (a7 (a8 8) (a7 (a8 2) a9))))))) (d5 (g7 (jtm a0F (a8 9) D8) (d5 (C2 (R8 PySem.F.slot_list_append PySem.F.type_list_append C4 (a8 4) (a7 (e9 (a7 (a8 9) (a7 (a8 5) a9))) a9)))) f7)))) (d5 (d7 (L5 (b2g hu rfl rfl T.b_min b6V (a7 (G8 (a8 4)) a9)))))))),?_⟩
 walk_at "sim"
 refine⟨hw,fun p hp=>⟨⟨hw,cd⟩,?_⟩⟩
 generalize p6 near bs far y u=ls at *
 generalize trQ (tbQ (d8 near bs far))=t at *
 rw[a7V]
 refine O5.by (fun i e M'=>∃(ps:List (Int × Int)) (z5 z6 z7 z8 z9:Option D),e=[some (D.tup [d9 near,D.vl (c97 f9 bs),d9 far]),some (v6 y u),some (.int (N:Int)),some (d9 t),some (.ref p),z5,z6,z7,z8,z9]∧M'=B9 M p (.lst (ps.map a2q))∧ps.length≤i∧(∀ q∈ps,∃(n j:Nat) (l:Rat × Rat × Rat),q=((n:Int),(j:Int))∧j<i∧n<N∧ls[j]? = some l∧A7 t l n∧∀ n',n'<n→¬ A7 t l n')∧∀(j:Nat) l,j<i→ls[j]? = some l→(∃ n,n<N∧A7 t l n)→∃ n:Nat,((n:Int),(j:Int))∈ps) ⟨[],_,_,_,_,_,rfl,rfl,c9b _,(fun q h=>by cases h),fun j l h=>absurd h (by omega)⟩ (fun _ _ _ _ _=>by simp only[o9]) ?_ ?_
 ·rintro i dd e M' hd ⟨ps,z5,z6,z7,z8,z9,rfl,rfl,hpl,h1,h2⟩
  rw[c83]at hd
  obtain⟨zz,hz,rfl⟩:=c9o.mp hd
  obtain⟨l,rfl,hli⟩:∃ l,zz=(l,i)∧ls[i]? = some l:=by
   rw[d1G]at hz
   obtain⟨l,hl1,e5⟩:=c9o.mp hz
   exact⟨l,by rw[← e5];simp,hl1⟩
  have ok:=hok l (c81 hli)
  have hi:=(c8W.mp hli).1
  walk_at "sim"
  refine⟨⟨zt,ok,hN⟩,?_⟩
  cases em:Q9 t (l.1,l.2.1,l.2.2) N with
  | none =>
   have em:Q9 t l N=none:=em
   unfold c1L
   rw[a1v rfl]
   walk_at "sim"
   refine⟨ps,_,_,_,_,_,rfl,rfl,by omega,fun q hq=>?_,fun j l2 hj hl2 hex=>?_⟩
   ·obtain⟨n,j,l2,a1,a2,a3⟩:=h1 q hq
    exact⟨n,j,l2,a1,by omega,a3⟩
   ·rcases c93 j i with z|z
    ·exact h2 j l2 z hl2 hex
    ·have:j=i:=by omega
     subst this
     rw[hli]at hl2
     obtain rfl:=Option.some.inj hl2
     obtain⟨n,hn,hb⟩:=hex
     unfold Q9 at em
     exact absurd (decide_eq_true hb) (d0f.mp em n (c9Q.mpr hn))
  | some n0 =>
   have em:Q9 t l N=some n0:=em
   unfold Q9 at em
   obtain⟨b1,b2,b3⟩:=d0k.mp em
   unfold c1L
   rw[a1v rfl]
   walk_at "sim"
   refine J8 h8 (O6 h8 (by rw[c8Y];omega) ⟨ps++[((n0:Int),(i:Int))],_,_,_,_,_,rfl,?_,by rw[c9h];show _+1≤_;omega,fun q hq=>?_,fun j l2 hj hl2 hex=>?_⟩)
   ·rw[Y4,c9f];rfl
   ·rcases c9g.mp hq with hq|hq
    ·obtain⟨n,j,l2,a1,a2,a3⟩:=h1 q hq
     exact⟨n,j,l2,a1,by omega,a3⟩
    ·rw[c88.mp hq]
     exact⟨n0,i,l,rfl,by omega,c9Q.mp b2,hli,of_decide_eq_true b1,fun n' hn' hb=>by have:=b3 n' hn';rw[decide_eq_true hb]at this;cases this⟩
   ·rcases c93 j i with z|z
    ·obtain⟨n,hn⟩:=h2 j l2 z hl2 hex
     exact⟨n,d0g _ hn⟩
    ·have:j=i:=by omega
     subst this
     exact⟨n0,c9m _ (c88.mpr rfl)⟩
 ·rw[c8Y,c9C]
  rintro e M' ⟨ps,z5,z6,z7,z8,z9,rfl,rfl,hpl,h1,h2⟩
  have all:∀{j n:Nat},n<N→y4 t ls j n=true→∃ m:Nat,((m:Int),(j:Int))∈ps∧m≤n:=fun{j n} hn hb=>by
   obtain⟨l,hl,hbl⟩:=P4.mp hb
   obtain⟨m,hm⟩:=h2 j l (c8W.mp hl).1 hl ⟨n,hn,hbl⟩
   obtain⟨n2,j2,l2,e2,_,_,hl2,_,hno⟩:=h1 _ hm
   have e3:(m:Int)=n2:=congrArg Prod.fst e2
   have e4:(j:Int)=j2:=congrArg Prod.snd e2
   have:j2=j:=by omega
   subst this
   rw[hl]at hl2
   obtain rfl:=Option.some.inj hl2
   refine⟨m,hm,?_⟩
   rcases c93 n m with z|z
   ·exact absurd hbl (hno n (by omega))
   ·exact z
  walk_at "sim"
  rw[P7 h8,J1 hp]
  walk_at "sim"
  refine b4w.mpr ⟨fun z=>J9 (M2:=M) (fun _ _ h=>h) (k0 fun n j hn=>?_),fun q hq hm=>J9 (M2:=M) (fun _ _ h=>h) ?_⟩
  ·cases e5:y4 t ls j n with
   | false=>rfl
   | true =>
    obtain⟨m,hm,_⟩:=all hn e5
    rw[z]at hm;cases hm
  ·obtain⟨n,j,l,rfl,_,hn,hl,hb,hno⟩:=h1 q hq
   refine k n j hn (P4.mpr ⟨l,hl,hb⟩) (fun n' hn' j'=>?_) (fun j' hj'=>?_)
   ·cases e5:y4 t ls j' n' with
    | false=>rfl
    | true =>
     obtain⟨m,hm5,hle⟩:=all (by omega) e5
     have:=hm _ hm5
     omega
   ·cases e5:y4 t ls j' n with
    | false=>rfl
    | true =>
     obtain⟨m,hm5,hle⟩:=all hn e5
     have:=hm _ hm5
     omega
theorem a9h(T:Txt K mg)(d:Df K mg "ratio" a26 ["top","bottom"])(c6n:Fn P w K mg base "divisor" 1 ["one","other"] M7)(c6g:Fn P w K mg base "is_whole" 1 ["thing"] a1z):Fn P w K mg base "ratio" 2 ["top","bottom"] b1Q:=by
 have sc:=a8Y
 refine i4 d sc (by walk_at "len") (fun f cdv A outer s H E ds M R Y hr h=>?_)
 have hu:=hr.units
 obtain⟨a,b,rfl,⟨hb,hg⟩,k⟩:=h
 have hn:=b6p (a:=a) hb
 have hlg:((c9z a.natAbs b.natAbs:Nat):Int).natAbs.log2<9000:=by rw[c8V];exact F0 hg (by decide)
 refine⟨_,(d4 (g7 (D6 (C8 (C3 (u0 (jc c6g hr (a7 (a8 0) a9)))) (C8 (C3 (u0 (jc c6g hr (a7 (a8 1) a9)))) (B6 (jtm R5 (a8 1) d3))))) (d5 a6y) f7) (d4 (jst 2 sc.nd (jc c6n hr (a7 (p0 a0Z rfl T.b_abs R0 (a7 (a8 0) a9)) (a7 (p0 a0Z rfl T.b_abs R0 (a7 (a8 1) a9)) a9)))) (d4 (g7 (jtm a0P (a8 1) d3) (d5 (jst 2 sc.nd (A9 (a8 2)))) f7) (d5 (d7 (e9 (a7 (g6 E9 (a8 0) (a8 2)) (a7 (g6 E9 (a8 1) (a8 2)) a9)))))))),?_⟩
 walk_at "sim"
 refine⟨fun h=>absurd h hb,fun _=>⟨fun h1=>?_,fun h1=>?_⟩⟩
 ·have c1:∀ i:Int,CFd i (-((c9z a.natAbs b.natAbs:Nat):Int)):=fun i=>⟨by omega,by rw[d0c];exact hlg⟩
  exact⟨c1 _,c1 _,a3o hb (by rw[if_pos h1]) k⟩
 ·have c1:∀ i:Int,CFd i ((c9z a.natAbs b.natAbs:Nat):Int):=fun i=>⟨hn,hlg⟩
  exact⟨c1 _,c1 _,a3o hb (by rw[if_neg h1]) k⟩
theorem b0y(T:Txt K mg)(d:Df K mg "plus" a62 ["one","other"])(c6G:Fn P w K mg base "ratio" 2 ["top","bottom"] b1Q):Fn P w K mg base "plus" 3 ["one","other"] b0j:=by
 have sc:=b1O
 refine i4 d sc (by walk_at "len") (fun f cdv A outer s H E ds M R Y hr h=>?_)
 have hu:=hr.units
 obtain⟨q,r,rfl,⟨hz,hg⟩,k⟩:=h
 rw[RM.b00]at k
 refine⟨_,(d5 (d7 (jc c6G hr (a7 (g6 F1 (g6 o6 (jx (a8 0) d3) (jx (a8 1) d3)) (g6 o6 (jx (a8 1) d3) (jx (a8 0) d3))) (a7 (g6 o6 (jx (a8 0) d3) (jx (a8 1) d3)) a9))))),?_⟩
 walk_at "sim"
 exact⟨u5 _ _ (L4 q) (J7 r) (by omega),u5 _ _ (L4 r) (J7 q) (by omega),u5 _ _ (J7 q) (J7 r) (by omega),⟨c9Z (RM.E5 q) (RM.E5 r),hg⟩,k⟩
theorem a9c(T:Txt K mg)(d:Df K mg "times" a25 ["one","other"])(c6G:Fn P w K mg base "ratio" 2 ["top","bottom"] b1Q):Fn P w K mg base "times" 3 ["one","other"] a69:=by
 have sc:=a8T
 refine i4 d sc (by walk_at "len") (fun f cdv A outer s H E ds M R Y hr h=>?_)
 have hu:=hr.units
 obtain⟨q,r,rfl,⟨hz,hg⟩,k⟩:=h
 rw[RM.b0D]at k
 refine⟨_,(d5 (d7 (jc c6G hr (a7 (g6 o6 (jx (a8 0) d3) (jx (a8 1) d3)) (a7 (g6 o6 (jx (a8 0) d3) (jx (a8 1) d3)) a9))))),?_⟩
 walk_at "sim"
 exact⟨u5 _ _ (L4 q) (L4 r) (by omega),u5 _ _ (J7 q) (J7 r) (by omega),⟨c9Z (RM.E5 q) (RM.E5 r),hg⟩,k⟩
theorem a9l(T:Txt K mg)(d:Df K mg "is_ratio" a1e ["thing"])(c6n:Fn P w K mg base "divisor" 1 ["one","other"] M7)(c6g:Fn P w K mg base "is_whole" 1 ["thing"] a1z):Fn P w K mg base "is_ratio" 2 ["thing"] a7n:=by
 have sc:=a81
 refine i4 d sc (by walk_at "len") (fun f cdv A outer s H E ds M R Y hr h=>?_)
 have hu:=hr.units
 obtain⟨x,rfl,k⟩:=h
 rcases k with⟨q,rfl,k⟩|⟨n,rfl,k⟩
 ·skip
  refine⟨_,(d4 (g7 (D6 (C8 (C3 (u0 (p0 (a0j T.sub) rfl T.b_isinstance u9 (a7 (a8 0) (a7 (a0g rfl T.b_tuple S2) a9))))) (B6 (jtm a4B (p0 F3 rfl T.b_len B7 (a7 (a8 0) a9)) d3)))) (d5 (d7 A4)) f7) (d4 (p9 (a8 0) (i0 (n:=2) rfl (d6 (jn 1 sc.nd) (d6 (jn 2 sc.nd) g9)))) (d4 (g7 (D6 (C8 (C3 (u0 (jc c6g hr (a7 (a8 1) a9)))) (C8 (C3 (u0 (jc c6g hr (a7 (a8 2) a9)))) (B6 (jtm a0P (a8 2) d3))))) (d5 (d7 A4)) f7) (d5 (d7 (jm R5 (jc c6n hr (a7 (p0 a0Z rfl T.b_abs R0 (a7 (a8 1) a9)) (a7 (a8 2) a9))) d3)))))),?_⟩
  walk_at "sim"
  have h1:=q.den_pos
  have h2:q.num.natAbs.gcd q.den=1:=q.reduced
  refine⟨fun h=>absurd h (by omega),fun _=>?_⟩
  rw[h2]
  exact k
 ·skip
  refine⟨_,(d4 (g7 (D6 (C8 (C3 (u0 (p0 (a0j T.sub) rfl T.b_isinstance u9 (a7 (a8 0) (a7 (a0g rfl T.b_tuple S2) a9))))) (B6 (jtm a4B (p0 F3 rfl T.b_len B7 (a7 (a8 0) a9)) d3)))) (d5 (d7 A4)) f7) (d4 (p9 (a8 0) (i0 (n:=2) rfl (d6 (jn 1 sc.nd) (d6 (jn 2 sc.nd) g9)))) (d4 (g7 (D6 (C8 (C3 (u0 (jc c6g hr (a7 (a8 1) a9)))) (C8 (C3 (u0 (jc c6g hr (a7 (a8 2) a9)))) (B6 (jtm a0P (a8 2) d3))))) (d5 (d7 A4)) f7) (d5 (d7 (jm R5 (jc c6n hr (a7 (p0 a0Z rfl T.b_abs R0 (a7 (a8 1) a9)) (a7 (a8 2) a9))) d3)))))),?_⟩
  walk_at "sim"
  exact k
theorem a5j(T:Txt K mg)(d:Df K mg "kept_right" T6 ["table","numbers","k"])(c6r:Fn P w K mg base "less" 1 ["one","other"] a03)(c6b:Fn P w K mg base "unsigned" 1 ["one"] a6n)(c5W:Fn P w K mg base "times" 3 ["one","other"] F5)(c7l:Fn P w K mg base "plus" 3 ["one","other"] b0j)(c6H:Fn P w K mg base "times" 3 ["one","other"] a69)(c5Z:Fn P w K mg base "t_of" 4 ["table"] a1C)(c6w:Fn P w K mg base "is_ratio" 2 ["thing"] a7n):Fn P w K mg base "kept_right" 5 ["table","numbers","k"] b0n:=by
 have sc:=a40
 refine i4 d sc (by walk_at "len") (fun f cdv A outer s H E ds M R Y hr h=>?_)
 have hu:=hr.units
 obtain⟨x,l,d,rfl,m,rfl,⟨cd,hd,hl⟩,k⟩:=h
 have zt:sz (trQ m)≤231:=CD.tr cd
 have xf:=hl.xf
 have zr:=hl.r
 have zx:=hl.x
 have ax:=a02 l.1
 rcases k with⟨q,rfl,zq,k⟩|⟨n,rfl,k⟩
 ·skip
  have aq:=a02 q
  have s1:sz (1:Rat)=1:=RM.S5
  have qq:=RM.y8 q q
  have iff:X7 m l (.rat "kept" q) ↔ ¬ 1<f6 q∧q*q+1=trQ m*q∧q*l.1=l.2.1∧¬ l.2.2<f6 l.1:=⟨fun z=>by
   rcases z with⟨z,_⟩|⟨_,z⟩
   ·exact absurd z (by decide)
   ·exact z,fun z=>.inr ⟨rfl,z⟩⟩
  refine⟨_,(d4 (g7 (D6 (C8 (C3 (u0 (jc c6w hr (a7 (a8 2) a9)))) (B6 (u0 (jc c6r hr (a7 (o8 rfl T.c_ONE) (a7 (jc c6b hr (a7 (a8 2) a9)) a9))))))) (d5 (d7 A4)) f7) (d4 (p9 (a8 1) (i0 (n:=3) rfl (d6 (jn 3 sc.nd) (d6 (jn 4 sc.nd) (d6 (jn 5 sc.nd) g9))))) (d4 (g7 (jtm (b1Z hu) (jc c7l hr (a7 (jc c6H hr (a7 (a8 2) (a7 (a8 2) a9))) (a7 (o8 rfl T.c_ONE) a9))) (jc c6H hr (a7 (jc c5Z hr (a7 (a8 0) a9)) (a7 (a8 2) a9)))) (d5 (d7 A4)) f7) (d5 (d7 (E1 (jm (E4 hu) (jc c5W hr (a7 (a8 2) (a7 (a8 3) a9))) (a8 4)) (D2 (W3 (jc c6r hr (a7 (a8 5) (a7 (jc c6b hr (a7 (a8 3) a9)) a9))))))))))),?_⟩
  walk_at "sim"
  refine .inl ⟨q,rfl,?_,fun h1=>?_,fun h1=>⟨⟨by omega,c2p q⟩,⟨by omega,b9c _⟩,m,rfl,cd,⟨by omega,c2q (by omega) (by omega)⟩,fun h2=>?_,fun h2=>⟨by have:=c4g h2;omega,fun h3=>⟨by omega,?_⟩,fun h3=>?_⟩⟩⟩
  ·omega
  ·rw[F8 (fun z=>(iff.mp z).1 h1)]at k;exact k
  ·rw[F8 (fun z=>h2 (iff.mp z).2.1)]at k;exact k
  ·rw[show P1 m l (.rat "kept" q) = !decide (l.2.2<f6 l.1)from ?_]at k
   ·exact k
   ·by_cases hlt:l.2.2<f6 l.1
    ·rw[decide_eq_true hlt,F8 (fun z=>(iff.mp z).2.2.2 hlt)];rfl
    ·rw[decide_eq_false hlt,a4F (iff.mpr ⟨h1,h2,h3,hlt⟩)];rfl
  ·rw[F8 (fun z=>h3 (iff.mp z).2.2.1)]at k;exact k
 ·skip
  refine⟨_,(d4 (g7 (D6 (C8 (C3 (u0 (jc c6w hr (a7 (a8 2) a9)))) (B6 (u0 (jc c6r hr (a7 (o8 rfl T.c_ONE) (a7 (jc c6b hr (a7 (a8 2) a9)) a9))))))) (d5 (d7 A4)) f7) (d4 (p9 (a8 1) (i0 (n:=3) rfl (d6 (jn 3 sc.nd) (d6 (jn 4 sc.nd) (d6 (jn 5 sc.nd) g9))))) (d4 (g7 (jtm (b1Z hu) (jc c7l hr (a7 (jc c6H hr (a7 (a8 2) (a7 (a8 2) a9))) (a7 (o8 rfl T.c_ONE) a9))) (jc c6H hr (a7 (jc c5Z hr (a7 (a8 0) a9)) (a7 (a8 2) a9)))) (d5 (d7 A4)) f7) (d5 (d7 (E1 (jm (E4 hu) (jc c5W hr (a7 (a8 2) (a7 (a8 3) a9))) (a8 4)) (D2 (W3 (jc c6r hr (a7 (a8 5) (a7 (jc c6b hr (a7 (a8 3) a9)) a9))))))))))),?_⟩
  walk_at "sim"
  exact .inr ⟨n,rfl,k⟩
theorem b8R(T:Txt K mg)(d:Df K mg "same" a99 ["one","other"]):Fn P w K mg base "same" 1 ["one","other"] b0g:=by
 have sc:=b8h
 refine i4 d sc (by walk_at "len") (fun f cdv A outer s H E ds M R Y hr h=>?_)
 have hu:=hr.units
 obtain⟨a,b,q,rfl,⟨b0,za,zb,zq⟩,k⟩:=h
 have e:decide (c9x a b=q)=decide (a*(q.den:Int)=q.num*b):=decide_eq_decide.mpr (c2u b0)
 rw[e]at k
 refine⟨_,(d5 (d7 (jm R5 (g6 o6 (jx (a8 0) d3) (jx (a8 1) d3)) (g6 o6 (jx (a8 1) d3) (jx (a8 0) d3))))),?_⟩
 walk_at "sim"
 exact⟨u5 _ _ za (by rw[c8V];exact t9 q zq) (by decide),u5 _ _ (u4 q zq) zb (by decide),k⟩
theorem a4u(T:Txt K mg)(d:Df K mg "reach_right" Q1 ["table","numbers","s"])(c6t:Fn P w K mg base "less" 1 ["one","other"] a4j)(c5W:Fn P w K mg base "times" 3 ["one","other"] F5)(c7P:Fn P w K mg base "same" 1 ["one","other"] b0g)(c6i:Fn P w K mg base "reach_by" 4 ["t","x","later"] a6p)(c5Z:Fn P w K mg base "t_of" 4 ["table"] a1C)(c5X:Fn P w K mg base "kind_word" 6 ["table"] sKw)(c6w:Fn P w K mg base "is_ratio" 2 ["thing"] a7n):Fn P w K mg base "reach_right" 7 ["table","numbers","s"] a4g:=by
 have sc:=a36
 refine i4 d sc (by walk_at "len") (fun f cdv A outer s H E ds M R Y hr h=>?_)
 have hu:=hr.units
 obtain⟨x,l,d,rfl,m,rfl,⟨cd,hd,hl⟩,k⟩:=h
 have zt:sz (trQ m)≤231:=CD.tr cd
 have xf:=hl.xf
 have zr:=hl.r
 have zrr:=RM.y8 l.2.2 l.2.2
 rcases k with⟨q,rfl,zq,k⟩|⟨n,rfl,k⟩
 ·skip
  refine⟨_,(d4 (g7 (D6 (C8 (C3 (u0 (jc c6w hr (a7 (a8 2) a9)))) (B6 (jtm a2R (jc c5X hr (a7 (a8 0) a9)) i3)))) (d5 (d7 A4)) f7) (d4 (p9 (a8 1) (i0 (n:=3) rfl (d6 (jn 3 sc.nd) (d6 (jn 4 sc.nd) (d6 (jn 5 sc.nd) g9))))) (d5 (d7 (E1 (jc c7P hr (a7 (jc c6i hr (a7 (jc c5Z hr (a7 (a8 0) a9)) (a7 (a8 3) (a7 (a8 4) a9)))) (a7 (a8 2) a9))) (D2 (W3 (jc c6t hr (a7 (jc c5W hr (a7 (a8 5) (a7 (a8 5) a9))) (a7 (a8 2) a9)))))))))),?_⟩
  walk_at "sim"
  refine .inl ⟨q,rfl,m,rfl,cd,fun hw=>?_,fun hw=>⟨m,rfl,cd,?_⟩⟩
  ·rw[F8 (fun z=>?_)]at k
   ·exact k
   ·rcases z with⟨_,⟨z1,z2⟩,_⟩|⟨z,_⟩
    ·apply hw
     unfold kwS
     rw[if_neg z1,if_neg (fun z3=>by rw[z3]at z2;exact absurd z2 (by decide)),if_pos z2]
    ·exact absurd z (by decide)
  ·obtain⟨hs,h2⟩:¬ u7 m∧f6 (trQ m)<2:=by
    rcases K7 m with⟨_,e⟩|⟨_,_,e⟩|⟨c1,_,c3,e⟩|⟨_,_,_,e⟩
    ·rw[e]at hw;exact absurd hw (by decide)
    ·rw[e]at hw;exact absurd hw (by decide)
    ·exact⟨c1,c3⟩
    ·rw[e]at hw;exact absurd hw (by decide)
   obtain⟨t1,t2⟩:=X5.mp h2
   refine⟨⟨zt,t1,t2,xf⟩,fun T B b0 bB bT eT=>⟨⟨b0,r9 bT (by decide),r9 bB (by decide),by omega⟩,fun he=>⟨by omega,?_⟩,fun he=>?_⟩⟩
   ·refine⟨l.2.2*l.2.2,q.num,(q.den:Int),rfl,⟨by have:=q.den_pos;omega,by omega,by rw[c8V];exact t9 _ (by omega),u4 _ (by omega)⟩,?_⟩
    rw[d0E]
    walk_at "sim"
    rw[show P1 m l (.rat "reach" q) = !decide (l.2.2*l.2.2<q)from ?_]at k
    ·exact k
    ·by_cases hlt:l.2.2*l.2.2<q
     ·rw[decide_eq_true hlt,F8 (fun z=>?_)];rfl
      rcases z with⟨_,_,_,z⟩|⟨z,_⟩
      ·exact z hlt
      ·exact absurd z (by decide)
     ·rw[decide_eq_false hlt,a4F (show X7 m l (.rat "reach" q)from .inl ⟨rfl,⟨hs,h2⟩,by rw[← eT];exact he,hlt⟩)];rfl
   ·rw[F8 (fun z=>?_)]at k
    ·exact k
    ·rcases z with⟨_,_,z,_⟩|⟨z,_⟩
     ·exact he (by rw[eT];exact z)
     ·exact absurd z (by decide)
 ·skip
  refine⟨_,(d4 (g7 (D6 (C8 (C3 (u0 (jc c6w hr (a7 (a8 2) a9)))) (B6 (jtm a2R (jc c5X hr (a7 (a8 0) a9)) i3)))) (d5 (d7 A4)) f7) (d4 (p9 (a8 1) (i0 (n:=3) rfl (d6 (jn 3 sc.nd) (d6 (jn 4 sc.nd) (d6 (jn 5 sc.nd) g9))))) (d5 (d7 (E1 (jc c7P hr (a7 (jc c6i hr (a7 (jc c5Z hr (a7 (a8 0) a9)) (a7 (a8 3) (a7 (a8 4) a9)))) (a7 (a8 2) a9))) (D2 (W3 (jc c6t hr (a7 (jc c5W hr (a7 (a8 5) (a7 (a8 5) a9))) (a7 (a8 2) a9)))))))))),?_⟩
  walk_at "sim"
  exact .inr ⟨n,rfl,k⟩
theorem a4x(T:Txt K mg)(d:Df K mg "is_whole" T7 ["thing"]):Fn P w K mg base "is_whole" 1 ["thing"] a65:=by
 have sc:=a2O
 refine i4 d sc (by walk_at "len") (fun f cdv A outer s H E ds M R Y hr h=>?_)
 have hu:=hr.units
 obtain⟨x,rfl,k⟩:=h
 rcases k with⟨q,rfl,k⟩|⟨n,rfl,k⟩
 ·skip
  refine⟨_,(d5 (d7 (E1 (p0 (a0j T.sub) rfl T.b_isinstance u9 (a7 (a8 0) (a7 (a0g rfl T.b_int b0X) a9))) (D2 (W3 (p0 (a0j T.sub) rfl T.b_isinstance u9 (a7 (a8 0) (a7 (a0g rfl T.b_bool a70) a9)))))))),?_⟩
  walk_at "sim"
  rw[v9 (ty := "tuple") (b:=false) rfl rfl]
  walk_at "sim"
  exact k
 ·skip
  refine⟨_,(d5 (d7 (E1 (p0 (a0j T.sub) rfl T.b_isinstance u9 (a7 (a8 0) (a7 (a0g rfl T.b_int b0X) a9))) (D2 (W3 (p0 (a0j T.sub) rfl T.b_isinstance u9 (a7 (a8 0) (a7 (a0g rfl T.b_bool a70) a9)))))))),?_⟩
  walk_at "sim"
  exact k
theorem a4s(T:Txt K mg)(d:Df K mg "round_right" P9 ["table","numbers","n"])(c6k:Fn P w K mg base "stop_within" 4 ["t","numbers","watched","rounds"] a7c)(c5Z:Fn P w K mg base "t_of" 4 ["table"] a1C)(c5U:Fn P w K mg base "rounds_to_self" 5 ["table"] b0h)(c6I:Fn P w K mg base "is_whole" 1 ["thing"] a65):Fn P w K mg base "round_right" 6 ["table","numbers","n"] a7f:=by
 have sc:=a34
 refine i4 d sc (by walk_at "len") (fun f cdv A outer s H E ds M R Y hr h=>?_)
 have hu:=hr.units
 obtain⟨x,l,d,rfl,m,rfl,⟨cd,hd,hl⟩,k⟩:=h
 rcases k with⟨q,rfl,k⟩|⟨n,rfl,k⟩
 ·skip
  refine⟨_,(d4 (g7 (D6 (C8 (C3 (u0 (jc c6I hr (a7 (a8 2) a9)))) (B6 (jtm (b1Z hu) (a8 2) (jc c5U hr (a7 (a8 0) a9)))))) (d5 (d7 A4)) f7) (d5 (d7 (jm c1S (jc c6k hr (a7 (jc c5Z hr (a7 (a8 0) a9)) (a7 (j9 (a7 (a8 1) a9)) (a7 (j9 (a7 d3 a9)) (a7 (a8 2) a9))))) D8)))),?_⟩
  walk_at "sim"
  exact .inl ⟨q,rfl,k⟩
 ·skip
  have zt:sz (trQ m)≤231:=CD.tr cd
  have hcl:cl 60 (a1X m)=true:=by
   by_cases hs:u7 m
   ·obtain⟨j,e⟩:=b1S hs;rw[e];rfl
   ·rw[a7s hs];rfl
  refine⟨_,(d4 (g7 (D6 (C8 (C3 (u0 (jc c6I hr (a7 (a8 2) a9)))) (B6 (jtm (b1Z hu) (a8 2) (jc c5U hr (a7 (a8 0) a9)))))) (d5 (d7 A4)) f7) (d5 (d7 (jm c1S (jc c6k hr (a7 (jc c5Z hr (a7 (a8 0) a9)) (a7 (j9 (a7 (a8 1) a9)) (a7 (j9 (a7 d3 a9)) (a7 (a8 2) a9))))) D8)))),?_⟩
  walk_at "sim"
  refine .inr ⟨n,rfl,m,rfl,cd,hcl,fun h=>?_,fun h=>?_⟩
  ·rw[F8 (fun z=>h (by rw[a2n m z.2.1,z.2.2.1]))]at k
   exact k
  ·have hs:u7 m:=c9a fun z=>by rw[a7s z]at h;cases h
   obtain⟨n0,e1,e2,e3⟩:=b5k hd hs
   rw[a2n m hs]at h e1
   have h:n=(rtN m:Int):=by injection h
   have e1:(rtN m:Int)=(n0:Int):=by injection e1
   subst h
   refine⟨m,rfl,cd,?_⟩
   refine(Y3 (N:=rtN m)).mpr ⟨[l],[0],rfl,rfl,⟨zt,⟨by show 1≤40;decide,by show 1≤40;decide⟩,by omega,fun x hx=>by rw[c88.mp hx];exact hl,fun x hx=>by rw[c88.mp hx];show 0<1;decide⟩,?_⟩
   show gIs false (a30 (M9 (trQ m) [l] [0] (rtN m))) D.non M R
   by_cases hb:∀ j,j<rtN m→¬ A7 (trQ m) l j
   ·rw[a3Z (fun j hj x hx=>by rw[c88.mp hx];exact decide_eq_false (hb j hj))]
    unfold a30
    rw[a1v rfl]
    walk_at "sim"
    rw[a4F (show X7 m l (.int "round" (rtN m:Int))from⟨rfl,hs,rfl,hb⟩)]at k
    exact k
   ·rw[F8 (fun z:X7 m l (.int "round" (rtN m:Int))=>hb z.2.2.2)]at k
    have:∃ z,M9 (trQ m) [l] [0] (rtN m)=some z:=by
     cases e:M9 (trQ m) [l] [0] (rtN m)with
     | some z=>exact⟨z,rfl⟩
     | none =>
      refine absurd (fun j hj hbj=>?_) hb
      unfold M9 at e
      cases e4:(c9H (rtN m)).find? (fun n=>[0].any fun k=>y4 (trQ m) [l] k n)with
      | none=>exact absurd (show([0].any fun k=>y4 (trQ m) [l] k j)=true by simpa[y4]using hbj) (d0f.mp e4 j (c9Q.mpr hj))
      | some j2 =>
       rw[e4]at e
       have h5:=List.find?_some e4
       have h6:y4 (trQ m) [l] 0 j2=true:=by simpa using h5
       simp[h6]at e
    obtain⟨z,ez⟩:=this
    rw[ez]
    unfold a30
    rw[a1v rfl]
    walk_at "sim"
    exact k
theorem a5g(T:Txt K mg)(d:Df K mg "line_right" T0 ["table","numbers","shown"])(c6C:Fn P w K mg base "kept_right" 5 ["table","numbers","k"] b0n)(c6A:Fn P w K mg base "reach_right" 7 ["table","numbers","s"] a4g)(c6B:Fn P w K mg base "round_right" 6 ["table","numbers","n"] a7f):Fn P w K mg base "line_right" 8 ["table","numbers","shown"] b0m:=by
 have sc:=a4X
 refine i4 d sc (by walk_at "len") (fun f cdv A outer s H E ds M R Y hr h=>?_)
 have hu:=hr.units
 obtain⟨x,l,d,rfl,m,rfl,⟨cd,hd,hl⟩,e,rfl,he,k⟩:=h
 have cn:cl 59 (D.str (Str.ofString "nought"))=true:=by decide +kernel
 cases e with
 | one w =>
  unfold enD
  unfold b02 at he
  have iff:X7 m l (.one w)↔w=Str.ofString "nought" ∧ l.1=0∧l.2.1=0:=Iff.rfl
  refine⟨_,(d4 (g7 (D6 (C8 (C3 (u0 (p0 (a0j T.sub) rfl T.b_isinstance u9 (a7 (a8 2) (a7 (a0g rfl T.b_tuple S2) a9))))) (B6 (jtm a5y (p0 F3 rfl T.b_len B7 (a7 (a8 2) a9)) d3)))) (d5 (d7 A4)) f7) (d4 (g7 (jtm (E4 hu) (a8 2) (e9 (a7 i3 a9))) (d5 (d7 (E1 (jm (E4 hu) (jx (a8 1) d3) (o8 rfl T.c_NOUGHT)) (D2 (jm (E4 hu) (jx (a8 1) d3) (o8 rfl T.c_NOUGHT)))))) f7) (d4 (g7 (jtm a0P (p0 F3 rfl T.b_len B7 (a7 (a8 2) a9)) d3) (d5 (d7 A4)) f7) (d4 (p9 (a8 2) (i0 (n:=2) rfl (d6 (jn 3 sc.nd) (d6 (jn 4 sc.nd) g9)))) (d4 (g7 (jtm B2 (a8 3) i3) (d5 (d7 (jc c6B hr (a7 (a8 0) (a7 (a8 1) (a7 (a8 4) a9)))))) f7) (d4 (g7 (jtm B2 (a8 3) i3) (d5 (d7 (jc c6A hr (a7 (a8 0) (a7 (a8 1) (a7 (a8 4) a9)))))) f7) (d5 (d7 (E1 (jm B2 (a8 3) i3) (D2 (jc c6C hr (a7 (a8 0) (a7 (a8 1) (a7 (a8 4) a9)))))))))))))),?_⟩
  walk_at "sim"
  refine⟨fun h=>absurd h (by decide),fun _=>⟨he,cn,fun hw=>⟨fun h1=>?_,fun h1=>?_⟩,fun hw=>⟨fun _=>?_,fun h=>absurd (by decide) h⟩⟩⟩
  ·have hw:w=Str.ofString "nought" := by injection hw with hw;injection hw with hw;injection hw
   rw[show P1 m l (.one w)=decide (l.2.1=0)from ?_]at k
   ·exact k
   ·by_cases h2:l.2.1=0
    ·rw[decide_eq_true h2,a4F (iff.mpr ⟨hw,h1,h2⟩)]
    ·rw[decide_eq_false h2,F8 (fun z=>h2 (iff.mp z).2.2)]
  ·rw[F8 (fun z=>h1 (iff.mp z).2.1)]at k;exact k
  ·rw[F8 (fun z=>hw (by rw[(iff.mp z).1]))]at k;exact k
 | int w n =>
  unfold enD
  unfold b02 at he
  have iff:X7 m l (.int w n)↔w=Str.ofString "round" ∧ u7 m∧n=(rtN m:Int)∧∀ j,j<rtN m→¬ A7 (trQ m) l j:=Iff.rfl
  refine⟨_,(d4 (g7 (D6 (C8 (C3 (u0 (p0 (a0j T.sub) rfl T.b_isinstance u9 (a7 (a8 2) (a7 (a0g rfl T.b_tuple S2) a9))))) (B6 (jtm a5y (p0 F3 rfl T.b_len B7 (a7 (a8 2) a9)) d3)))) (d5 (d7 A4)) f7) (d4 (g7 (jtm (E4 hu) (a8 2) (e9 (a7 i3 a9))) (d5 (d7 (E1 (jm (E4 hu) (jx (a8 1) d3) (o8 rfl T.c_NOUGHT)) (D2 (jm (E4 hu) (jx (a8 1) d3) (o8 rfl T.c_NOUGHT)))))) f7) (d4 (g7 (jtm a0P (p0 F3 rfl T.b_len B7 (a7 (a8 2) a9)) d3) (d5 (d7 A4)) f7) (d4 (p9 (a8 2) (i0 (n:=2) rfl (d6 (jn 3 sc.nd) (d6 (jn 4 sc.nd) g9)))) (d4 (g7 (jtm B2 (a8 3) i3) (d5 (d7 (jc c6B hr (a7 (a8 0) (a7 (a8 1) (a7 (a8 4) a9)))))) f7) (d4 (g7 (jtm B2 (a8 3) i3) (d5 (d7 (jc c6A hr (a7 (a8 0) (a7 (a8 1) (a7 (a8 4) a9)))))) f7) (d5 (d7 (E1 (jm B2 (a8 3) i3) (D2 (jc c6C hr (a7 (a8 0) (a7 (a8 1) (a7 (a8 4) a9)))))))))))))),?_⟩
  walk_at "sim"
  refine⟨fun h=>absurd h (by decide),fun _=>⟨he.1,cn,fun hw=>?_,fun hw=>⟨fun h=>absurd h (by decide),fun _=>⟨fun h1=>?_,fun h1=>?_⟩⟩⟩⟩
  ·injection hw with hw;injection hw with _ hw;cases hw
  ·rw[h1]at k
   exact⟨m,rfl,⟨cd,hd,hl⟩,.inr ⟨n,rfl,k⟩⟩
  ·rw[F8 (fun z=>h1 (iff.mp z).1)]at k
   exact⟨fun _=>⟨m,rfl,⟨cd,hd,hl⟩,.inr ⟨n,rfl,k⟩⟩,fun _=>⟨fun _=>⟨m,rfl,⟨cd,hd,hl⟩,.inr ⟨n,rfl,k⟩⟩,fun _=>k⟩⟩
 | rat w q =>
  unfold enD
  unfold b02 at he
  have iff:X7 m l (.rat w q)↔((w=Str.ofString "reach" ∧ (¬ u7 m∧f6 (trQ m)<2)∧J3 (trQ m) l.1 l.2.1=q∧¬ l.2.2*l.2.2<q)∨(w=Str.ofString "kept" ∧ ¬ 1<f6 q∧q*q+1=trQ m*q∧q*l.1=l.2.1∧¬ l.2.2<f6 l.1)):=Iff.rfl
  have h9:=he.2
  refine⟨_,(d4 (g7 (D6 (C8 (C3 (u0 (p0 (a0j T.sub) rfl T.b_isinstance u9 (a7 (a8 2) (a7 (a0g rfl T.b_tuple S2) a9))))) (B6 (jtm a5y (p0 F3 rfl T.b_len B7 (a7 (a8 2) a9)) d3)))) (d5 (d7 A4)) f7) (d4 (g7 (jtm (E4 hu) (a8 2) (e9 (a7 i3 a9))) (d5 (d7 (E1 (jm (E4 hu) (jx (a8 1) d3) (o8 rfl T.c_NOUGHT)) (D2 (jm (E4 hu) (jx (a8 1) d3) (o8 rfl T.c_NOUGHT)))))) f7) (d4 (g7 (jtm a0P (p0 F3 rfl T.b_len B7 (a7 (a8 2) a9)) d3) (d5 (d7 A4)) f7) (d4 (p9 (a8 2) (i0 (n:=2) rfl (d6 (jn 3 sc.nd) (d6 (jn 4 sc.nd) g9)))) (d4 (g7 (jtm B2 (a8 3) i3) (d5 (d7 (jc c6B hr (a7 (a8 0) (a7 (a8 1) (a7 (a8 4) a9)))))) f7) (d4 (g7 (jtm B2 (a8 3) i3) (d5 (d7 (jc c6A hr (a7 (a8 0) (a7 (a8 1) (a7 (a8 4) a9)))))) f7) (d5 (d7 (E1 (jm B2 (a8 3) i3) (D2 (jc c6C hr (a7 (a8 0) (a7 (a8 1) (a7 (a8 4) a9)))))))))))))),?_⟩
  walk_at "sim"
  refine⟨fun h=>absurd h (by decide),fun _=>⟨he.1,cn,fun hw=>?_,fun hw=>⟨fun h=>absurd h (by decide),fun _=>⟨fun h1=>?_,fun h1=>⟨fun h2=>?_,fun h2=>⟨fun h3=>?_,fun h3=>?_⟩⟩⟩⟩⟩⟩
  ·injection hw with hw;injection hw with _ hw;cases hw
  ·rw[F8 (fun z=>?_)]at k
   ·exact⟨m,rfl,⟨cd,hd,hl⟩,.inl ⟨q,rfl,k⟩⟩
   ·rcases iff.mp z with⟨z,_⟩|⟨z,_⟩<;>(rw[h1]at z;exact absurd z (by decide))
  ·rw[h2]at k
   exact⟨m,rfl,⟨cd,hd,hl⟩,.inl ⟨q,rfl,by omega,k⟩⟩
  ·rw[h3]at k
   exact⟨m,rfl,⟨cd,hd,hl⟩,.inl ⟨q,rfl,h9,k⟩⟩
  ·rw[F8 (fun z=>?_)]at k
   ·exact k
   ·rcases iff.mp z with⟨z,_⟩|⟨z,_⟩
    ·exact h2 z
    ·exact h3 z
theorem a4v(T:Txt K mg)(d:Df K mg "never_shown" Q3 ["hall","ray","paper"])(c6p:Fn P w K mg base "first_two" 5 ["table","ray","lines"] N9)(c6Z:Fn P w K mg base "line_right" 8 ["table","numbers","shown"] b0m)(c6a:Fn P w K mg base "round_of" 7 ["hall"] a1H)(c6f:Fn P w K mg base "hall_lines" 7 ["hall"] N8):Fn P w K mg base "never_shown" 9 ["hall","ray","paper"] b0k:=by
 have sc:=a37
 refine i4 d sc (by walk_at "len") (fun f cdv A outer s H E ds M R Y hr h=>?_)
 have hu:=hr.units
 obtain⟨x0,y,u,x,rfl,near,bs,far,es,rfl,hx,⟨⟨hw,S,cd,hS⟩,hl,he⟩,k⟩:=h
 have cL:=hw.cd (d8 near bs far).length
 rw[c9k]at cL
 have dL:=a2d (d8 near bs far)
 have lsl:=K5 (d8 near bs far) (d8 near bs far).length
 have hl2:=O2 near far bs
 have hbl:=hw.len
 have hN:=a0h hw cd hS
 have eN:∀ i,(p6 near bs far y u)[i]? = ((A5 (d8 near bs far) (d8 near bs far).length)[i]?).map (C7 (d8 near bs far) y u):=fun i=>by unfold p6;rw[c83]
 rcases hx with rfl|rfl
 all_goals
  refine⟨_,(d4 (E7 (i:=3) [] ["way","number","line"] [] sc.nd rfl (Or.inl rfl) rfl (by decide +kernel) rfl (by decide +kernel) (by decide +kernel) rfl a0S a0S (A1 (G8 (jc c6f hr (a7 (a8 0) a9)))) (fun _ _ _ _ _ _=>(i0 (n:=3) rfl (d6 (jn 0 (show(["way","number","line"]:List Str).Nodup by decide +kernel)) (d6 (jn 1 (show(["way","number","line"]:List Str).Nodup by decide +kernel)) (d6 (jn 2 (show(["way","number","line"]:List Str).Nodup by decide +kernel)) g9))))) (fun _ _ _ _ _ _=>A2) (fun _ _ _ _ _ _=>(a8 2))) (d4 (g7 (jtm a4B (p0 F3 rfl T.b_len B7 (a7 (a8 2) a9)) (p0 F3 rfl T.b_len B7 (a7 (a8 3) a9))) (d5 (d7 A4)) f7) (d4 (jst 4 sc.nd (jc c6a hr (a7 (a8 0) a9))) (d5 (d7 (p0 (c4P rfl) rfl T.b_all c2C (a7 (G9 [4] ["numbers","shown"] ["table"] rfl (by decide +kernel) rfl (by decide +kernel) (by decide +kernel) rfl (a18 ⟨rfl,rfl⟩) (a18 (Or.inl rfl)) (a7K rfl T.b_zip (a7 (jc c6p hr (a7 (a8 4) (a7 (a8 1) (a7 (a8 3) a9)))) (a7 (a8 2) a9))) (fun _ _ _ _ _ _=>(i0 (n:=2) rfl (d6 (jn 0 (show(["numbers","shown","table"]:List Str).Nodup by decide +kernel)) (d6 (jn 1 (show(["numbers","shown","table"]:List Str).Nodup by decide +kernel)) g9)))) (fun _ _ _ _ _ _=>A2) (fun _ _ _ _ _ _=>(jc c6Z hr (a7 (a8 2) (a7 (a8 0) (a7 (a8 1) a9)))))) a9))))))),?_⟩
  walk_at "sim"
  refine⟨hw,fun p hp=>?_⟩
  rw[P7 h8,J1 hp]
  walk_at "sim"
  rw[a7P]
  refine A6 (fun z=>p5 z.2) (by rw[d02,B3];omega) (by simp only[o9]) (fun z hz Q hQ=>?_) ?_
  ·unfold hlD
   walk_at "sim"
   exact hQ
  rw[a5G]
  walk_at "sim"
  rw[show((A5 (d8 near bs far) (d8 near bs far).length).map p5).length=(p6 near bs far y u).length by unfold p6;rw[c8Y,c8Y],c8Y]
  refine⟨fun hne=>?_,fun hel=>⟨hw,d8 near bs far,A5 (d8 near bs far) (d8 near bs far).length,rfl,rfl,⟨S,cL,cd,hS,by omega,fun l hl=>(hw.ln cd hS hl).2⟩,?_⟩⟩
  ·unfold a4q at k
   rw[decide_eq_false (fun z=>hne (by omega))]at k
   exact k
  ·unfold a4q at k
   have hel:es.length=(p6 near bs far y u).length:=by omega
   rw[decide_eq_true hel]at k
   rw[show c97 (C7 (d8 near bs far) y u) (A5 (d8 near bs far) (d8 near bs far).length)=p6 near bs far y u from rfl]
   generalize p6 near bs far y u=ls at *
   walk_at "sim"
   have ez:Y1 (ls.map p5) (es.map enD)=(ls.zip es).map fun z=>D.tup [p5 z.1,enD z.2]:=by
    unfold Y1
    rw[d2i,List.map_zip_eq_zipWith];rfl
   rw[ez]
   refine A6 (fun z=>D.bl (P1 (tbQ (d8 near bs far)) z.1 z.2)) (by rw[d02];omega) (by simp only[o9,C0,and_self]) (fun z hz Q hQ=>?_) ?_
   ·obtain⟨h1,h2⟩:=d0W hz
    walk_at "sim"
    exact⟨_,rfl,⟨cL,dL,hN _ h1⟩,z.2,rfl,he _ h2,hQ⟩
   ·rw[show(ls.zip es).map (fun z=>D.bl (P1 (tbQ (d8 near bs far)) z.1 z.2))=((ls.zip es).map fun z=>P1 (tbQ (d8 near bs far)) z.1 z.2).map D.bl by rw[c9N];rfl]
    walk_at "sim"
    rw[List.all_map]
    exact k
theorem a7G(T:Txt K mg)(d:Df K mg "_law_kept" Z8 ["pool","hall","ray","paper"])(c7a:Fn P w K mg base "ever" 8 ["hall","ray"] a84)(c6j:Fn P w K mg base "_law_round" 6 ["hall","ray"] a0d)(c6m:Fn P w K mg base "_law_scaled" 4 ["ray","factor"] a3a)(c5V:Fn P w K mg base "_law_ratio" 3 ["pool","tops","bottoms"] a2P)(c7b:Fn P w K mg base "_law_fewer" 2 ["pool","hall"] b0o)(c7c:Fn P w K mg base "_law_wider" 4 ["pool","hall"] b0e)(c6z:Fn P w K mg base "_law_lines" 6 ["hall"] a1N)(c7d:Fn P w K mg base "late_shown" 8 ["hall","ray","k"] a1Q)(c6D:Fn P w K mg base "_law_first_stop" 8 ["hall","ray","rounds"] a4i)(c6S:Fn P w K mg base "never_shown" 9 ["hall","ray","paper"] b0k):Fn P w K mg base "_law_kept" 10 ["pool","hall","ray","paper"] b5h:=by
 have sc:=a6Y
 refine i4 d sc (by walk_at "len") (fun f cdv A outer s H E ds M R Y hr h=>?_)
 have hu:=hr.units
 obtain⟨p,near,bs,far,y,u,d,rfl,hp,⟨rfl,⟨hw,hz⟩,cd,hg⟩,k⟩:=h
 have hbl:=hw.len
 have cL:=hw.cd (d8 near bs far).length
 rw[c9k]at cL
 have zt:sz (trQ (tbQ (d8 near bs far)))≤231:=CD.tr cL
 have hd:=a2d (d8 near bs far)
 have hNl:=a2x near far bs y u
 have ty:=cd.t2.y
 have tu:=cd.t2.u
 have hpos:∀ l∈p6 near bs far y u,0<l.2.2:=fun l hl=>(a0h hw cd (by decide) l hl).p
 have epE:(p6 near bs far y u).map (N3 (tbQ (d8 near bs far)))=(p6 near bs far y u).map (pE (tbQ (d8 near bs far))):=d1Q fun l hl=>b4X (hg l hl)
 have enok:∀ e∈(p6 near bs far y u).map (pE (tbQ (d8 near bs far))),b02 e:=fun e he=>by
  obtain⟨l,hl,rfl⟩:=c9t.mp he
  obtain⟨l0,h0,rfl⟩:=c9t.mp hl
  have hz:=(hw.line cd h0).2.2
  exact c3W zt hz.1 hz.2
 rw[epE]
 have pt:=(b0w hd hpos W6).mpr hg
 refine⟨_,(d4 (g7 (D6 (C8 (jtm a0F (jc c6S hr (a7 (a8 1) (a7 (a8 2) (a7 (a8 3) a9)))) A4) (B6 (jtm a0F (jc c6D hr (a7 (a8 1) (a7 (a8 2) (a7 d3 a9)))) D8)))) (d5 (d7 A4)) f7) (d4 (u8 PassesOwn.never rfl (P2 rfl T.b_range (a7 (p0 F3 rfl T.b_len B7 (a7 (jc c6z hr (a7 (a8 1) a9)) a9)) a9)) (jn 4 sc.nd) (d5 (g7 (u0 (jc c7d hr (a7 (a8 1) (a7 (a8 2) (a7 (a8 4) a9))))) (d5 (d7 A4)) f7))) (d4 (g7 (D6 (C8 (jtm a2R (jx (jc c7a hr (a7 (jc c7c hr (a7 (a8 0) (a7 (a8 1) a9))) (a7 (a8 2) a9))) d3) i3) (B6 (jtm a2R (jx (jc c7a hr (a7 (jc c7b hr (a7 (a8 0) (a7 (a8 1) a9))) (a7 (a8 2) a9))) d3) i3)))) (d5 (d7 A4)) f7) (d4 (jst 5 sc.nd (jc c5V hr (a7 (a8 0) (a7 (j9 (a7 d3 (a7 d3 (a7 (A9 d3) (a7 (A9 d3) (a7 d3 a9)))))) (a7 (j9 (a7 d3 (a7 d3 a9))) a9))))) (d4 (g7 (jtm a2R (jx (jc c7a hr (a7 (a8 1) (a7 (jc c6m hr (a7 (a8 2) (a7 (a8 5) a9))) a9))) d3) i3) (d5 (d7 A4)) f7) (d4 (jst 6 sc.nd (a8 2)) (d4 (u8 PassesOwn.never rfl (P2 rfl T.b_range (a7 d3 a9)) (jn 7 sc.nd) (d4 (jst 6 sc.nd (jc c6j hr (a7 (a8 1) (a7 (a8 6) a9)))) (d5 (g7 (jtm a2R (jx (jc c7a hr (a7 (a8 1) (a7 (a8 6) a9))) d3) i3) (d5 (d7 A4)) f7)))) (d5 (d7 A4))))))))),?_⟩
 walk_at "sim"
 refine⟨near,bs,far,_,rfl,.inl rfl,⟨⟨hw,_,cd,by decide⟩,by rw[c8Y];omega,enok⟩,?_⟩
 have nob:∀ n j,y4 (trQ (tbQ (d8 near bs far))) (p6 near bs far y u) j n=false:=fun n j=>by
  cases e5:y4 (trQ (tbQ (d8 near bs far))) (p6 near bs far y u) j n with
  | false=>rfl
  | true =>
   obtain⟨l,hl,hb⟩:=P4.mp e5
   have hm:=c81 hl
   exact absurd hb (a9v hd (hpos l hm) (W6 l hm) (hg l hm) n)
 rw[pt,a1v rfl]
 walk_at "sim"
 refine⟨near,bs,far,y,u,100,rfl,⟨hw,cd,by decide⟩,fun _=>?_,fun n j hn hb=>by rw[nob]at hb;cases hb⟩
 walk_at "sim"
 rw[a1v rfl]
 walk_at "sim"
 have nev:∀{cs:List (Str × Rat)} {y2 u2:Rat} {r:EvR},c2P (tbQ (d8 near cs far)) (p6 near cs far y2 u2) r→(∀ l∈p6 near cs far y2 u2,F2 (tbQ (d8 near cs far)) l)→∃ D4,evD (F7 (j5 near cs far) (j5 near cs far).length) (tbQ (d8 near cs far)) (p6 near cs far y2 u2) r = .tup (.str "never" :: D4):=fun{cs y2 u2 r} h1 h2=>by
  have hE:=c4y h1
  obtain⟨D4,e⟩:=b9h hE
  rw[(a6s hE).mpr h2]at e
  exact⟨D4,e⟩
 have hlen:(hlN (j5 near bs far) (j5 near bs far).length).length=(p6 near bs far y u).length:=by rw[b6i,I0,B3];unfold p6;rw[c8Y]
 rw[hlen]
 refine⟨hw,⟨by omega,by omega⟩,?_⟩
 refine O5.by (fun i e M'=>M'=M∧∃ z4:Option D,e=[some (D.ref p),some (D.tup [d9 near,D.vl (c97 f9 bs),d9 far]),some (v6 y u),some (D.vl (c97 enD (c97 (pE (tbQ (d8 near bs far))) (p6 near bs far y u)))),z4,none,none,none]) ⟨rfl,_,rfl⟩ (fun _ _ _ _ _=>trivial) ?_ ?_
 ·rintro i dd e M' hd2 ⟨rfl,z4,rfl⟩
  rw[c9X]at hd2
  obtain⟨hi,rfl⟩:=a2p hd2
  have hl:=c9d hi
  generalize (p6 near bs far y u)[i]=l at hl
  have lf:p8 (tbQ (d8 near bs far)) l.1 l.2.1 l.2.2=false:=(hg l (c81 hl)).2
  rw[Int.zero_add]
  walk_at "sim"
  refine⟨⟨hw,_,cd,by decide⟩,l,hl,?_⟩
  rw[lf]
  walk_at "sim"
  exact⟨_,rfl⟩
 ·rintro e M' ⟨rfl,z4,rfl⟩
  walk_at "sim"
  refine⟨hp,⟨hw,hz⟩,fun cs M2 ea hcw s2=>⟨⟨hcw,_,cd,by decide⟩,fun r h1=>?_⟩⟩
  obtain⟨D4,e1⟩:=nev h1 (b2l hw ea hg)
  rw[e1]
  walk_at "sim"
  refine⟨s2.pool,hw,fun cs3 M3 ea3 hcw3 s3=>⟨⟨hcw3,_,cd,by decide⟩,fun r3 h3=>?_⟩⟩
  obtain⟨rest3,e3⟩:=nev h3 (b2l hw ea3 hg)
  rw[e3]
  walk_at "sim"
  refine⟨s3.pool,[0,1,-1,-2,3],[3,4],fun q=>f6 q≤1∧sz q≤5,rfl,rfl,⟨by decide,by decide,by decide,?_⟩,fun q M5 hq s5=>?_⟩
  ·intro t ht b hb
   simp only[c9l,c9u,or_false]at ht hb
   rcases ht with rfl|rfl|rfl|rfl|rfl<;>rcases hb with rfl|rfl<;>exact⟨by decide +kernel,by decide +kernel⟩
  obtain⟨q1,q5⟩:=hq
  have cq:CD 1005 (y*q) 0 (u*q) 0:=cd.by q5
  refine⟨⟨by omega,by omega⟩,⟨hw,_,cq,by decide⟩,fun r4 h4=>?_⟩
  obtain⟨rest4,e4⟩:=nev h4 (b9b q1 hw hg)
  rw[e4]
  walk_at "sim"
  refine⟨⟨by decide,by decide⟩,?_⟩
  refine O5.by (fun i e M'=>M'=M5∧∃(y2 u2:Rat) (z7:Option D),e=[some (D.ref p),some (D.tup [d9 near,D.vl (c97 f9 bs),d9 far]),some (v6 y u),some (D.vl (c97 enD (c97 (pE (tbQ (d8 near bs far))) (p6 near bs far y u)))),z4,some (d9 q),some (v6 y2 u2),z7]∧CD (1000+231*i) y2 0 u2 0∧∀ l∈p6 near bs far y2 u2,F2 (tbQ (d8 near bs far)) l) ⟨rfl,y,u,_,rfl,cd,hg⟩ (fun _ _ _ _ _=>trivial) ?_ ?_
  ·rintro i dd e M' hd2 ⟨rfl,y2,u2,z7,rfl,cd2,hg2⟩
   have hi:=(c8W.mp hd2).1
   rw[p7]at hi
   have hi:i<3:=hi
   have ray:=V9 cL cd2
   walk_at "sim"
   refine⟨⟨hw,_,cd2,by omega⟩,⟨hw,_,ray,by omega⟩,fun r6 h6=>?_⟩
   obtain⟨rest6,e6⟩:=nev h6 (a9u hw hg2)
   rw[e6]
   walk_at "sim"
   exact⟨_,_,_,rfl,ray.mono (by omega),a9u hw hg2⟩
  ·rintro e M' ⟨rfl,y2,u2,z7,rfl,cd2,hg2⟩
   walk_at "sim"
   exact k _ (((s2.trans s3).trans s5))
theorem a1h(T:Txt K mg)(d:Df K mg "_law_whole_root" G2 ["number"]):Fn P w K mg base "_law_whole_root" 1 ["number"] a66:=by
 have sc:=a04
 refine i4 d sc (by walk_at "len") (fun f cdv A outer s H E ds M R Y hr h=>?_)
 have hu:=hr.units
 obtain⟨N,rfl,hn,k⟩:=h
 refine⟨_,(d4 (a7M (i:=1) (j:=2) rfl sc.nd rfl rfl (by decide) rfl rfl (a7 d3 (a7 (g6 F1 (a8 0) d3) a9))) (d4 (a2w PassesOwn.never (jtm a5y (g6 a1Z (a8 2) (a8 1)) d3) (d4 (jst 3 sc.nd (g6 E9 (g6 F1 (a8 1) (a8 2)) d3)) (d5 (g7 (jtm c5y (g6 o6 (a8 3) (a8 3)) (a8 0)) (d5 (jst 1 sc.nd (a8 3))) (d5 (jst 2 sc.nd (a8 3))))))) (d5 (d7 (a8 1))))),?_⟩
 walk_at "sim"
 refine b9u (fun m e M'=>M=M'∧∃(lo hi:Nat) (z3:Option D),m=hi - lo∧e=[some (D.int (N:Int)),some (D.int (lo:Int)),some (D.int (hi:Int)),z3]∧lo*lo≤N∧N<hi*hi∧lo<hi∧hi≤N+1) (N+1) ⟨rfl,0,N+1,_,by omega,rfl,by omega,by rw[d1S,Nat.mul_add];omega,by omega,by omega⟩ ?_
 rintro m e M' ⟨rfl,lo,hi,z3,rfl,rfl,h1,h2,h3,h4⟩
 walk_at "sim"
 have em:((lo:Int)+(hi:Int)).fdiv 2=(((lo+hi) / 2:Nat):Int):=by rw[K2 (by omega) (by decide)];omega
 refine⟨fun h0=>⟨b9q,?_⟩,fun h0=>?_⟩
 ·rw[em]
  have hm:(lo+hi) / 2≤N:=by omega
  have hmz:(((lo+hi) / 2:Nat):Int).natAbs<2 ^ 20000:=by rw[c8V];exact c9e hm hn
  have hlm:lo<(lo+hi) / 2:=by omega
  have hmh:(lo+hi) / 2<hi:=by omega
  generalize (lo+hi) / 2=md at *
  refine⟨u5 _ _ hmz hmz (by decide),fun h5=>⟨hi - md,by omega,md,hi,_,rfl,rfl,by exact_mod_cast h5,h2,hmh,h4⟩,fun h5=>⟨md - lo,by omega,lo,md,_,rfl,rfl,h1,?_,hlm,by omega⟩⟩
  have:¬ md*md≤N:=fun z=>h5 (by exact_mod_cast z)
  omega
 ·have:hi=lo+1:=by omega
  subst this
  exact k lo h1 h2
theorem b5M(T:Txt K mg)(d:Df K mg "reach" a61 ["hall","ray","p","q"])(c5Y:Fn P w K mg base "ratio" 2 ["top","bottom"] X6)(c6i:Fn P w K mg base "reach_by" 4 ["t","x","later"] a6p)(c6q:Fn P w K mg base "number_of" 4 ["p","q","ray"] a7h)(c7O:Fn P w K mg base "led" 4 ["table","ray"] b8m)(c5Z:Fn P w K mg base "t_of" 4 ["table"] a1C)(c6a:Fn P w K mg base "round_of" 7 ["hall"] a1H):Fn P w K mg base "reach" 8 ["hall","ray","p","q"] a3b:=by
 have sc:=b5a
 refine i4 d sc (by walk_at "len") (fun f cdv A outer s H E ds M R Y hr h=>?_)
 have hu:=hr.units
 obtain⟨x0,near,bs,far,y,u,p,q,rfl,hx0,⟨hok,cdr,⟨hp,hq⟩,zx,zf,t1,t2⟩,k⟩:=h
 have cd:=hok.cd (d8 near bs far).length
 rw[c9k]at cd
 have l:=G6 (d8 near bs far) y u
 have e1:(g8 (d8 near bs far) (1,0)).1=(tbQ (d8 near bs far)).1:=rfl
 have e2:(g8 (d8 near bs far) (0,1)).1=(tbQ (d8 near bs far)).2.1:=rfl
 have e3:(g8 (d8 near bs far) (1,0)).2=(tbQ (d8 near bs far)).2.2.1:=rfl
 have e4:(g8 (d8 near bs far) (0,1)).2=(tbQ (d8 near bs far)).2.2.2:=rfl
 rw[e1,e2,e3,e4]at l
 rw[l.1,l.2]at k zf
 have r1:=(V9 cd cdr).t2.y
 have r2:=(V9 cd cdr).t2.u
 rw[l.1]at r1
 rw[l.2]at r2
 have ty:=cdr.t2.y
 have tu:=cdr.t2.u
 rcases hx0 with rfl|rfl
 all_goals
  refine⟨_,(d4 (jst 4 sc.nd (jc c6a hr (a7 (a8 0) a9))) (d4 (p9 (jc c6i hr (a7 (jc c5Z hr (a7 (a8 4) a9)) (a7 (jc c6q hr (a7 (a8 2) (a7 (a8 3) (a7 (a8 1) a9)))) (a7 (jc c6q hr (a7 (a8 2) (a7 (a8 3) (a7 (jc c7O hr (a7 (a8 4) (a7 (a8 1) a9))) a9)))) a9)))) (i0 (n:=2) rfl (d6 (jn 5 sc.nd) (d6 (jn 6 sc.nd) g9)))) (d5 (d7 (jc c5Y hr (a7 (a8 5) (a7 (a8 6) a9))))))),?_⟩
  walk_at "sim"
  refine⟨hok,?_⟩
  generalize tbQ (d8 near bs far)=m at *
  obtain⟨a,b,c,d⟩:=m
  have t4:=CD.t4 cd
  have za:sz a≤230:=t4.a
  have zb:sz b≤230:=t4.b
  have zc:sz c≤230:=t4.c
  have zd:sz d≤230:=t4.d
  have zt:sz (trQ (a,b,c,d))≤231:=CD.tr cd
  refine⟨(a,b,c,d),rfl,cd,by omega,?_⟩
  rw[show F6 (a,b,c,d)=a2e a b c d from rfl]
  have r1:sz (a*y+b*u)≤230+1000+1:=r1
  have r2:sz (c*y+d*u)≤230+1000+1:=r2
  have zf:sz (p*(a*y+b*u)+q*(c*y+d*u))≤1462:=zf
  walk_at "sim"
  refine⟨by omega,by omega,by omega,⟨zt,t1,t2,by omega⟩,fun T B b0 bB bT eT=>?_⟩
  walk_at "sim"
  rw[eT]
  exact⟨by omega,c80 (F0 bB (by decide)) (by decide),k⟩
theorem a5l(T:Txt K mg)(d:Df K mg "floor_root" T9 ["number"]):Fn P w K mg base "floor_root" 1 ["number"] a2L:=by
 have sc:=a42
 refine i4 d sc (fun ds M R Y h=>?_) (fun f cdv A outer s H E ds M R Y hr h=>?_)
 ·obtain⟨n,rfl,_⟩:=h;rfl
 ·obtain⟨n,rfl,hl,k⟩:=h
  refine⟨_,(d4 (g7 (jtm R5 (a8 0) d3) (d5 (d7 d3)) f7) (d4 (jst 1 sc.nd d3) (d4 (u8 PassesOwn.never rfl (P2 rfl T.b_range (a7 (g6 E9 (g6 F1 (b85 (a8 0)) d3) d3) a9)) (jn 2 sc.nd) (d5 (jst 1 sc.nd (g6 o6 (a8 1) d3)))) (d4 (jst 3 sc.nd (g6 E9 (g6 F1 (a8 1) (g6 E9 (a8 0) (a8 1))) d3)) (d4 (a2w PassesOwn.never (jtm a0P (a8 3) (a8 1)) (d4 (jst 1 sc.nd (a8 3)) (d5 (jst 3 sc.nd (g6 E9 (g6 F1 (a8 1) (g6 E9 (a8 0) (a8 1))) d3))))) (d5 (d7 (a8 1)))))))),?_⟩
  refine⟨_,rfl,_,rfl,_,rfl,?_⟩
  refine b3o (fun h0=>?_) (fun h0=>?_)
  ·have hn:n=0:=by omega
   subst hn
   exact k 0 (by decide) (by decide)
  ·have hn:0<n:=by omega
   have hlt:=a0G hl
   have hbe:Builtin.Int.intBits (n:Int)=n.log2+1:=by
    unfold Builtin.Int.intBits
    rw[if_neg (by first|omega|simp;omega)]
    simp
   have e2:(((Builtin.Int.intBits (n:Int):Nat):Int)+1).fdiv 2=(((n.log2+2) / 2:Nat):Int):=by
    rw[hbe,K2 (by omega) (by decide)];omega
   refine⟨_,rfl,_,rfl,_,rfl,_,_,rfl,rfl,b9q,_,rfl,by rw[e2];omega,by rw[e2];omega,?_⟩
   refine⟨fun i e M'=>M'=M∧∃ t:Option D,e=[some (.int n),some (.int ((2 ^ i:Nat):Int)),t,none],⟨rfl,none,rfl⟩,fun _ _ _ _ _=>trivial,?_,?_⟩
   ·rintro i dd e M' hd ⟨rfl,t,rfl⟩
    have e:(((2 ^ i:Nat):Int)*2)=((2 ^ (i+1):Nat):Int):=by rw[d05];omega
    exact⟨_,rfl,_,_,rfl,rfl,c4e (by decide) (by decide),rfl,some dd,by rw[← e];rfl⟩
   ·rw[p7,e2,c9X]
    rintro e M' ⟨rfl,t,rfl⟩
    have hg0:0<2 ^ ((n.log2+2) / 2):=c90 _
    have hgn:n<2 ^ ((n.log2+2) / 2)*2 ^ ((n.log2+2) / 2):=by
     rw[← d1g]
     refine c80 (Nat.lt_log2_self) (c9j (by decide) (by omega))
    have hgs:Sml (2 ^ ((n.log2+2) / 2)):=Sml.pow (by omega)
    generalize 2 ^ ((n.log2+2) / 2)=g at hg0 hgn hgs
    have cf:∀{g:Nat},0<g→Sml g→CFd (n:Int) (g:Int):=fun h1 h2=>⟨by omega,by rw[c8V];exact h2.log⟩
    have ev:∀ g:Nat,((g:Int)+(n:Int).fdiv (g:Int)).fdiv 2=(((g+n / g) / 2:Nat):Int):=fun g=>by
     rw[K2 (d0p _) (d0p _),K2 (by have:=d0p (g+n / g);exact_mod_cast this) (by decide)];norm_cast
    refine⟨_,rfl,_,rfl,_,rfl,_,_,rfl,rfl,cf hg0 hgs,_,rfl,_,_,rfl,rfl,b9q,?_⟩
    refine⟨fun m e M''=>M''=M'∧∃ t:Option D,e=[some (.int n),some (.int (m:Int)),t,some (.int (((m+n / m) / 2:Nat):Int))]∧0<m∧Sml m∧n<(m+1)*(m+1),⟨g,rfl,t,by rw[← ev];rfl,hg0,hgs,by
     have:g*g≤(g+1)*(g+1):=d0n (by omega) (by omega)
     omega⟩,?_⟩
    rintro m e M'' ⟨rfl,t,rfl,hm0,hms,hmn⟩
    refine⟨_,rfl,_,rfl,_,rfl,_,rfl,?_⟩
    refine b3o (fun h1=>?_) (fun h1=>?_)
    ·have hb:(m+n / m) / 2<m:=by exact_mod_cast h1
     have hb0:0<(m+n / m) / 2:=by
      rcases c93 1 m with z|z
      ·generalize n / m=y
       omega
      ·have hm1:m=1:=by omega
       subst hm1
       rw[Nat.div_one]
       omega
     refine⟨_,rfl,_,rfl,_,rfl,_,rfl,_,_,rfl,rfl,cf hb0 (hms.mono (d0H hb)),_,rfl,_,_,rfl,rfl,b9q,?_⟩
     exact⟨_,hb,rfl,t,by rw[← ev ((m+n / m) / 2)];rfl,hb0,hms.mono (d0H hb),c1V hm0⟩
    ·refine⟨_,rfl,?_⟩
     exact k m (b0C hm0 (fun z=>h1 (by exact_mod_cast z))) hmn
theorem b8S(T:Txt K mg)(d:Df K mg "root" b0a ["one"])(c6N:Fn P w K mg base "floor_root" 1 ["number"] a2L):Fn P w K mg base "root" 2 ["one"] a92:=by
 have sc:=b8i
 refine i4 d sc (fun ds M R Y h=>?_) (fun f cdv A outer s H E ds M R Y hr h=>?_)
 ·obtain⟨q,rfl,_⟩:=h;rfl
 ·obtain⟨q,rfl,hz,k⟩:=h
  have hu:=hr.units
  obtain⟨hl1,hl2⟩:=c08 hz
  refine⟨_,(d4 (g7 (jtm a0P (jx (a8 0) d3) d3) (d5 (d7 D8)) f7) (d4 (jst 1 sc.nd (jc c6N hr (a7 (jx (a8 0) d3) a9))) (d4 (jst 2 sc.nd (jc c6N hr (a7 (jx (a8 0) d3) a9))) (d4 (g7 (D6 (C8 (jtm a4B (g6 o6 (a8 1) (a8 1)) (jx (a8 0) d3)) (B6 (jtm a4B (g6 o6 (a8 2) (a8 2)) (jx (a8 0) d3))))) (d5 (d7 D8)) f7) (d5 (d7 (e9 (a7 (a8 1) (a7 (a8 2) a9))))))))),?_⟩
  refine⟨_,rfl,_,rfl,_,rfl,_,rfl,?_⟩
  refine b3o (fun h0=>?_) (fun h0=>?_)
  ·refine k .non (.inr ⟨fun r hr=>?_,rfl⟩)
   have:=(a4n hr).2.2
   omega
  ·have en:q.num=((q.num.natAbs:Nat):Int):=by omega
   refine⟨_,rfl,_,rfl,q.num.natAbs,by rw[← en];rfl,hl1,fun s h1 h2=>?_⟩
   refine⟨_,rfl,_,rfl,q.den,rfl,hl2,fun t h3 h4=>?_⟩
   have hs:s<2 ^ 4000:=c9e (c85 (d00 s) h1) (a0G hl1)
   have ht:t<2 ^ 4000:=c9e (c85 (d00 t) h3) (a0G hl2)
   have m1:IntMulOk (s:Int) (s:Int):=u5 4000 4000 (by rw[c8V];exact hs) (by rw[c8V];exact hs) (by decide)
   have m2:IntMulOk (t:Int) (t:Int):=u5 4000 4000 (by rw[c8V];exact ht) (by rw[c8V];exact ht) (by decide)
   have no:(¬ (s:Int)*(s:Int)=q.num ∨ ¬ (t:Int)*(t:Int)=(q.den:Int))→R .non M:=fun hno=>k .non (.inr ⟨fun r hr=>by
    obtain⟨⟨a,ha⟩,⟨b,hb⟩,hq⟩:=a4n hr
    have e1:=a6l h1 h2 ha
    have e2:=a6l h3 h4 hb
    subst e1;subst e2
    rcases hno with z|z
    ·apply z;rw[en,← ha];norm_cast
    ·apply z;rw[← hb];norm_cast,rfl⟩)
   refine⟨_,rfl,_,rfl,_,_,rfl,rfl,m1,_,rfl,_,rfl,_,rfl,_,rfl,?_⟩
   refine b6h (fun h5=>?_) (fun h5=>?_)
   ·exact no (.inl h5)
   ·refine⟨_,rfl,_,rfl,_,_,rfl,rfl,m2,_,rfl,_,rfl,_,rfl,_,rfl,?_⟩
    refine b6h (fun h6=>?_) (fun h6=>?_)
    ·exact no (.inr h6)
    ·refine⟨_,rfl,_,rfl,sl 2,?_⟩
     obtain⟨r,r0,r1,r2,r3⟩:=b2Y (q:=q) h5 (by exact_mod_cast h6)
     refine k _ (.inl ⟨r,r0,r1,?_⟩)
     unfold d9;rw[r2,r3]
theorem a7y(T:Txt K mg)(d:Df K mg "shrinking" Z0 ["t"])(c6J:Fn P w K mg base "over" 3 ["one","other"] a2f)(c6c:Fn P w K mg base "minus" 4 ["one","other"] K0)(c6r:Fn P w K mg base "less" 1 ["one","other"] a03)(c6h:Fn P w K mg base "opposite" 1 ["one"] a6m)(c8r:Fn P w K mg base "root" 2 ["one"] a92)(c5W:Fn P w K mg base "times" 3 ["one","other"] F5):Fn P w K mg base "shrinking" 5 ["t"] c1f:=by
 have sc:=a6Q
 refine i4 d sc (by walk_at "len") (fun f cdv A outer s H E ds M R Y hr h=>?_)
 have hu:=hr.units
 obtain⟨t,rfl,ht,k⟩:=h
 have z1:=RM.y8 t t
 have z4:sz 4≤3:=by decide +kernel
 have z5:=RM.S4 (t*t) 4
 have z0:=RM.C9
 refine⟨_,(d4 (jst 1 sc.nd (jc c8r hr (a7 (jc c6c hr (a7 (jc c5W hr (a7 (a8 0) (a7 (a8 0) a9))) (a7 (o8 rfl T.c_FOUR) a9))) a9))) (d4 (g7 (jtm c1S (a8 1) D8) (d5 (d7 D8)) f7) (d4 (g7 (u0 (jc c6r hr (a7 (a8 0) (a7 (o8 rfl T.c_NOUGHT) a9)))) (d5 (jst 1 sc.nd (jc c6h hr (a7 (a8 1) a9)))) f7) (d5 (d7 (jc c6J hr (a7 (jc c6c hr (a7 (a8 0) (a7 (a8 1) a9))) (a7 (o8 rfl T.c_TWO) a9)))))))),?_⟩
 walk_at "sim"
 refine⟨by omega,by omega,by omega,?_⟩
 rintro v (⟨r,r0,r1,rfl⟩|⟨r1,rfl⟩)
 ·have zr:sz r≤470:=c85 (b8c r1) (by omega)
  rw[a1v rfl]
  have z2:sz 2≤2:=by decide +kernel
  have z6:=RM.S4 t r
  have z7:=RM.S4 t (-r)
  have z8:=RM.S6 r
  walk_at "sim"
  refine⟨by omega,fun e=>⟨by omega,by decide,by omega,k _ (.inl ⟨r,r0,r1,?_⟩)⟩,fun e=>⟨by omega,by decide,by omega,k _ (.inl ⟨r,r0,r1,?_⟩)⟩⟩
  ·rw[if_pos e]
  ·rw[if_neg e]
 ·rw[a1v rfl]
  walk_at "sim"
  exact k _ (.inr ⟨r1,rfl⟩)
theorem a7z(T:Txt K mg)(d:Df K mg "ray_along" Z1 ["table"])(c6c:Fn P w K mg base "minus" 4 ["one","other"] K0)(c6J:Fn P w K mg base "over" 3 ["one","other"] a2f)(c5Z:Fn P w K mg base "t_of" 4 ["table"] a1C):Fn P w K mg base "ray_along" 5 ["table"] b0q:=by
 have sc:=a6R
 refine i4 d sc (by walk_at "len") (fun f cdv A outer s H E ds M R Y hr h=>?_)
 have hu:=hr.units
 obtain⟨x,rfl,⟨a,b,c,d⟩,hx,cd,k⟩:=h
 have hx':x=a2e a b c d:=hx
 subst hx'
 have t4:=CD.t4 cd
 have h1:sz a≤230:=t4.a
 have ht:sz (trQ (a,b,c,d))≤231:=CD.tr cd
 have z2:sz 2≤2:=by decide +kernel
 have z3:=RM.S7 (trQ (a,b,c,d)) 2 (by decide)
 refine⟨_,(d4 (p9 (a8 0) (i0 (n:=4) rfl (d6 (jn 1 sc.nd) (d6 (jn 2 sc.nd) (d6 (jn 3 sc.nd) (d6 (jn 4 sc.nd) g9)))))) (d4 (g7 (jtm (E4 hu) (a8 2) (o8 rfl T.c_NOUGHT)) (d5 (d7 (o8 rfl T.c_AXIS_RAY))) f7) (d5 (d7 (e9 (a7 (a8 2) (a7 (jc c6c hr (a7 (jc c6J hr (a7 (jc c5Z hr (a7 (a8 0) a9)) (a7 (o8 rfl T.c_TWO) a9))) (a7 (a8 1) a9))) a9))))))),?_⟩
 walk_at "sim"
 unfold b0Y at k
 refine⟨fun e=>?_,fun e=>⟨(a,b,c,d),rfl,cd,by decide,by omega,by omega,?_⟩⟩
 ·rw[if_pos e]at k;exact k
 ·rw[if_neg e]at k;exact k
theorem b0A(T:Txt K mg)(d:Df K mg "form_of" a2l ["table"])(c6h:Fn P w K mg base "opposite" 1 ["one"] a6m)(c6c:Fn P w K mg base "minus" 4 ["one","other"] K0):Fn P w K mg base "form_of" 5 ["table"] a7o:=by
 have sc:=a96
 refine i4 d sc (by walk_at "len") (fun f cdv A outer s H E ds M R Y hr h=>?_)
 have hu:=hr.units
 obtain⟨x,rfl,⟨a,b,c,d⟩,hx,cd,k⟩:=h
 have hx':x=a2e a b c d:=hx
 subst hx'
 have t4:=CD.t4 cd
 have h1:sz a≤230:=t4.a
 have h4:sz d≤230:=t4.d
 refine⟨_,(d4 (p9 (a8 0) (i0 (n:=4) rfl (d6 (jn 1 sc.nd) (d6 (jn 2 sc.nd) (d6 (jn 3 sc.nd) (d6 (jn 4 sc.nd) g9)))))) (d5 (d7 (e9 (a7 (a8 3) (a7 (jc c6c hr (a7 (a8 4) (a7 (a8 1) a9))) (a7 (jc c6h hr (a7 (a8 2) a9)) a9))))))),?_⟩
 walk_at "sim"
 exact⟨by omega,k⟩
theorem b8W(T:Txt K mg)(d:Df K mg "kind" b0c ["hall"])(c7f:Fn P w K mg base "shrinking" 5 ["t"] c1f)(c5Z:Fn P w K mg base "t_of" 4 ["table"] a1C)(c7g:Fn P w K mg base "ray_along" 5 ["table"] b0q)(c7u:Fn P w K mg base "form_of" 5 ["table"] a7o)(c5U:Fn P w K mg base "rounds_to_self" 5 ["table"] b0h)(c5X:Fn P w K mg base "kind_word" 6 ["table"] sKw)(c6a:Fn P w K mg base "round_of" 7 ["hall"] a1H):Fn P w K mg base "kind" 8 ["hall"] a4l:=by
 have sc:=b8k
 refine i4 d sc (by walk_at "len") (fun f cdv A outer s H E ds M R Y hr h=>?_)
 have hu:=hr.units
 obtain⟨x0,near,bs,far,rfl,hx0,hok,k⟩:=h
 have cd:=hok.cd (d8 near bs far).length
 rw[c9k]at cd
 rcases hx0 with rfl|rfl
 all_goals
  refine⟨_,(d4 (jst 1 sc.nd (jc c6a hr (a7 (a8 0) a9))) (d4 (jst 2 sc.nd (jc c5X hr (a7 (a8 1) a9))) (d4 (g7 (jtm B2 (a8 2) i3) (d5 (d7 (e9 (a7 (a8 2) (a7 (jc c5U hr (a7 (a8 1) a9)) a9))))) f7) (d4 (g7 (jtm B2 (a8 2) i3) (d5 (d7 (e9 (a7 (a8 2) (a7 (jc c7u hr (a7 (a8 1) a9)) a9))))) f7) (d4 (g7 (jtm B2 (a8 2) i3) (d5 (d7 (e9 (a7 (a8 2) (a7 (jc c7g hr (a7 (a8 1) a9)) a9))))) f7) (d5 (d7 (e9 (a7 (a8 2) (a7 (jc c7f hr (a7 (jc c5Z hr (a7 (a8 1) a9)) a9)) a9)))))))))),?_⟩
  walk_at "sim"
  refine⟨hok,?_⟩
  generalize tbQ (d8 near bs far)=m at *
  refine⟨m,rfl,cd,fun e=>⟨m,rfl,cd,k _ (.inl ⟨e,rfl⟩)⟩,fun e=>⟨fun e2=>⟨m,rfl,cd,k _ (.inr (.inl ⟨e2,rfl⟩))⟩,fun e2=>⟨fun e3=>⟨m,rfl,cd,k _ (.inr (.inr (.inl ⟨e3,rfl⟩)))⟩,fun e3=>⟨m,rfl,cd,CD.tr cd,fun v hv=>k _ (.inr (.inr (.inr ⟨?_,hv⟩)))⟩⟩⟩⟩
  unfold kwS at e e2 e3 ⊢
  by_cases h1:u7 m
  ·rw[if_pos h1]at e;exact absurd rfl e
  ·rw[if_neg h1]at e2 e3 ⊢
   by_cases h2:f6 (trQ m)=2
   ·rw[if_pos h2]at e3;exact absurd rfl e3
   ·rw[if_neg h2]at e2 ⊢
    by_cases h3:f6 (trQ m)<2
    ·rw[if_pos h3]at e2;exact absurd rfl e2
    ·rw[if_neg h3]
theorem a5p(T:Txt K mg)(d:Df K mg "_law_tight" U4 ["pool","hall","ray"])(c5Y:Fn P w K mg base "ratio" 2 ["top","bottom"] X6)(c5T:Fn P w K mg base "_law_next" 1 ["pool","base"] N2)(c6E:Fn P w K mg base "_law_whole_root" 1 ["number"] a66)(c6f:Fn P w K mg base "hall_lines" 7 ["hall"] N8)(c6t:Fn P w K mg base "less" 1 ["one","other"] a4j)(c7A:Fn P w K mg base "reach" 8 ["hall","ray","p","q"] a3b)(c7v:Fn P w K mg base "kind" 8 ["hall"] a4l):Fn P w K mg base "_law_tight" 9 ["pool","hall","ray"] a7a:=by
 have sc:=a46
 refine i4 d sc (by walk_at "len") (fun f cdv A outer s H E ds M R Y hr h=>?_)
 have hu:=hr.units
 obtain⟨p,near,bs,far,y,u,rfl,hp,⟨hok,hbl,cd⟩,k⟩:=h
 have hw:=hok.w
 have hz0:∀ x∈bs,sz x.2≤2000:=fun x hx=>c85 (hok.part x hx).1 (by decide)
 have cL:=hw.cd (d8 near bs far).length
 rw[c9k]at cL
 have zt:sz (trQ (tbQ (d8 near bs far)))≤231:=CD.tr cL
 refine⟨_,(d4 (E7 (i:=3) [] ["k","part"] [] sc.nd rfl (Or.inl rfl) rfl (by decide +kernel) rfl (by decide +kernel) (by decide +kernel) rfl a0S a0S (R7 rfl T.b_enumerate (a7 (jx (a8 1) d3) a9)) (fun _ _ _ _ _ _=>(i0 (n:=2) rfl (d6 (jn 0 (show(["k","part"]:List Str).Nodup by decide +kernel)) (d6 (jn 1 (show(["k","part"]:List Str).Nodup by decide +kernel)) g9)))) (fun _ _ _ _ _ _=>(a0H (jtm B2 (jx (a8 1) d3) i3))) (fun _ _ _ _ _ _=>(a8 0))) (d4 (g7 (D6 (C8 (jtm a2R (jx (jc c7v hr (a7 (a8 1) a9)) d3) i3) (C8 (jtm (E4 hu) (a8 3) (j9 a9)) (B6 (jtm R5 (jc c5T hr (a7 (a8 0) (a7 d3 a9))) d3))))) (d5 (d7 (a8 1))) f7) (d4 (jst 4 sc.nd (jx (a8 3) (jc c5T hr (a7 (a8 0) (a7 (p0 F3 rfl T.b_len B7 (a7 (a8 3) a9)) a9))))) (d4 (jst 5 sc.nd (e9 (a7 d3 (a7 d3 a9)))) (d4 (u8 PassesOwn.never rfl (A1 (G8 (jc c6f hr (a7 (a8 1) a9)))) (i0 (n:=3) rfl (d6 (jn 6 sc.nd) (d6 (jn 7 sc.nd) (d6 (i0 (n:=3) rfl (d6 (jn 8 sc.nd) (d6 (jn 9 sc.nd) (d6 (jn 10 sc.nd) g9)))) g9)))) (d5 (g7 (D6 (a7O (jtm (E4 hu) (a8 7) (a8 4)) (a3p (u0 (jc c6t hr (a7 (a8 5) (a7 (jc c7A hr (a7 (a8 1) (a7 (a8 2) (a7 (a8 8) (a7 (a8 9) a9))))) a9))))))) (d5 (jst 5 sc.nd (jc c7A hr (a7 (a8 1) (a7 (a8 2) (a7 (a8 8) (a7 (a8 9) a9))))))) f7))) (d4 (jst 11 sc.nd (jx (j9 (a7 d3 (a7 d3 (a7 (g6 a0V d3 d3) (a7 (g6 a0V d3 d3) a9))))) (jc c5T hr (a7 (a8 0) (a7 d3 a9))))) (d4 (jst 12 sc.nd (jc c6E hr (a7 (g6 E9 (g6 o6 (g6 o6 (jx (a8 5) d3) (a8 11)) (a8 11)) (jx (a8 5) d3)) a9))) (d4 (jst 13 sc.nd (j9 (a7 (e9 (a7 i3 (a7 (jc c5Y hr (a7 (p0 (c0I rfl) rfl T.b_max b6W (a7 d3 (a7 (g6 F1 (a8 12) (jc c5T hr (a7 (a8 0) (a7 d3 a9)))) a9))) (a7 (a8 11) a9))) a9))) a9))) (d5 (d7 (e9 (a7 (jx (a8 1) d3) (a7 (P3 (P3 (a6B (jx (a8 1) d3) a6A (a6z (a8 4))) (a8 13)) (a6B (jx (a8 1) d3) (a6z (g6 F1 (a8 4) d3)) a6A)) (a7 (jx (a8 1) d3) a9)))))))))))))),?_⟩
 walk_at "sim"
 rw[a2y]
 refine X1 (xs:=bs.zipIdx) (fun x=>x.1.1 == Str.ofString "stop") (fun x=>D.int (x.2:Int)) (by rw[c9C];omega) (by simp only[o9]) (fun x hx Q N h1 h2=>?_) ?_
 ·walk_at "sim"
  exact⟨fun e=>h1 (by rw[e];exact beq_self_eq_true _),fun e=>h2 (beq_eq_false_iff_ne.mpr e)⟩
 rw[show d1i (fun x:(Str × Rat) × Nat=>x.1.1 == Str.ofString "stop") bs.zipIdx=frW bs from rfl]
 have fl:=b2s bs
 refine⟨hw,fun v hv=>⟨fun _=>k bs M hw hz0 (u3.refl hp),fun hturn=>⟨b6P fun x hx=>by obtain⟨z,_,rfl⟩:=c9t.mp hx;rfl,fun _=>k bs M hw hz0 (u3.refl hp),fun hne=>⟨hp,by decide,fun r M1 r0 r1 s1=>⟨fun _=>k bs M1 hw hz0 s1,fun _=>?_⟩⟩⟩⟩⟩
 obtain⟨t1,t2⟩:-2<trQ (tbQ (d8 near bs far))∧trQ (tbQ (d8 near bs far))<2:=by
  rcases K7 (tbQ (d8 near bs far))with⟨_,e⟩|⟨_,_,e⟩|⟨_,_,c3,e⟩|⟨_,c2,c3,e⟩
  ·rw[e]at hturn;exact absurd hturn (by decide)
  ·rw[e]at hturn;exact absurd hturn (by decide)
  ·exact X5.mp c3
  ·rw[e]at hturn;exact absurd hturn (by decide)
 have hpos:0<(frW bs).length:=by
  cases e:frW bs with
  | nil=>rw[e]at hne;exact absurd rfl hne
  | cons a b=>exact d2a _
 have e1:((frW bs).map fun x=>D.int (x.2:Int)).length=(frW bs).length:=c8Y ..
 walk_at "sim"
 refine⟨s1.pool,by omega,lg9 (by omega),fun r' M2 r0' r1' s2=>L9 r0' r1' fun dd hdd=>?_⟩
 obtain⟨⟨⟨w,q0⟩,at'⟩,hx,rfl⟩:=c9t.mp hdd
 obtain⟨hx1,hx2⟩:=d0h.mp hx
 have hat:bs[at']? = some (w,q0):=c9O.mp hx1
 have hws:w=Str.ofString "stop" := by simpa using hx2
 subst hws
 have hal:=(c8W.mp hat).1
 refine⟨hw,fun p1 hp1=>?_⟩
 rw[P7 h8,J1 hp1]
 have z0:sz (0:Rat)≤1:=by rw[RM.C9];decide
 walk_at "sim"
 have st:=s1.trans s2
 refine O5.by (fun i e M'=>M2=M'∧∃(g:Rat) (z6 z7 z8 z9 z10:Option D),e=[some (D.ref p),some (D.tup [d9 near,D.vl (c97 f9 bs),d9 far]),some (v6 y u),some (D.vl ((frW bs).map fun x=>D.int (x.2:Int))),some (D.int (at':Int)),some (d9 g),z6,z7,z8,z9,z10,none,none,none]∧0≤g∧sz g≤8800∧g.num.natAbs<2 ^ 3500) ⟨rfl,0,_,_,_,_,_,rfl,by decide,by omega,c90 _⟩ (fun i e M' _ _=>by simp only[o9]) ?_ ?_
 ·rintro i dd e M' hd ⟨rfl,g,z6,z7,z8,z9,z10,rfl,g0,gz,gn⟩
  obtain⟨w0,l,rfl,hli,hw0⟩:=b6j hd
  rw[I0,B3]at hli
  have hlm:=c81 hli
  obtain⟨⟨q1,q2⟩,⟨q3,q4⟩,zx,zf⟩:=hw.line cd hlm
  have rn:=b5U hw cd hlm t1 t2
  have rs:=b5p zt zx zf t1 t2
  obtain⟨zz,hzz,_,e2⟩:=b4V hw0
  have c1:cl 60 w0.2=true:=by rw[← e2];exact(b6m hzz 59).2
  unfold hlD p5
  walk_at "sim"
  generalize J3 (trQ (tbQ (d8 near bs far))) (l.1*y+l.2.1*u) (l.1*(g8 (d8 near bs far) (y,u)).1+l.2.1*(g8 (d8 near bs far) (y,u)).2)=rc at *
  refine⟨c1,fun _=>⟨⟨hw,cd,⟨q1,q2⟩,zx,zf,t1,t2⟩,g,rc.num,(rc.den:Int),rfl,⟨by have:=rc.den_pos;omega,by omega,by rw[c8V];exact t9 _ (by omega),u4 _ (by omega)⟩,?_⟩,fun _=>⟨g,_,_,_,_,_,rfl,g0,gz,gn⟩⟩
  rw[d0E]
  walk_at "sim"
  exact⟨fun hlt=>⟨⟨hw,cd,⟨q1,q2⟩,zx,zf,t1,t2⟩,rc,_,_,_,_,_,rfl,by grind,rs,rn⟩,fun _=>⟨g,_,_,_,_,_,rfl,g0,gz,gn⟩⟩
 ·rintro e M' ⟨rfl,g,z6,z7,z8,z9,z10,rfl,g0,gz,gn⟩
  walk_at "sim"
  refine⟨cp6,c5M,s2.pool,by decide,fun r3 M3 a0 a1 s3=>L9 a0 (by show r3<4;exact a1) fun dd hdd=>?_⟩
  obtain⟨sc',rfl,sc0,sc1⟩:∃ sc':Nat,dd = .int (sc':Int)∧0<sc'∧sc'<2 ^ 30:=by
   simp only[c9l,c9u,or_false]at hdd
   rcases hdd with rfl|rfl|rfl|rfl
   ·exact⟨10,rfl,by decide,by decide⟩
   ·exact⟨1000,rfl,by decide,by decide⟩
   ·exact⟨1000000,by rfl,by decide,by decide⟩
   ·exact⟨1000000000,by rfl,by decide,by decide⟩
  obtain⟨G,hG⟩:∃ G:Nat,g.num=(G:Int):=⟨g.num.toNat,by have:=Rat.num_nonneg.mpr g0;omega⟩
  rw[hG]at gn ⊢
  rw[c8V]at gn
  have gd:=t9 g gz
  have gdp:=g.den_pos
  have eN:((G:Int)*(sc':Int)*(sc':Int)).fdiv (g.den:Int)=((G*sc'*sc' / g.den:Nat):Int):=by
   rw[K2 (by exact_mod_cast c9K _) (by omega)];norm_cast
  have b1:G*sc'<2 ^ (3500+30):=o7 gn sc1
  have b2:G*sc'*sc'<2 ^ (3500+30+30):=o7 b1 sc1
  have bN:G*sc'*sc' / g.den<2 ^ 3560:=c9e (d0X _ _) b2
  walk_at "sim"
  rw[eN]
  generalize G*sc'*sc' / g.den=N at *
  walk_at "sim"
  have hs:1000≤sizeLine:=by decide
  have scn:(sc':Int).natAbs<2 ^ 30:=by rw[c8V];exact sc1
  refine⟨u5 3500 30 (by rw[c8V];exact gn) scn (by decide),u5 3530 30 (by rw[← c9P,c8V];exact b1) scn (by decide),⟨by omega,by rw[c8V];exact c80 (F0 gd (by decide)) (by decide)⟩,c80 bN (c9j (by decide) (by decide)),fun a a1 a2=>⟨s3.pool,by decide,fun r4 M4 c0 c1 s4=>⟨by omega,c80 (F0 scn (by decide)) (by decide),?_⟩⟩⟩
  have ab:a<2 ^ 1780:=by
   apply c9a
   intro hn
   have hn:2 ^ 1780≤a:=Nat.le_of_not_lt hn
   have:=d0n hn hn
   rw[← d1g]at this
   exact absurd (c9e (c85 this a1) bN) (d0a _)
  have tz:(max 1 ((a:Int)+r4)).natAbs<2 ^ 1781:=by
   have p1:2 ^ 1≤2 ^ 1780:=c9j (by decide) (by decide)
   rw[show 2 ^ 1781=2 ^ 1780*2 from d05 2 1780]
   generalize 2 ^ 1780=W at *
   omega
  have qz:sz (c9x (max 1 ((a:Int)+r4)) (sc':Int))≤2000:=c85 (a4o (k:=1781) (by decide) tz (by omega) (c80 scn (c9j (by decide) (by decide)))) (by decide)
  have q0':0<c9x (max 1 ((a:Int)+r4)) (sc':Int):=b0t (by omega) (by omega)
  have hset:=hok.set hat q0' (c85 qz (by decide))
  generalize c9x (max 1 ((a:Int)+r4)) (sc':Int)=qn at *
  have cs:=b6L hal (Str.ofString "stop",qn)
  have cs:DL.a1o (c97 f9 bs) none (some (at':Int))++[D.tup [D.str (Str.ofString "stop"),d9 qn]]++DL.a1o (c97 f9 bs) (some ((at':Int)+1)) none=(bs.set at' (Str.ofString "stop",qn)).map f9:=cs
  have ln:=congrArg d1J cs
  rw[c9h,c8Y,d1x]at ln
  have l0:(DL.a1o (c97 f9 bs) none (some (at':Int))).length≤bs.length:=by rw[b6K,c9W,c8Y];omega
  refine⟨c85 (by omega) hs,c85 (by omega) hs,?_⟩
  rw[cs]
  refine k _ _ hset (fun x hx=>?_) ((st.trans s3).trans s4)
  rcases d0w hx with hx|rfl
  ·exact hz0 x hx
  ·exact qz
theorem a5x(T:Txt K mg)(d:Df K mg "_law_along" V1 ["hall","other"])(c6c:Fn P w K mg base "minus" 4 ["one","other"] K0)(c6J:Fn P w K mg base "over" 3 ["one","other"] a2f)(c7v:Fn P w K mg base "kind" 8 ["hall"] a4l)(c6a:Fn P w K mg base "round_of" 7 ["hall"] a1H):Fn P w K mg base "_law_along" 9 ["hall","other"] a7r:=by
 have sc:=a5d
 refine i4 d sc (by walk_at "len") (fun f cdv A outer s H E ds M R Y hr h=>?_)
 have hu:=hr.units
 obtain⟨near,bs,far,b,rfl,hok,k⟩:=h
 have cL:=hok.cd (d8 near bs far).length
 rw[c9k]at cL
 have zt:sz (trQ (tbQ (d8 near bs far)))≤231:=CD.tr cL
 refine⟨_,(d4 (p9 (jc c6a hr (a7 (a8 0) a9)) (i0 (n:=4) rfl (d6 (jn 2 sc.nd) (d6 (jn 3 sc.nd) (d6 (jn 4 sc.nd) (d6 (jn 5 sc.nd) g9)))))) (d4 (jst 6 sc.nd (jc c7v hr (a7 (a8 0) a9))) (d4 (jst 7 sc.nd (e9 (a7 d3 (a7 d3 a9)))) (J6 (g7 (jtm a0P (g6 F1 (g6 o6 (jx (a8 2) d3) (jx (a8 5) d3)) (g6 o6 (jx (a8 5) d3) (jx (a8 2) d3))) d3) (d5 (jst 7 sc.nd (e9 (a7 (A9 d3) (a7 d3 a9))))) f7) (J6 (g7 (D6 (a7O (jtm B2 (jx (a8 6) d3) i3) (a3p (jtm a0F (jx (a8 6) d3) D8)))) (d4 (jst 7 sc.nd (jx (a8 6) d3)) (d5 (g7 (u0 (a8 1)) (d5 (jst 7 sc.nd (jc c6J hr (a7 (e9 (a7 d3 (a7 d3 a9))) (a7 (a8 7) a9))))) f7))) f7) (d4 (jst 8 sc.nd (e9 (a7 (a8 3) (a7 (jc c6c hr (a7 (a8 7) (a7 (a8 2) a9))) a9)))) (J6 (g7 (jtm (E4 hu) (a8 8) (e9 (a7 (e9 (a7 d3 (a7 d3 a9))) (a7 (e9 (a7 d3 (a7 d3 a9))) a9)))) (d5 (jst 8 sc.nd (e9 (a7 (jc c6c hr (a7 (a8 5) (a7 (a8 7) a9))) (a7 (jc c6c hr (a7 (e9 (a7 d3 (a7 d3 a9))) (a7 (a8 4) a9))) a9))))) f7) (d5 (d7 (a8 8)))))))))),?_⟩
 walk_at "sim"
 refine⟨hok.w,?_⟩
 generalize hm:tbQ (d8 near bs far)=m at *
 obtain⟨a,b',c,d'⟩:=m
 have t4:=CD.t4 cL
 have za:sz a≤230:=t4.a
 have zb:sz b'≤230:=t4.b
 have zc:sz c≤230:=t4.c
 have zd:sz d'≤230:=t4.d
 rw[show F6 (a,b',c,d')=a2e a b' c d' from rfl]
 walk_at "sim"
 rw[hm]
 refine⟨hok.w,fun v hv=>?_⟩
 refine a1q (fun e' M'=>M=M'∧∃ q:Rat,e'=[some (D.tup [d9 near,D.vl (c97 f9 bs),d9 far]),some (D.bl b),some (d9 a),some (d9 b'),some (d9 c),some (d9 d'),some (D.tup [D.str (kwS (a,b',c,d')),v]),some (d9 q),none]∧sz q≤232) ?_ ?_
 ·walk_at "sim"
  exact⟨mND (q:=a) (r:=d') (by omega),mND (q:=d') (r:=a) (by omega),fun _=>⟨-1,rfl,by rw[RM.S6,RM.S5];decide⟩,fun _=>⟨1,rfl,by rw[RM.S5];decide⟩⟩
 ·rintro e' M' ⟨rfl,q,rfl,hq⟩
  refine a1q (fun e' M'=>M=M'∧∃ q:Rat,e'=[some (D.tup [d9 near,D.vl (c97 f9 bs),d9 far]),some (D.bl b),some (d9 a),some (d9 b'),some (d9 c),some (d9 d'),some (D.tup [D.str (kwS (a,b',c,d')),v]),some (d9 q),none]∧sz q≤232) ?_ ?_
  ·walk_at "sim"
   refine⟨fun hoff=>?_,fun _=>⟨q,rfl,hq⟩⟩
   obtain⟨c1,c2⟩:¬ f6 (trQ (a,b',c,d'))<2∧¬ f6 (trQ (a,b',c,d'))=2:=by
    rcases K7 (a,b',c,d')with⟨_,e⟩|⟨_,_,e⟩|⟨_,_,_,e⟩|⟨_,c2,c3,e⟩
    ·rw[e]at hoff;exact absurd hoff (by decide)
    ·rw[e]at hoff;exact absurd hoff (by decide)
    ·rw[e]at hoff;exact absurd hoff (by decide)
    ·exact⟨c3,c2⟩
   have hsh:b2E (trQ (a,b',c,d')) v:=by
    rcases hv with⟨e,_⟩|⟨e,_⟩|⟨e,_⟩|⟨_,h⟩
    ·rw[e]at hoff;exact absurd hoff (by decide)
    ·rw[e]at hoff;exact absurd hoff (by decide)
    ·rw[e]at hoff;exact absurd hoff (by decide)
    ·exact h
   have hv2:(∃ x:Rat,v=d9 x)∨v = .non:=by
    rcases hsh with⟨r,_,_,e⟩|⟨_,e⟩
    ·exact .inl ⟨_,e⟩
    ·exact .inr e
   rcases hv2 with⟨x,rfl⟩|rfl
   ·obtain⟨x0,xz⟩:=c1b c1 c2 hsh
    have xi:=RM.S7 1 x x0
    have s1:sz (1:Rat)=1:=RM.S5
    rw[a1v rfl]
    walk_at "sim"
    exact⟨fun _=>⟨x0,by omega,_,rfl,by omega⟩,fun _=>⟨_,rfl,by omega⟩⟩
   ·rw[a1v rfl]
    walk_at "sim"
    exact⟨q,rfl,hq⟩
  ·rintro e' M' ⟨rfl,q,rfl,hq⟩
   walk_at "sim"
   have z1:=RM.S4 q a
   have z2:=RM.S4 d' q
   have z3:=RM.S4 0 c
   have s0:sz (0:Rat)≤1:=by rw[RM.C9];decide
   refine⟨by omega,?_⟩
   refine a1q (fun e' M'=>M=M'∧∃(y u:Rat) (z0 z1 z2 z3 z4 z5 z6 z7:Option D),e'=[z0,z1,z2,z3,z4,z5,z6,z7,some (v6 y u)]∧(sz y≤463∧sz u≤463∧sz y+sz u≤700)) ?_ ?_
   ·walk_at "sim"
    exact⟨fun _=>⟨by omega,by omega,d' - q,0 - c,_,_,_,_,_,_,_,_,rfl,by omega,by omega,by omega⟩,fun _=>⟨b',q - a,_,_,_,_,_,_,_,_,rfl,by omega,by omega,by omega⟩⟩
   ·rintro e' M' ⟨rfl,y,u,z0,z1,z2,z3,z4,z5,z6,z7,rfl,hz⟩
    walk_at "sim"
    exact k y u hz
theorem a2u(T:Txt K mg)(d:Df K mg "_law_ratio" L7 ["pool","tops","bottoms"])(c5Y:Fn P w K mg base "ratio" 2 ["top","bottom"] X6)(c5T:Fn P w K mg base "_law_next" 1 ["pool","base"] N2):Fn P w K mg base "_law_ratio" 3 ["pool","tops","bottoms"] b0i:=by
 have sc:=a0U
 refine i4 d sc (by walk_at "len") (fun f cdv A outer s H E ds M R Y hr h=>?_)
 have hu:=hr.units
 obtain⟨p,x,y,rfl,hp,ts,bs,P,rfl,rfl,⟨⟨t0,t1⟩,⟨b0,b1⟩,hb,hP⟩,k⟩:=h
 refine⟨_,(d5 (d7 (jc c5Y hr (a7 (jx (a8 1) (jc c5T hr (a7 (a8 0) (a7 (p0 F3 rfl T.b_len B7 (a7 (a8 1) a9)) a9)))) (a7 (jx (a8 2) (jc c5T hr (a7 (a8 0) (a7 (p0 F3 rfl T.b_len B7 (a7 (a8 2) a9)) a9)))) a9))))),?_⟩
 walk_at "sim"
 have e1:(ts.map D.int).length=ts.length:=c8Y ..
 have e2:(bs.map D.int).length=bs.length:=c8Y ..
 refine⟨hp,by omega,lg9 (by omega),fun r M1 r0 r1 s1=>L9 r0 r1 fun d hd=>⟨s1.pool,by omega,lg9 (by omega),fun r' M2 r0' r1' s2=>L9 r0' r1' fun d' hd'=>?_⟩⟩
 obtain⟨t,ht,rfl⟩:=c9t.mp hd
 obtain⟨b,hb',rfl⟩:=c9t.mp hd'
 have hb2:=hb b hb'
 exact⟨_,_,rfl,by omega,c80 (F0 hb2.2 (by decide)) (by decide),k _ _ (hP t ht b hb') (s1.trans s2)⟩
theorem a9m(T:Txt K mg)(d:Df K mg "_law_ray" a1f ["pool","hall"])(c6m:Fn P w K mg base "_law_scaled" 4 ["ray","factor"] a3a)(c6d:Fn P w K mg base "plus" 3 ["one","other"] K8)(c5T:Fn P w K mg base "_law_next" 1 ["pool","base"] N2)(c6O:Fn P w K mg base "_law_along" 9 ["hall","other"] a7r)(c6M:Fn P w K mg base "_law_ratio" 3 ["pool","tops","bottoms"] b0i)(c5V:Fn P w K mg base "_law_ratio" 3 ["pool","tops","bottoms"] a2P):Fn P w K mg base "_law_ray" 10 ["pool","hall"] b5g:=by
 have sc:=a82
 refine i4 d sc (by walk_at "len") (fun f cdv A outer s H E ds M R Y hr h=>?_)
 have hu:=hr.units
 obtain⟨p,near,bs,far,rfl,hp,hok,k⟩:=h
 have e18:(10:Int) ^ d1Z 18=1000000000000000000:=by decide
 have e20:(10:Int) ^ d1Z 20=100000000000000000000:=by decide
 have e25:(10:Int) ^ d1Z 25=10000000000000000000000000:=by decide
 have e40:(10:Int) ^ d1Z 40=10000000000000000000000000000000000000000:=by decide
 refine⟨_,(d4 (jst 2 sc.nd (jc c5T hr (a7 (a8 0) (a7 d3 a9)))) (d4 (jst 3 sc.nd (e9 (a7 (jc c5V hr (a7 (a8 0) (a7 (j9 (a7 d3 (a7 d3 (a7 (A9 d3) (a7 d3 (a7 (A9 d3) (a7 d3 (a7 d3 a9)))))))) (a7 (j9 (a7 d3 (a7 d3 (a7 d3 (a7 d3 a9))))) a9)))) (a7 (jc c5V hr (a7 (a8 0) (a7 (j9 (a7 d3 (a7 d3 (a7 d3 (a7 (A9 d3) (a7 d3 (a7 (A9 d3) a9))))))) (a7 (j9 (a7 d3 (a7 d3 (a7 d3 a9)))) a9)))) a9)))) (d4 (jst 4 sc.nd (jc c6M hr (a7 (a8 0) (a7 (j9 (a7 d3 (a7 (A9 d3) (a7 d3 (a7 d3 (a7 d3 (a7 d3 a9))))))) (a7 (j9 (a7 d3 (a7 d3 (a7 d3 (a7 d3 (a7 d3 (a7 d3 (a7 (g6 a0V d3 d3) (a7 (g6 a0V d3 d3) a9))))))))) a9))))) (d4 (g7 (jtm R5 (a8 2) d3) (d5 (d7 (e9 (a7 (e9 (a7 d3 (a7 d3 a9))) (a7 (e9 (a7 d3 (a7 d3 a9))) a9))))) f7) (d4 (g7 (jtm a0P (a8 2) d3) (d5 (d7 (jc c6m hr (a7 (jc c6O hr (a7 (a8 1) (a7 (jm R5 (a8 2) d3) a9))) (a7 (a8 4) a9))))) f7) (d4 (g7 (jtm a0P (a8 2) d3) (d4 (jst 5 sc.nd (jc c6O hr (a7 (a8 1) (a7 A4 a9)))) (d4 (jst 6 sc.nd (jc c6m hr (a7 (a8 3) (a7 (e9 (a7 d3 (a7 (jx (j9 (a7 (g6 a0V d3 d3) (a7 (g6 a0V d3 d3) (a7 (g6 a0V d3 d3) a9)))) (jc c5T hr (a7 (a8 0) (a7 d3 a9)))) a9))) a9)))) (d5 (d7 (e9 (a7 (jc c6d hr (a7 (jx (a8 5) d3) (a7 (jx (a8 6) d3) a9))) (a7 (jc c6d hr (a7 (jx (a8 5) d3) (a7 (jx (a8 6) d3) a9))) a9))))))) f7) (d5 (d7 (jc c6m hr (a7 (a8 3) (a7 (a8 4) a9))))))))))),?_⟩
 walk_at "sim"
 refine⟨hp,by decide,fun r M1 r0 r1 s1=>⟨s1.pool,[0,1,-1,2,-3,5,9],[1,1,2,3],fun q=>sz q≤4,rfl,rfl,⟨by decide,by decide,by decide,a0J (by decide) (by decide) (by decide)⟩,fun q M2 hq s2=>⟨s2.pool,[0,0,1,-1,2,-4],[1,2,3],fun q=>sz q≤4,rfl,rfl,⟨by decide,by decide,by decide,a0J (by decide) (by decide) (by decide)⟩,fun q1 M3 hq1 s3=>⟨c4O,c0G,?_⟩⟩⟩⟩
 rw[e20,e40]
 refine⟨s3.pool,[1,-1,2,1,3,1],[1,1,2,3,10,1000,100000000000000000000,10000000000000000000000000000000000000000],fun q=>sz q≤133,rfl,rfl,⟨by decide,by decide,by decide,a0J (by decide) (by decide) (by decide)⟩,fun g M4 hg s4=>?_⟩
 have st:=((s1.trans s2).trans s3).trans s4
 have z0:sz (0:Rat)≤1:=by rw[RM.C9];decide
 have scale:∀ y u:Rat,sz y≤463∧sz u≤463∧sz y+sz u≤700→(sz y+sz g≤8900∧sz u+sz g≤8900)∧R (v6 (y*g) (u*g)) M4:=fun y u h=>by
  have m1:=RM.y8 y g
  have m2:=RM.y8 u g
  exact⟨⟨by omega,by omega⟩,k _ _ _ ((CD.ray2 (k:=sz y+133) (l:=sz u+133) (by omega) (by omega)).mono (by omega)) st⟩
 refine⟨fun _=>k 0 0 _ ((CD.ray2 (k:=1) (l:=1) z0 z0).mono (by decide)) st,fun _=>⟨fun _=>⟨hok,fun y u h=>by first|exact scale y u h|exact⟨y,u,g,rfl,scale y u h⟩⟩,fun _=>⟨fun _=>⟨hok,fun y u hyu=>⟨c2A,c4N,c0G,st.pool,by decide,fun v M5 v0 v1 s5=>?_⟩⟩,fun _=>scale q q1 ⟨by omega,by omega,by omega⟩⟩⟩⟩
 refine L9 v0 (by show v<3;exact v1) fun dd hdd=>?_
 obtain⟨N,rfl,N0,N1⟩:∃ N:Nat,dd = .int (N:Int)∧0<N∧N<2 ^ 133:=by
  rw[e18,e25]at hdd
  simp only[c9l,c9u,or_false]at hdd
  rcases hdd with rfl|rfl|rfl
  ·exact⟨1000000000000000000,rfl,by decide,by decide⟩
  ·exact⟨10000000000000000000000000,rfl,by decide,by decide⟩
  ·exact⟨10000000000000000000000000000000000000000,rfl,by decide,by decide⟩
 obtain⟨h,he,hz⟩:=b5J N0 N1
 rw[he]
 have m1:=RM.y8 q h
 have m2:=RM.y8 q1 h
 have a1:=RM.a01 y (q*h)
 have a2:=RM.a01 u (q1*h)
 walk_at "sim"
 exact⟨⟨by omega,by omega⟩,by omega,by omega,k _ _ _ ((CD.ray2 (k:=sz y+140) (l:=sz u+140) (by omega) (by omega)).mono (by omega)) (st.trans s5)⟩
theorem a5q(T:Txt K mg)(d:Df K mg "_law_stops" U5 ["pool","parts","count"])(c5T:Fn P w K mg base "_law_next" 1 ["pool","base"] N2)(c5V:Fn P w K mg base "_law_ratio" 3 ["pool","tops","bottoms"] a2P):Fn P w K mg base "_law_stops" 4 ["pool","parts","count"] a3j:=by
 have sc:=a47
 refine i4 d sc (by walk_at "len") (fun f cdv A outer s H E ds M R Y hr h=>?_)
 have hu:=hr.units
 obtain⟨p,x,n,rfl,hp,bs,rfl,⟨n0,n1,hl⟩,k⟩:=h
 refine⟨_,(d4 (jst 3 sc.nd (b2h b6U rfl T.b_list a3s (a7 (a8 1) a9))) (d4 (u8 PassesOwn.never rfl (P2 rfl T.b_range (a7 (jc c5T hr (a7 (a8 0) (a7 (g6 F1 (a8 2) d3) a9))) a9)) (jn 4 sc.nd) (d4 (jst 5 sc.nd (jc c5V hr (a7 (a8 0) (a7 (j9 (a7 d3 (a7 d3 (a7 d3 (a7 d3 (a7 d3 (a7 d3 (a7 d3 (a7 d3 (a7 d3 a9)))))))))) (a7 (j9 (a7 d3 (a7 d3 (a7 d3 (a7 d3 a9))))) a9))))) (d5 (C2 (R8 PySem.F.slot_list_insert PySem.F.type_list_insert b3w (a8 3) (a7 (jc c5T hr (a7 (a8 0) (a7 (g6 F1 (p0 F3 rfl T.b_len B7 (a7 (a8 3) a9)) d3) a9))) (a7 (e9 (a7 i3 (a7 (a8 5) a9))) a9))))))) (d5 (d7 (L5 (G8 (a8 3))))))),?_⟩
 walk_at "sim"
 refine⟨_,bs.map f9,rfl,by simp only[o9],fun l hN=>?_⟩
 have hlp:l≠p:=fun e=>by obtain⟨_,_,_,hq⟩:=hp;rw[e,hq]at hN;cases hN
 have s0:u3 p M (B9 M l (.lst (bs.map f9))):=(u3.refl hp).put hN hlp
 refine⟨s0.pool,by omega,lg9 (by omega),fun r M1 r0 r1 s1=>⟨by omega,?_⟩⟩
 refine O5.by (fun i e M'=>∃(cs:List (Str × Rat)) (z4 z5:Option D),e=[some (.ref p),some (.vl (bs.map f9)),some (.int n),some (.ref l),z4,z5]∧M' l=some (.lst (cs.map f9))∧u3 p M M'∧cs.length=bs.length+i∧cs.filter O3=bs.filter O3∧(∀ x∈cs,x∈bs∨(x.1 = "stop" ∧ 0<x.2∧sz x.2≤10))) ?_ (fun _ _ _ _ _=>trivial) ?_ ?_
 ·exact⟨bs,_,_,rfl,s1.keep l _ hlp h8,s0.trans s1,rfl,rfl,fun x hx=>.inl hx⟩
 ·rintro i dd e M' hd ⟨cs,z4,z5,rfl,hM,st,hc,hf,hm⟩
  have hi:=(c8W.mp hd).1
  rw[p7]at hi
  walk_at "sim"
  refine⟨st.pool,[1,2,3,4,5,7,12,40,1000],[1,1,2,3],fun q=>0<q∧sz q≤10,rfl,rfl,⟨by decide,by decide,by decide,b2k (by decide) (by decide) (by decide)⟩,?_⟩
  rintro q M2 ⟨q0,q1⟩ s2
  have hM2:=s2.keep l _ hlp hM
  refine J8 hM2 ?_
  rw[a8F (b5W hM2),c8Y]
  walk_at "sim"
  refine⟨s2.pool,by omega,lg9 (by omega),fun j M3 j0 j1 s3=>?_⟩
  have hM3:=s3.keep l _ hlp hM2
  obtain⟨jn,rfl⟩:=Int.eq_ofNat_of_zero_le j0
  refine c2M hM3 (by rw[c8Y];omega) (by rw[c8Y];omega) ⟨cs.take jn++(Str.ofString "stop",q) :: cs.drop jn,some dd,some (d9 q),rfl,?_,((st.trans s2).trans s3).put hN hlp,?_,?_,?_⟩
  ·rw[h8,c9f,c9F,d1k,List.map_drop]
   rfl
  ·rw[c9h,c9B,c9W,d0l];omega
  ·rw[c9J,c98,show O3 (Str.ofString "stop",q)=false from rfl,← hf]
   show _++d1i O3 (cs.drop jn)=_
   rw[← c9J,d0J]
  ·intro x hx
   rcases c9g.mp hx with hx|hx
   ·exact hm x (d0R hx)
   ·rcases c9l.mp hx with rfl|hx
    ·exact .inr ⟨rfl,q0,q1⟩
    ·exact hm x (List.mem_of_mem_drop hx)
 ·rintro e M' ⟨cs,z4,z5,rfl,hM,st,hc,hf,hm⟩
  rw[p7]at hc
  walk_at "sim"
  refine⟨l,_,rfl,hM,?_⟩
  exact J9 (M2:=a0Q M' l) (fun _ _ h=>h) (k cs _ (by omega) hf hm (st.del hN hlp))
theorem a4A(T:Txt K mg)(d:Df K mg "_law_pieces" Q8 ["pool","gap"])(c6c:Fn P w K mg base "minus" 4 ["one","other"] K0)(c5Y:Fn P w K mg base "ratio" 2 ["top","bottom"] X6)(c5T:Fn P w K mg base "_law_next" 1 ["pool","base"] N2):Fn P w K mg base "_law_pieces" 5 ["pool","gap"] a7g:=by
 have sc:=a4b
 refine i4 d sc (by walk_at "len") (fun f cdv A outer s H E ds M R Y hr h=>?_)
 have hu:=hr.units
 obtain⟨p,G,rfl,hp,⟨g0,g1⟩,k⟩:=h
 refine⟨_,(d4 (jst 2 sc.nd (g6 F1 d3 (jc c5T hr (a7 (a8 0) (a7 d3 a9))))) (d4 (jst 3 sc.nd (W4 a9)) (d4 (u8 PassesOwn.never rfl (P2 rfl T.b_range (a7 (g6 a1Z (a8 2) d3) a9)) (jn 4 sc.nd) (d4 (jst 5 sc.nd (jc c5Y hr (a7 (jx (a8 1) d3) (a7 (g6 o6 (jx (a8 1) d3) (g6 F1 d3 (jc c5T hr (a7 (a8 0) (a7 d3 a9))))) a9)))) (d4 (C2 (R8 PySem.F.slot_list_append PySem.F.type_list_append C4 (a8 3) (a7 (e9 (a7 i3 (a7 (a8 5) a9))) a9))) (d5 (jst 1 sc.nd (jc c6c hr (a7 (a8 1) (a7 (a8 5) a9)))))))) (d5 (d7 (L5 (P3 (G8 (a8 3)) (j9 (a7 (e9 (a7 i3 (a7 (a8 1) a9))) a9))))))))),?_⟩
 walk_at "sim"
 refine⟨hp,lg9 (by decide),fun r M1 r0 r1 s1 l hl=>⟨by omega,?_⟩⟩
 have hlp:l≠p:=fun e=>by obtain⟨_,_,_,hq⟩:=s1.pool;rw[e,hq]at hl;cases hl
 refine O5.by (fun i e M'=>∃(qs:List Rat) (c:Rat) (z4 z5:Option D),e=[some (.ref p),some (d9 (G*c)),some (.int (1+r)),some (.ref l),z4,z5]∧M' l=some (.lst ((qs.map fun q=>(Str.ofString "gap",G*q)).map f9))∧u3 p M1 M'∧qs.length=i∧(∀ q∈qs,0≤q∧sz q≤5)∧0<c∧sz c≤1+2*i) ?_ (fun _ _ _ _ _=>trivial) ?_ ?_
 ·exact⟨[],1,_,_,by rw[show G*1=G by grind],h8,(u3.refl s1.pool).put hl hlp,rfl,fun q hq=>(by cases hq),by decide,by rw[RM.S5];omega⟩
 ·rintro i dd e M' hd ⟨qs,c,z4,z5,rfl,hM,st,hq,hqs,hc,hcz⟩
  have hi:=(c8W.mp hd).1
  rw[p7]at hi
  have zg:=RM.y8 G c
  walk_at "sim"
  refine⟨st.pool,lg9 (by decide),fun m M2 m0 m1 s2=>?_⟩
  rw[b9m (G*c) (2+m)]
  obtain⟨z1,z2,p1,p2⟩:=c5s (m:=2+m) (by omega) (by omega)
  have hm0:((2+m:Int):Rat)≠0:=fun z=>by rw[z]at p1;exact absurd p1 (by decide +kernel)
  have dp:=(G*c).den_pos
  have dl:=J7 (G*c)
  have zd:=RM.S7 (G*c) ((2+m:Int):Rat) hm0
  have zc:=RM.S7 c ((2+m:Int):Rat) hm0
  have zr:=RM.y8 c (1 - 1 / ((2+m:Int):Rat))
  have hM2:M2 l=_:=s2.keep l _ hlp hM
  refine⟨c4e (by omega) (by omega),c9Z (by omega) (by omega),?_,J8 hM2 (O6 hM2 (by rw[c8Y,c8Y];omega) ⟨by omega,qs++[c / ((2+m:Int):Rat)],c*(1 - 1 / ((2+m:Int):Rat)),some dd,some (d9 (G*c / ((2+m:Int):Rat))),?_,?_,?_,?_,?_,?_,by omega⟩)⟩
  ·have h1:((G*c).den*(2+m.toNat))<2 ^ (sz (G*c)+3):=o7 dl (by omega)
   have e:(((G*c).den:Int)*(2+m)).natAbs=(G*c).den*(2+m.toNat):=by
    rw[c9q,c8V];congr 1;omega
   rw[e]
   exact F0 (c80 h1 (c9j (by decide) (by omega))) (by decide)
  ·rw[show G*c - G*c / ((2+m:Int):Rat)=G*(c*(1 - 1 / ((2+m:Int):Rat)))by grind]
  ·rw[h8,c9f,c9f,show G*c / ((2+m:Int):Rat)=G*(c / ((2+m:Int):Rat))by grind]
   rfl
  ·exact(st.trans s2).put hl hlp
  ·rw[c9h];show qs.length+1=_;omega
  ·intro q hq'
   rcases c9g.mp hq' with hq'|hq'
   ·exact hqs q hq'
   ·rw[c88.mp hq']
    exact⟨by rw[show c / ((2+m:Int):Rat)=c*(1 / ((2+m:Int):Rat))by grind];exact d1B (c9L hc p1),by omega⟩
  ·exact c9L hc p2
 ·rintro e M' ⟨qs,c,z4,z5,rfl,hM,st,hq,hqs,hc,hcz⟩
  rw[p7]at hq hcz
  walk_at "sim"
  refine⟨l,_,rfl,hM,?_⟩
  show b2q _ _ _ _
  walk_at "sim"
  have hl0:M l=none:=by
   cases e:M l with
   | none=>rfl
   | some o=>rw[s1.keep l o hlp e]at hl;cases hl
  have hs:1000≤sizeLine:=by decide
  refine⟨by rw[c8Y,c8Y];omega,J9 (M2:=a0Q M' l) (fun _ _ h=>h) ?_⟩
  have k2:=k (qs++[c]) (a0Q M' l) (by rw[c9h];show qs.length+1≤3;omega) (fun q hq'=>by
   rcases c9g.mp hq' with hq'|hq'
   ·exact hqs q hq'
   ·rw[c88.mp hq'];exact⟨d1B hc,by omega⟩) ((s1.trans st).del hl0 hlp)
  rw[c9f,c9f]at k2
  exact k2
theorem a1i(T:Txt K mg)(d:Df K mg "_law_known_hall" G3 ["pool"])(c5Y:Fn P w K mg base "ratio" 2 ["top","bottom"] X6)(c6s:Fn P w K mg base "_law_stops" 4 ["pool","parts","count"] a3j)(c6T:Fn P w K mg base "_law_pieces" 5 ["pool","gap"] a7g)(c5V:Fn P w K mg base "_law_ratio" 3 ["pool","tops","bottoms"] a2P)(c5T:Fn P w K mg base "_law_next" 1 ["pool","base"] N2):Fn P w K mg base "_law_known_hall" 6 ["pool"] a83:=by
 have sc:=a05
 refine i4 d sc (by walk_at "len") (fun f cdv A outer s H E ds M R Y hr h=>?_)
 have hu:=hr.units
 obtain⟨p,rfl,hp,k⟩:=h
 refine⟨_,(d4 (jst 1 sc.nd (j9 (a7 (e9 (a7 d3 (a7 d3 a9))) (a7 (e9 (a7 d3 (a7 d3 a9))) (a7 (e9 (a7 d3 (a7 (A9 d3) a9))) (a7 (e9 (a7 d3 (a7 d3 a9))) (a7 (e9 (a7 d3 (a7 d3 a9))) (a7 (e9 (a7 d3 (a7 d3 a9))) (a7 (e9 (a7 d3 (a7 d3 a9))) (a7 (e9 (a7 d3 (a7 d3 a9))) (a7 (e9 (a7 d3 (a7 d3 a9))) (a7 (e9 (a7 d3 (a7 d3 a9))) (a7 (e9 (a7 d3 (a7 d3 a9))) (a7 (e9 (a7 d3 (a7 d3 a9))) a9)))))))))))))) (d4 (p9 (jx (a8 1) (jc c5T hr (a7 (a8 0) (a7 d3 a9)))) (i0 (n:=2) rfl (d6 (jn 2 sc.nd) (d6 (jn 3 sc.nd) g9)))) (d4 (jst 4 sc.nd (e9 (a7 d3 (a7 d3 a9)))) (J6 (g7 (jtm R5 (jc c5T hr (a7 (a8 0) (a7 d3 a9))) d3) (d4 (jst 5 sc.nd (j9 (a7 (e9 (a7 d3 (a7 d3 a9))) (a7 (e9 (a7 d3 (a7 d3 a9))) (a7 (e9 (a7 (A9 d3) (a7 (A9 d3) a9))) (a7 (e9 (a7 d3 (a7 d3 a9))) (a7 (e9 (a7 d3 (a7 d3 a9))) (a7 (e9 (a7 d3 (a7 (A9 d3) a9))) (a7 (e9 (a7 d3 (a7 d3 a9))) (a7 (e9 (a7 d3 (a7 d3 a9))) (a7 (e9 (a7 d3 (a7 d3 a9))) (a7 (e9 (a7 d3 (a7 d3 a9))) (a7 (e9 (a7 d3 (a7 d3 a9))) (a7 (e9 (a7 d3 (a7 (A9 d3) a9))) a9)))))))))))))) (d4 (p9 (jx (a8 5) (jc c5T hr (a7 (a8 0) (a7 d3 a9)))) (i0 (n:=2) rfl (d6 (jn 2 sc.nd) (d6 (jn 3 sc.nd) g9)))) (d5 (jst 4 sc.nd (e9 (a7 d3 (a7 d3 a9))))))) f7) (d4 (jst 6 sc.nd (jc c5V hr (a7 (a8 0) (a7 (j9 (a7 d3 (a7 d3 (a7 d3 (a7 d3 (a7 d3 (a7 d3 (a7 d3 (a7 d3 (a7 (g6 a0V d3 d3) a9)))))))))) (a7 (j9 (a7 d3 (a7 d3 (a7 d3 (a7 d3 a9))))) a9))))) (d4 (jst 7 sc.nd (jc c6s hr (a7 (a8 0) (a7 (jc c6T hr (a7 (a8 0) (a7 (a8 6) a9))) (a7 d3 a9))))) (d4 (jst 8 sc.nd (jc c5Y hr (a7 (g6 o6 (a8 2) (jx (a8 6) d3)) (a7 (g6 o6 (jx (a8 4) d3) (jx (a8 6) d3)) a9)))) (d5 (d7 (e9 (a7 (a8 8) (a7 (a8 7) (a7 (jc c5Y hr (a7 (g6 o6 (a8 3) (jx (a8 6) d3)) (a7 (g6 o6 (jx (a8 4) d3) (jx (a8 6) d3)) a9))) a9))))))))))))),?_⟩
 walk_at "sim"
 refine⟨hp,lg9 (by decide),fun r M1 r0 r1 s1=>L9 r0 (by show r<12;omega) fun d hd=>?_⟩
 obtain⟨n,f,rfl,hn,hf⟩:∃ n f:Int,d = .tup [.int n,.int f]∧n.natAbs≤13∧f.natAbs≤13:=by
  simp only[c9l,c9u,or_false]at hd
  rcases hd with rfl|rfl|rfl|rfl|rfl|rfl|rfl|rfl|rfl|rfl|rfl|rfl
  all_goals exact⟨_,_,rfl,by decide,by decide⟩
 walk_at "sim"
 refine a1q (fun e' M'=>∃(n f b:Int) (x1 x5:Option D),e'=[some (.ref p),x1,some (.int n),some (.int f),some (.tup [.int b,.int b]),x5,none,none,none]∧n.natAbs≤13∧f.natAbs≤13∧(b=1∨b=2)∧u3 p M M') ?_ ?_
 ·walk_at "sim"
  refine⟨s1.pool,lg9 (by decide),fun r' M2 r0' r1' s2=>⟨fun _=>?_,fun _=>⟨n,f,1,_,_,rfl,hn,hf,.inl rfl,s1.trans s2⟩⟩⟩
  refine⟨s2.pool,lg9 (by decide),fun r2 M3 r20 r21 s3=>L9 r20 (by show r2<12;omega) fun d hd=>?_⟩
  obtain⟨n',f',rfl,hn',hf'⟩:∃ n f:Int,d = .tup [.int n,.int f]∧n.natAbs≤13∧f.natAbs≤13:=by
   simp only[c9l,c9u,or_false]at hd
   rcases hd with rfl|rfl|rfl|rfl|rfl|rfl|rfl|rfl|rfl|rfl|rfl|rfl
   all_goals exact⟨_,_,rfl,by decide,by decide⟩
  walk_at "sim"
  exact⟨n',f',2,_,_,rfl,hn',hf',.inr rfl,(s1.trans s2).trans s3⟩
 ·rintro e' M2 ⟨n,f,b,x1,x5,rfl,hn,hf,hb,s2⟩
  walk_at "sim"
  refine⟨⟨by decide,by decide,by decide⟩,s2.pool,[1,2,3,5,1,2,3,5,10 ^ d1Z 20],[1,1,2,3],fun q=>0<q∧sz q≤67,rfl,rfl,⟨by decide,by decide,by decide,b2k (by decide) (by decide) (by decide)⟩,?_⟩
  rintro G M3 ⟨G0,G1⟩ s3
  refine⟨s3.pool,⟨G0,G1⟩,fun qs M4 ql hqs s4=>⟨s4.pool,_,rfl,by rw[c8Y];omega,fun cs M5 cl cf cm s5=>?_⟩⟩
  rw[c8Y]at cl
  have hc7:cs.length≤7:=c85 cl (by show qs.length+4≤7;omega)
  obtain⟨H1,H2,H3⟩:=b6b G0 G1 ql hqs hc7 cf cm hn hf hb
  have gp:=a7I G0
  have b0:b≠0:=by omega
  have ne:b*G.num≠0:=c9Z b0 (by omega)
  have lg:(b*G.num).natAbs.log2<9000:=F0 (c80 (e7 (show b.natAbs<2 ^ 2 by omega) (u4 G G1)) (c9j (by decide) (by decide))) (by decide)
  have i1:IntMulOk b G.num:=a9o (by omega) (by omega)
  rw[a9p gp b0,a9p gp b0]
  exact⟨a9o (by omega) (by omega),i1,ne,lg,a9o (by omega) (by omega),i1,ne,lg,k _ _ _ _ H1 H2 H3 (((s2.trans s3).trans s4).trans s5)⟩
theorem a7H(T:Txt K mg)(d:Df K mg "_law_hall" Z9 ["pool"])(c5V:Fn P w K mg base "_law_ratio" 3 ["pool","tops","bottoms"] a2P)(c6s:Fn P w K mg base "_law_stops" 4 ["pool","parts","count"] a3j)(c5T:Fn P w K mg base "_law_next" 1 ["pool","base"] N2)(c6c:Fn P w K mg base "minus" 4 ["one","other"] K0)(c6F:Fn P w K mg base "_law_known_hall" 6 ["pool"] a83):Fn P w K mg base "_law_hall" 7 ["pool"] a83:=by
 have sc:=a6Z
 refine i4 d sc (by walk_at "len") (fun f cdv A outer s H E ds M R Y hr h=>?_)
 have hu:=hr.units
 obtain⟨p,rfl,hp,k⟩:=h
 refine⟨_,(d4 (jst 1 sc.nd (jc c5T hr (a7 (a8 0) (a7 d3 a9)))) (d4 (g7 (jtm a0P (a8 1) d3) (d5 (d7 (L5 (jc c6F hr (a7 (a8 0) a9))))) f7) (d4 (jst 2 sc.nd (jc c5V hr (a7 (a8 0) (a7 (j9 (a7 d3 (a7 d3 (a7 (A9 d3) (a7 d3 (a7 d3 (a7 (A9 d3) a9))))))) (a7 (j9 (a7 d3 (a7 d3 (a7 d3 a9)))) a9))))) (d4 (g7 (jtm R5 (a8 1) d3) (d5 (d7 (L5 (e9 (a7 (a8 2) (a7 (jc c6s hr (a7 (a8 0) (a7 (j9 a9) (a7 d3 a9)))) (a7 (jc c6c hr (a7 (e9 (a7 d3 (a7 d3 a9))) (a7 (a8 2) a9))) a9))))))) f7) (d4 (jst 3 sc.nd (W4 a9)) (d4 (u8 PassesOwn.never rfl (P2 rfl T.b_range (a7 (jc c5T hr (a7 (a8 0) (a7 d3 a9))) a9)) (jn 4 sc.nd) (d5 (g7 (jtm R5 (jc c5T hr (a7 (a8 0) (a7 d3 a9))) d3) (d5 (C2 (R8 PySem.F.slot_list_append PySem.F.type_list_append C4 (a8 3) (a7 (e9 (a7 i3 (a7 (jc c5V hr (a7 (a8 0) (a7 (j9 (a7 d3 (a7 d3 (a7 d3 (a7 d3 (a7 d3 (a7 d3 a9))))))) (a7 (j9 (a7 d3 (a7 d3 (a7 d3 a9)))) a9)))) a9))) a9)))) (d5 (C2 (R8 PySem.F.slot_list_append PySem.F.type_list_append C4 (a8 3) (a7 (e9 (a7 i3 (a7 (jc c5V hr (a7 (a8 0) (a7 (j9 (a7 d3 (a7 d3 (a7 (A9 d3) (a7 d3 (a7 (A9 d3) (a7 d3 a9))))))) (a7 (j9 (a7 d3 (a7 d3 (a7 d3 a9)))) a9)))) a9))) a9))))))) (d5 (d7 (L5 (e9 (a7 (a8 2) (a7 (jc c6s hr (a7 (a8 0) (a7 (G8 (a8 3)) (a7 d3 a9)))) (a7 (jc c5V hr (a7 (a8 0) (a7 (j9 (a7 d3 (a7 d3 (a7 (A9 d3) (a7 d3 (a7 (A9 d3) (a7 d3 a9))))))) (a7 (j9 (a7 d3 (a7 d3 a9))) a9)))) a9))))))))))))),?_⟩
 walk_at "sim"
 refine⟨hp,lg9 (by decide),fun r M1 r0 r1 s1=>⟨fun _=>⟨s1.pool,fun near bs far M2 h1 h2 h3 s2=>J9 (M2:=M2) (fun _ _ h=>h) (k near bs far M2 h1 h2 h3 (s1.trans s2))⟩,fun _=>?_⟩⟩
 refine⟨s1.pool,[0,1,-1,2,1,-3],[1,2,3],fun q=>sz q≤5,rfl,rfl,⟨by decide,by decide,by decide,a0J (by decide) (by decide) (by decide)⟩,fun q M2 hq s2=>⟨fun _=>?_,fun _ l hN=>?_⟩⟩
 ·have zn:=RM.S6 q
  refine⟨s2.pool,[],rfl,by decide,fun cs M3 cl cf cm s3=>⟨by rw[RM.C9];omega,J9 (M2:=M3) (fun _ _ h=>h) ?_⟩⟩
  obtain⟨H1,H2,H3⟩:=a89 (near:=q) (far:=0 - q) (bs:=[]) hq (by rw[show 0 - q = -q by grind,zn];exact hq) (fun x hx=>(by cases hx)) (by decide) (c85 cl (by decide)) cf cm
  exact k _ _ _ _ H1 H2 H3 ((s1.trans s2).trans s3)
 ·have hlp:l≠p:=fun e=>by obtain⟨_,_,_,hq⟩:=s2.pool;rw[e,hq]at hN;cases hN
  have s12:=s1.trans s2
  have hM0:M l=none:=by
   cases e:M l with
   | none=>rfl
   | some o=>rw[s12.keep l o hlp e]at hN;cases hN
  have s0:u3 p M2 (B9 M2 l (.lst [])):=(u3.refl s2.pool).put hN hlp
  refine⟨s0.pool,lg9 (by decide),fun n M3 n0 n1 s3=>⟨by omega,?_⟩⟩
  refine O5.by (fun i e M'=>∃(bs:List (Str × Rat)) (z4:Option D),e=[some (.ref p),some (.int r),some (d9 q),some (.ref l),z4]∧M' l=some (.lst (bs.map f9))∧u3 p M2 M'∧bs.length=i∧(∀ x∈bs,sz x.2≤5∧((x.1 = "gap" ∧ 0≤x.2)∨x.1 = "glass"))) ?_ (fun _ _ _ _ _=>trivial) ?_ ?_
  ·exact⟨[],_,rfl,s3.keep l _ hlp h8,s0.trans s3,rfl,fun x hx=>(by cases hx)⟩
  ·rintro i dd e M' hd ⟨bs,z4,rfl,hM,st,hb,hbs⟩
   have hi:=(c8W.mp hd).1
   rw[p7]at hi
   have hadd:∀(w:Str) (q2:Rat) (M5:Mem),u3 p M' M5→sz q2≤5→((w = "gap" ∧ 0≤q2)∨w = "glass")→∃(bs':List (Str × Rat)) (z4:Option D),[some (D.ref p),some (D.int r),some (d9 q),some (D.ref l),some dd]=[some (.ref p),some (.int r),some (d9 q),some (.ref l),z4]∧(B9 M5 l (.lst (bs.map f9++[.tup [.str w,d9 q2]]))) l=some (.lst (bs'.map f9))∧u3 p M2 (B9 M5 l (.lst (bs.map f9++[.tup [.str w,d9 q2]])))∧bs'.length=i+1∧(∀ x∈bs',sz x.2≤5∧((x.1 = "gap" ∧ 0≤x.2)∨x.1 = "glass")):=fun w q2 M5 s5 hq2 hw=>by
    refine⟨bs++[(w,q2)],_,rfl,by rw[h8,c9f];rfl,(st.trans s5).put hN hlp,by rw[c9h];show bs.length+1=_;omega,fun x hx=>?_⟩
    rcases c9g.mp hx with hx|hx
    ·exact hbs x hx
    ·rw[c88.mp hx];exact⟨hq2,hw⟩
   walk_at "sim"
   refine⟨st.pool,lg9 (by decide),fun g M4 g0 g1 s4=>⟨fun _=>J8 (s4.keep l _ hlp hM) ⟨s4.pool,[0,1,2,3,1,5],[1,2,3],fun q=>0≤q∧sz q≤5,rfl,rfl,⟨by decide,by decide,by decide,b2m (by decide) (by decide) (by decide)⟩,?_⟩,fun _=>J8 (s4.keep l _ hlp hM) ⟨s4.pool,[0,1,-1,2,-2,3],[1,2,3],fun q=>sz q≤5,rfl,rfl,⟨by decide,by decide,by decide,a0J (by decide) (by decide) (by decide)⟩,?_⟩⟩⟩
   ·rintro q2 M5 ⟨h1,h2⟩ s5
    exact O6 (s5.keep l _ hlp (s4.keep l _ hlp hM)) (by rw[c8Y];omega) (hadd _ _ _ (s4.trans s5) h2 (.inl ⟨rfl,h1⟩))
   ·rintro q2 M5 h2 s5
    exact O6 (s5.keep l _ hlp (s4.keep l _ hlp hM)) (by rw[c8Y];omega) (hadd _ _ _ (s4.trans s5) h2 (.inr rfl))
  ·rintro e M' ⟨bs,z4,rfl,hM,st,hb,hbs⟩
   rw[p7]at hb
   walk_at "sim"
   refine⟨l,_,rfl,hM,?_⟩
   have sd:=st.del hN hlp
   refine⟨sd.pool,bs,rfl,by omega,fun cs M4 cl cf cm s4=>⟨s4.pool,[0,1,-1,2,-2,3],[1,2],fun q=>sz q≤5,rfl,rfl,⟨by decide,by decide,by decide,a0J (by decide) (by decide) (by decide)⟩,fun f M5 hf s5=>J9 (M2:=M5) (fun _ _ h=>h) ?_⟩⟩
   obtain⟨H1,H2,H3⟩:=a89 hq hf hbs (by omega) (c85 cl (by show bs.length+3≤7;omega)) cf cm
   exact k _ _ _ _ H1 H2 H3 (((s12.trans sd).trans s4).trans s5)
theorem a7D(T:Txt K mg)(d:Df K mg "_law_pool" Z5 ["cell"]):Fn P w K mg base "_law_pool" 1 ["cell"] a93:=by
 have sc:=a6V
 refine i4 d sc (fun ds M R Y h=>?_) (fun f cdv A outer s H E ds M R Y hr h=>?_)
 ·obtain⟨c,rfl,_⟩:=h;rfl
 ·obtain⟨c,rfl,k⟩:=h
  refine⟨_,(d5 (d7 (W4 (a7 (p0 (c0I rfl) rfl T.b_max b6W (a7 d3 (a7 (g6 a1Z (a8 0) (g6 a0V d3 d3)) a9))) (a7 (g6 a4C (a8 0) (g6 a0V d3 d3)) (a7 d3 a9)))))),?_⟩
  refine⟨_,rfl,_,_,rfl,rfl,c2A,_,rfl,_,_,rfl,_,rfl,_,_,rfl,rfl,c2A,_,_,rfl,rfl,(by show(0:Int)<10 ^ 18;decide),sl 3,fun p hp=>?_⟩
  exact k p _ hp (MK.new hp) ⟨_,_,_,h8⟩
theorem c1R{f:Addr}{fd:FuncData}(T:Txt K mg)(d:b9v K "law" b5d f fd)(c7h:Fn P w K mg base "_law_kept" 10 ["pool","hall","ray","paper"] b5h)(c7a:Fn P w K mg base "ever" 8 ["hall","ray"] a84)(c7e:Fn P w K mg base "_law_tight" 9 ["pool","hall","ray"] a7a)(c7p:Fn P w K mg base "_law_ray" 10 ["pool","hall"] b5g)(c7i:Fn P w K mg base "_law_hall" 7 ["pool"] a83)(c7j:Fn P w K mg base "_law_pool" 1 ["cell"] a93):X8 P w K mg base CX0 11 f fd ["script"] (a8I K b1N):=by
 have sc:=c1e
 refine c0q d sc (fun ds M R Y h=>by obtain⟨n,rfl,_⟩:=h;rfl) (fun cdv A outer s H E ds M R Y hr h=>?_)
 obtain⟨ns,rfl,hlen,k⟩:=h
 have hu:=hr.units
 refine⟨_,(d4 (u8 PassesOwn.never rfl (A1 (P3 (j9 (a7 d3 a9)) (a8 0))) (jn 1 sc.nd) (d4 (jst 2 sc.nd (jc c7j hr (a7 (a8 1) a9))) (d4 (jst 3 sc.nd (jc c7i hr (a7 (a8 2) a9))) (d4 (jst 4 sc.nd (jc c7p hr (a7 (a8 2) (a7 (a8 3) a9)))) (d4 (jst 3 sc.nd (jc c7e hr (a7 (a8 2) (a7 (a8 3) (a7 (a8 4) a9))))) (d4 (jst 5 sc.nd (jc c7a hr (a7 (a8 3) (a7 (a8 4) a9)))) (d5 (g7 (D6 (a7O (jtm B2 (jx (a8 5) d3) i3) (a3p (C3 (u0 (jc c7h hr (a7 (a8 2) (a7 (a8 3) (a7 (a8 4) (a7 (jx (a8 5) d3) a9)))))))))) (d5 (d7 A4)) f7)))))))) (d5 (d7 A4))),?_⟩
 walk_at "sim"
 refine⟨c85 (by rw[c8Y];omega) (show 1000≤sizeLine by decide),?_⟩
 refine O5.by (fun i e M'=>∃ x1 x2 x3 x4 x5:Option D,e=[some (.vl (ns.map D.int)),x1,x2,x3,x4,x5]) ⟨_,_,_,_,_,rfl⟩ (fun i e M' _ _=>by simp only[o9]) ?_ ?_
 ·rintro i dd e M' hd ⟨x1,x2,x3,x4,x5,rfl⟩
  obtain⟨n,rfl⟩:∃ n:Int,dd = .int n:=by
   have hm:=c81 hd
   rcases c9l.mp hm with rfl|hm
   ·exact⟨0,rfl⟩
   ·obtain⟨n,_,rfl⟩:=c9t.mp hm
    exact⟨n,rfl⟩
  walk_at "sim"
  refine fun p M1 hp mk hP=>⟨hP,fun near bs0 far M2 hok hl7 ha s2=>⟨s2.pool,hok,fun y u M3 cd s3=>⟨s3.pool,⟨hok,hl7,cd⟩,fun bs M4 hw hz s4=>⟨⟨hw,_,cd,by decide⟩,fun r h1=>?_⟩⟩⟩⟩
  have nv:=a6s (c4y h1)
  cases r with
  | never =>
   unfold evD at nv ⊢
   walk_at "sim"
   exact⟨s4.pool,⟨⟨hw,hz⟩,cd,nv.mp rfl⟩,fun M5 _=>⟨_,_,_,_,_,rfl⟩⟩
  | _ =>
   unfold evD
   walk_at "sim"
   exact⟨fun h=>absurd h (by decide),fun _=>⟨_,_,_,_,_,rfl⟩⟩
 ·rintro e M' ⟨x1,x2,x3,x4,x5,rfl⟩
  walk_at "sim"
  exact k _
end
end K43
namespace K43
open PySem PySem.Spec L2 DL GM
theorem c2F{P:Program}{w:World}{K:c8U}{mg:Str→Option Value}{fa:Addr}(T:Txt K mg)(hfa:mg "law" = some (.ref fa))(c8D:Df K mg "divisor" a2m ["one","other"])(c7C:Df K mg "is_whole" T7 ["thing"])(c8B:Df K mg "ratio" a26 ["top","bottom"])(c8L:Df K mg "over" b0b ["one","other"])(c8g:Df K mg "tops_over" Y9 ["ratios","bottom"])(c7x:Df K mg "common_bottom" L1 ["ratios"])(c8I:Df K mg "swing" a60 ["t","x","later"])(c8s:Df K mg "reach_by" a1b ["t","x","later"])(c8F:Df K mg "plus" a62 ["one","other"])(c8M:Df K mg "t_of" a98 ["table"])(c8t:Df K mg "opposite" a1c ["one"])(c7w:Df K mg "rounds_to_self" J2 ["table"])(c8u:Df K mg "shown_by" a09 ["word","table","x","later"])(c8G:Df K mg "less" a64 ["one","other"])(c8v:Df K mg "unsigned" a07 ["one"])(c8h:Df K mg "kind_word" Z3 ["table"])(c7Q:Df K mg "next_state" S9 ["t","state"])(c7F:Df K mg "first_state" Q6 ["t","x","later","r"])(c7G:Df K mg "stop_within" P8 ["t","numbers","watched","rounds"])(c7y:Df K mg "sheared_round" K9 ["t","x","later","r"])(c7z:Df K mg "first_sheared" L0 ["t","numbers","late"])(c7R:Df K mg "first_stop" U0 ["table","numbers","late"])(c8C:Df K mg "times" a25 ["one","other"])(c7S:Df K mg "shows_late" S8 ["word","t","x","later","r"])(c7T:Df K mg "late_lines" T5 ["table","numbers"])(c8i:Df K mg "number_of" Z2 ["p","q","ray"])(c8R:Df K mg "led" b5c ["table","ray"])(c8j:Df K mg "first_two" Z4 ["table","ray","lines"])(c8J:Df K mg "minus" a63 ["one","other"])(c7H:Df K mg "led_by_part" Q5 ["part","ray"])(c8w:Df K mg "lines_of" a1d ["bench"])(c7D:Df K mg "turned_bench" N4 ["bench"])(c7I:Df K mg "round_bench" Q0 ["hall"])(c7U:Df K mg "hall_lines" T8 ["hall"])(c7V:Df K mg "by_columns" U1 ["first","second"])(c8x:Df K mg "table_of" a08 ["bench"])(c8y:Df K mg "round_of" a1a ["hall"])(c8N:Df K mg "ever" b0d ["hall","ray"])(c7W:Df K mg "_law_parts" U7 ["hall"])(c8k:Df K mg "_law_part" Z6 ["part","ray"])(c7X:Df K mg "_law_round" U6 ["hall","ray"])(c7J:Df K mg "_law_scaled" Q7 ["ray","factor"])(c8l:Df K mg "_law_next" Z7 ["pool","base"])(c7q:Df K mg "_law_ratio" L7 ["pool","tops","bottoms"])(c7Y:Df K mg "_law_fewer" V0 ["pool","hall"])(c7Z:Df K mg "_law_wider" U3 ["pool","hall"])(c77:Df K mg "_law_lines" U9 ["hall"])(c78:Df K mg "late_shown" T1 ["hall","ray","k"])(c7E:Df K mg "_law_numbers" N5 ["hall","ray"])(c79:Df K mg "_law_march" U8 ["t","x","further","r","rounds"])(c8H:Df K mg "_law_t" a4d ["hall"])(c7r:Df K mg "_law_first_stop" G4 ["hall","ray","rounds"])(c8z:Df K mg "is_ratio" a1e ["thing"])(c8a:Df K mg "kept_right" T6 ["table","numbers","k"])(c8O:Df K mg "same" a99 ["one","other"])(c7K:Df K mg "reach_right" Q1 ["table","numbers","s"])(c7L:Df K mg "round_right" P9 ["table","numbers","n"])(c8b:Df K mg "line_right" T0 ["table","numbers","shown"])(c7M:Df K mg "never_shown" Q3 ["hall","ray","paper"])(c8m:Df K mg "_law_kept" Z8 ["pool","hall","ray","paper"])(c7s:Df K mg "_law_whole_root" G2 ["number"])(c8K:Df K mg "reach" a61 ["hall","ray","p","q"])(c8c:Df K mg "floor_root" T9 ["number"])(c8P:Df K mg "root" b0a ["one"])(c8n:Df K mg "shrinking" Z0 ["t"])(c8o:Df K mg "ray_along" Z1 ["table"])(c8E:Df K mg "form_of" a2l ["table"])(c8Q:Df K mg "kind" b0c ["hall"])(c8d:Df K mg "_law_tight" U4 ["pool","hall","ray"])(c8e:Df K mg "_law_along" V1 ["hall","other"])(c8A:Df K mg "_law_ray" a1f ["pool","hall"])(c8f:Df K mg "_law_stops" U5 ["pool","parts","count"])(c7N:Df K mg "_law_pieces" Q8 ["pool","gap"])(c7t:Df K mg "_law_known_hall" G3 ["pool"])(c8p:Df K mg "_law_hall" Z9 ["pool"])(c8q:Df K mg "_law_pool" Z5 ["cell"])(c8S:DfL K mg "law" b5d ["script"]) :
  ∃ fd:FuncData,(∀(s:Shared) (u:Value),BindsTo s fd ⟨[u],[]⟩ [("script",u)])∧∀ base:Heap,X8 P w K mg base CX0 11 fa fd ["script"] (a8I K b1N):=by
 obtain⟨f,fd,F,hm,hb⟩:=c8S.ex
 have e:f=fa:=by rw[hm]at hfa;injection hfa with z;injection z
 subst e
 refine⟨fd,fun s u=>.of_eq (hb [u] rfl),fun base=>?_⟩
 have c6n:=b0B (P:=P) (w:=w) (base:=base) T c8D
 have c6g:=a9k (P:=P) (w:=w) (base:=base) T c7C
 have c5Y:=b5N (P:=P) (w:=w) (base:=base) T c8B c6g c6n
 have c6J:=b8U (P:=P) (w:=w) (base:=base) T c8L c5Y
 have c6o:=a7x (P:=P) (w:=w) (base:=base) T c8g
 have c6e:=a2t (P:=P) (w:=w) (base:=base) T c7x c6n
 have c7k:=b5L (P:=P) (w:=w) (base:=base) T c8I c6o c6e
 have c6i:=a9g (P:=P) (w:=w) (base:=base) T c8s c7k
 have c6d:=b8T (P:=P) (w:=w) (base:=base) T c8F c5Y
 have c5Z:=b8Q (P:=P) (w:=w) (base:=base) T c8M c6d
 have c6h:=a9i (P:=P) (w:=w) (base:=base) T c8t
 have c5U:=a1Y (P:=P) (w:=w) (base:=base) T c7w c6h c5Z
 have c7o:=a9e (P:=P) (w:=w) (base:=base) T c8u c6J c5Y c6i c5Z c5U
 have c6r:=b8V (P:=P) (w:=w) (base:=base) T c8G
 have c6b:=a9b (P:=P) (w:=w) (base:=base) T c8v
 have c5X:=a7B (P:=P) (w:=w) (base:=base) T c8h c6r c6b c5Z c5U
 have c6U:=a5f (P:=P) (w:=w) (base:=base) T c7Q
 have c6R:=a4y (P:=P) (w:=w) (base:=base) T c7F c6o c6e
 have c6k:=a4r (P:=P) (w:=w) (base:=base) T c7G c6U c6R
 have c6K:=a2r (P:=P) (w:=w) (base:=base) T c7y c6o c6e
 have c6L:=a2s (P:=P) (w:=w) (base:=base) T c7z c6K
 have c6W:=a5m (P:=P) (w:=w) (base:=base) T c7R c6k c6L c5U c5X c5Z c6r c6b
 have c6t:=b0z (P:=P) (w:=w) (base:=base) T c8G
 have c5W:=b5K (P:=P) (w:=w) (base:=base) T c8C c5Y
 have c6x:=a5e (P:=P) (w:=w) (base:=base) T c7S c6r c6b c7k c6t c6i c5W
 have c6X:=a5i (P:=P) (w:=w) (base:=base) T c7T c6x c5Z c5X
 have c6q:=a7A (P:=P) (w:=w) (base:=base) T c8i c6d c5W
 have c7O:=c1Q (P:=P) (w:=w) (base:=base) T c8R c6d c5W
 have c6p:=a7C (P:=P) (w:=w) (base:=base) T c8j c6q c7O
 have c6c:=b5O (P:=P) (w:=w) (base:=base) T c8J c6d c6h
 have c6l:=a4w (P:=P) (w:=w) (base:=base) T c7H c6c c5W c6d
 have c7m:=a9j (P:=P) (w:=w) (base:=base) T c8w c6l
 have c6P:=a2Z (P:=P) (w:=w) (base:=base) T c7D
 have c6u:=a4t (P:=P) (w:=w) (base:=base) T c7I c6P
 have c6f:=a5k (P:=P) (w:=w) (base:=base) T c7U c7m c6u
 have c6V:=a5n (P:=P) (w:=w) (base:=base) T c7V
 have c7n:=a9d (P:=P) (w:=w) (base:=base) T c8x c6V c6l
 have c6a:=a9f (P:=P) (w:=w) (base:=base) T c8y c7n c6u
 have c7a:=b8X (P:=P) (w:=w) (base:=base) T c8N c7o c5X c6W c6X c6p c6f c6a
 have c6y:=a5t (P:=P) (w:=w) (base:=base) T c7W
 have c6v:=a7E (P:=P) (w:=w) (base:=base) T c8k c6c c5W c6d
 have c6j:=a5r (P:=P) (w:=w) (base:=base) T c7X c6y c6v
 have c6m:=a4z (P:=P) (w:=w) (base:=base) T c7J c5W
 have c5T:=a7F (P:=P) (w:=w) (base:=base) T c8l
 have c5V:=a5s (P:=P) (w:=w) (base:=base) T c7q c5Y c5T
 have c7b:=a5w (P:=P) (w:=w) (base:=base) T c7Y c5T
 have c7c:=a5o (P:=P) (w:=w) (base:=base) T c7Z c6d c5V
 have c6z:=a5v (P:=P) (w:=w) (base:=base) T c77 c6y c6v
 have c7d:=a5h (P:=P) (w:=w) (base:=base) T c78 c6x c5Z c5X c6p c6a c6f
 have c6Q:=a20 (P:=P) (w:=w) (base:=base) T c7E c6z c6d c5W c6j
 have c6Y:=a5u (P:=P) (w:=w) (base:=base) T c79
 have c7B:=b3d (P:=P) (w:=w) (base:=base) T c8H c6d c6j
 have c6D:=a1j (P:=P) (w:=w) (base:=base) T c7r c6Q c6Y c7B
 have c6G:=a9h (P:=P) (w:=w) (base:=base) T c8B c6n c6g
 have c7l:=b0y (P:=P) (w:=w) (base:=base) T c8F c6G
 have c6H:=a9c (P:=P) (w:=w) (base:=base) T c8C c6G
 have c6w:=a9l (P:=P) (w:=w) (base:=base) T c8z c6n c6g
 have c6C:=a5j (P:=P) (w:=w) (base:=base) T c8a c6r c6b c5W c7l c6H c5Z c6w
 have c7P:=b8R (P:=P) (w:=w) (base:=base) T c8O
 have c6A:=a4u (P:=P) (w:=w) (base:=base) T c7K c6t c5W c7P c6i c5Z c5X c6w
 have c6I:=a4x (P:=P) (w:=w) (base:=base) T c7C
 have c6B:=a4s (P:=P) (w:=w) (base:=base) T c7L c6k c5Z c5U c6I
 have c6Z:=a5g (P:=P) (w:=w) (base:=base) T c8b c6C c6A c6B
 have c6S:=a4v (P:=P) (w:=w) (base:=base) T c7M c6p c6Z c6a c6f
 have c7h:=a7G (P:=P) (w:=w) (base:=base) T c8m c7a c6j c6m c5V c7b c7c c6z c7d c6D c6S
 have c6E:=a1h (P:=P) (w:=w) (base:=base) T c7s
 have c7A:=b5M (P:=P) (w:=w) (base:=base) T c8K c5Y c6i c6q c7O c5Z c6a
 have c6N:=a5l (P:=P) (w:=w) (base:=base) T c8c
 have c8r:=b8S (P:=P) (w:=w) (base:=base) T c8P c6N
 have c7f:=a7y (P:=P) (w:=w) (base:=base) T c8n c6J c6c c6r c6h c8r c5W
 have c7g:=a7z (P:=P) (w:=w) (base:=base) T c8o c6c c6J c5Z
 have c7u:=b0A (P:=P) (w:=w) (base:=base) T c8E c6h c6c
 have c7v:=b8W (P:=P) (w:=w) (base:=base) T c8Q c7f c5Z c7g c7u c5U c5X c6a
 have c7e:=a5p (P:=P) (w:=w) (base:=base) T c8d c5Y c5T c6E c6f c6t c7A c7v
 have c6O:=a5x (P:=P) (w:=w) (base:=base) T c8e c6c c6J c7v c6a
 have c6M:=a2u (P:=P) (w:=w) (base:=base) T c7q c5Y c5T
 have c7p:=a9m (P:=P) (w:=w) (base:=base) T c8A c6m c6d c5T c6O c6M c5V
 have c6s:=a5q (P:=P) (w:=w) (base:=base) T c8f c5T c5V
 have c6T:=a4A (P:=P) (w:=w) (base:=base) T c7N c6c c5Y c5T
 have c6F:=a1i (P:=P) (w:=w) (base:=base) T c7t c5Y c6s c6T c5V c5T
 have c7i:=a7H (P:=P) (w:=w) (base:=base) T c8p c5V c6s c5T c6c c6F
 have c7j:=a7D (P:=P) (w:=w) (base:=base) T c8q
 exact c1R T F c7h c7a c7e c7p c7i c7j
theorem c5d{l:PySem.W.OpenLaw}{q:Program}{loose:List Str}{XP:(Str→Option Value)→Heap→Prop}{YP:World→Heap→Prop}{d:DefRec}{K:Params→c8U}(hn:l.most=some 63)(hdf:d.params.defaults=[])
  (hY:∀(w:World) (h:Heap),YP w h→(K w.params).In h)
  (F:∀(w:World) (mg:Str→Option Value) (fa:Addr) (h:Heap),(K w.params).In h→h.Ns mainGlobals mg→mg d.name=some (.ref fa) →
   ∃ fd:FuncData,(∀(s:Shared) (u:Value),BindsTo s fd ⟨[u],[]⟩ [("script",u)])∧∀ base:Heap,X8 l.prog w (K w.params) mg base CX0 11 fa fd ["script"] (a8I (K w.params) b1N)) :
  PySem.W.WalkO q loose XP YP l.row.toRowW d [] (fun f vs=>PySem.call f vs) :=
 L2.b4J (n:=63) (k:=11) (x := "script") (CX:=CX0) (sp:=fun K=>a8I K b1N) hn (by decide) hdf ⟨rfl,by decide,by decide⟩ hY (fun w mg fa h a b c=>let ⟨fd,h1,h2⟩:=F w mg fa h a b c;⟨fd,h1,fun base _ _=>h2 base⟩)
  (fun K H a ns hl hO hS=>c2a hO hS ⟨ns,rfl,hl,fun _=>rfl⟩) fun _ _ _ _ z=>z
end K43
namespace PySem.W.Fast
theorem te1833688653266486750:True:=trivial
theorem tw2705135517817533384:True:=⟨⟩
theorem tw11490783143424846557:True:=⟨⟩
theorem tw7828078300174090412:True:=⟨⟩
theorem tw6154192917144181236:True:=⟨⟩
theorem tw7432420382253790499:True:=⟨⟩
theorem tw8502917472081790676:True:=⟨⟩
theorem tw4699040458766575106:True:=⟨⟩
theorem tw13490137756041785018:True:=⟨⟩
theorem tw9741070757173787559:True:=⟨⟩
theorem tw12754343444444956724:True:=⟨⟩
theorem tw11553085737336394294:True:=⟨⟩
theorem tw14970917273376626507:True:=⟨⟩
theorem tw17794773892615237300:True:=⟨⟩
theorem tw18321961273109373011:True:=⟨⟩
theorem tw10963036330485474160:True:=⟨⟩
theorem tw5474888025045907866:True:=⟨⟩
theorem tw9971315508006255859:True:=⟨⟩
theorem tw736376789915528486:True:=⟨⟩
theorem tw15390946498582691364:True:=⟨⟩
theorem tw11966624030831595307:True:=⟨⟩
theorem tw15850614800944903322:True:=⟨⟩
theorem tw7385700668924502912:True:=⟨⟩
theorem tw8546832545422569441:True:=⟨⟩
theorem tw7557541242283990746:True:=⟨⟩
theorem tw3233576546037779204:True:=⟨⟩
theorem tw9325422711447905805:True:=⟨⟩
theorem tw3214549166851764624:True:=⟨⟩
theorem tw6431557057350430187:True:=⟨⟩
theorem tw10607077131521741237:True:=⟨⟩
theorem tw7315162691947976379:True:=⟨⟩
theorem tw5403930009881672812:True:=⟨⟩
theorem tw2676065248908753825:True:=⟨⟩
theorem tw1465339785978727085:True:=⟨⟩
theorem tw17923556985679770536:True:=⟨⟩
theorem tw4842308404289301966:True:=⟨⟩
theorem tw15175557337827945040:True:=⟨⟩
theorem tw1758439848607924214:True:=⟨⟩
theorem tw707913635197117443:True:=⟨⟩
theorem tw10044168446888716396:True:=⟨⟩
theorem tw16686664817889108267:True:=⟨⟩
theorem tw17291413595669262585:True:=⟨⟩
theorem tw11265823417836070773:True:=⟨⟩
theorem tw15553866725356016723:True:=⟨⟩
theorem tw6641463972072334608:True:=⟨⟩
theorem tw3276943046469973722:True:=⟨⟩
theorem tw13366633066857197466:True:=⟨⟩
theorem tw12408328378919137925:True:=⟨⟩
theorem tw74352270001207188:True:=⟨⟩
theorem tw9862465965730153092:True:=⟨⟩
theorem tw3914666564230576378:True:=⟨⟩
theorem tw3542055012550201366:True:=⟨⟩
theorem tw9363400933288971333:True:=⟨⟩
theorem tw2276644435789373819:True:=⟨⟩
theorem tw7501535761069913352:True:=⟨⟩
theorem tw8461569220417217620:True:=⟨⟩
theorem tw1621722499842566142:True:=⟨⟩
theorem tw8258861934487462878:True:=⟨⟩
theorem tw17031814311196130079:True:=⟨⟩
theorem tw4627258387051397266:True:=⟨⟩
theorem tw7451936646284756974:True:=⟨⟩
theorem tw5584883384970022235:True:=⟨⟩
theorem tw2847747803170347911:True:=⟨⟩
theorem tw1619307796497735676:True:=⟨⟩
theorem tw7439340911477918800:True:=⟨⟩
theorem tw8454699113706721834:True:=⟨⟩
theorem tw3424892511216239559:True:=⟨⟩
theorem tw1475846274230810403:True:=⟨⟩
theorem tw355840016582170995:True:=⟨⟩
theorem tw73205485024027451:True:=⟨⟩
theorem tw8171860773223965105:True:=⟨⟩
theorem tw4826391188312858749:True:=⟨⟩
theorem tw11226670590679925743:True:=⟨⟩
theorem tw11320849071098380790:True:=⟨⟩
theorem tw13375105582088265824:True:=⟨⟩
theorem tw2367400839404048726:True:=⟨⟩
theorem tw15821441352908819382:True:=⟨⟩
theorem tw8353403542995554142:True:=⟨⟩
theorem tw15337423128206127840:True:=⟨⟩
theorem tw16950854104095698350:True:=⟨⟩
theorem tw1590770650253839273:True:=⟨⟩
theorem tw16424704087932757489:True:=⟨⟩
theorem tw17846604731084421096:True:=⟨⟩
theorem tw9847457800833633239:True:=⟨⟩
theorem tw16676962056876464327:True:=⟨⟩
theorem tw1983996796873951449:True:=⟨⟩
theorem tw12159485643120291450:True:=⟨⟩
theorem tw11794324227464921257:True:=⟨⟩
theorem tw10567383965519276421:True:=⟨⟩
theorem tw11555772076688159124:True:=⟨⟩
theorem tw16021579612099764848:True:=⟨⟩
theorem tw14002320950147345745:True:=⟨⟩
theorem tw1698170036976462981:True:=⟨⟩
theorem tw3490094365432469459:True:=⟨⟩
theorem tw2895556458981503418:True:=⟨⟩
theorem tw10141309717761174210:True:=⟨⟩
theorem tw7143540250499907949:True:=⟨⟩
theorem tw13546941993394878270:True:=⟨⟩
theorem tw7375232132350370074:True:=⟨⟩
theorem tw8869312898540456545:True:=⟨⟩
theorem tw3312260520955768720:True:=⟨⟩
theorem tw6372074069814350306:True:=⟨⟩
theorem tw13762739578688377932:True:=⟨⟩
theorem tw14866611840900279906:True:=⟨⟩
theorem tw10340750673850372957:True:=⟨⟩
theorem tw6777203335794769762:True:=⟨⟩
theorem tw14201726118188964296:True:=⟨⟩
theorem tw5754338441483301726:True:=⟨⟩
theorem tw10008260594366020113:True:=⟨⟩
theorem tw2243479540224963277:True:=⟨⟩
theorem tw1664813413522322283:True:=⟨⟩
theorem tw13922185222304605262:True:=⟨⟩
theorem tw11455194337571209700:True:=⟨⟩
theorem tw4579064007582368106:True:=⟨⟩
theorem tw7033076917445075265:True:=⟨⟩
theorem tw16630157650275901480:True:=⟨⟩
theorem tw1782483644102059561:True:=⟨⟩
theorem tw5284303898178761920:True:=⟨⟩
theorem tw3188220243515369857:True:=⟨⟩
theorem tw5779005994256271628:True:=⟨⟩
theorem tw15476325749962611971:True:=⟨⟩
theorem tw3995394085638773944:True:=⟨⟩
theorem tw9128587578965260796:True:=⟨⟩
theorem tw16678151696586203482:True:=⟨⟩
theorem tw4711247545923807813:True:=⟨⟩
theorem tw2954261617830218571:True:=⟨⟩
theorem tw10709742058151098356:True:=⟨⟩
theorem tw14211323137279881331:True:=⟨⟩
theorem tw9719523706998144469:True:=⟨⟩
theorem tw13417055136402064999:True:=⟨⟩
theorem tw13805985861944821934:True:=⟨⟩
theorem tw13042183966492920991:True:=⟨⟩
theorem tw13443693962819798796:True:=⟨⟩
theorem tw3677285263478939131:True:=⟨⟩
theorem tw4939007118084609270:True:=⟨⟩
theorem tw2547514594522736439:True:=⟨⟩
theorem tw8799895370089161986:True:=⟨⟩
theorem tw18065250336186181466:True:=⟨⟩
theorem tw4970525410143120521:True:=⟨⟩
theorem tw9245933654664183566:True:=⟨⟩
theorem tw7072612372664256752:True:=⟨⟩
theorem tw14810918394418146529:True:=⟨⟩
theorem tw6666290034631141080:True:=⟨⟩
theorem tw10021779721964187501:True:=⟨⟩
theorem tw15955842211120392331:True:=⟨⟩
theorem tw12721873111252313949:True:=⟨⟩
theorem tw1279598251633015652:True:=⟨⟩
theorem tw4340124863385676952:True:=⟨⟩
theorem tw9030040986503546713:True:=⟨⟩
theorem tw5463333384473045024:True:=⟨⟩
theorem tw10460699740006818463:True:=⟨⟩
theorem tw2076582664363530447:True:=⟨⟩
theorem tw2136372224262460192:True:=⟨⟩
theorem tw791270337896353638:True:=⟨⟩
theorem tw10340023165173819260:True:=⟨⟩
theorem tw17780082550885377377:True:=⟨⟩
theorem tw14435301332713475319:True:=⟨⟩
theorem tw7216235834435634736:True:=⟨⟩
theorem tw2985359180871489860:True:=⟨⟩
theorem tw16139988351252477039:True:=⟨⟩
theorem tw12426143703307114372:True:=⟨⟩
theorem tw16902842411229786470:True:=⟨⟩
theorem tw9346453531548295182:True:=⟨⟩
theorem tw12600632275143609355:True:=⟨⟩
theorem tw6744726660416644963:True:=⟨⟩
theorem tw7194547145410886954:True:=⟨⟩
theorem tw534427634811422417:True:=⟨⟩
theorem tw9898959663052237205:True:=⟨⟩
theorem tw4831817107810393842:True:=⟨⟩
theorem tw14578433423120719340:True:=⟨⟩
theorem tw15712563791153332782:True:=⟨⟩
theorem tw1707220480969933659:True:=⟨⟩
theorem tw9881732969085008438:True:=⟨⟩
theorem tw14366345242552625427:True:=⟨⟩
theorem tw9455931494979711172:True:=⟨⟩
theorem tw8522130559722634214:True:=⟨⟩
theorem tw18326066202520834625:True:=⟨⟩
theorem tw10774785841161691169:True:=⟨⟩
theorem tw9243820282558455339:True:=⟨⟩
theorem tw16447181881570232064:True:=⟨⟩
theorem tw13490745886619175135:True:=⟨⟩
theorem tw13430215165745303650:True:=⟨⟩
theorem tw13187385720754295898:True:=⟨⟩
theorem tw1531475613348524415:True:=⟨⟩
end PySem.W.Fast
open PySem PySem.W PyProof.Rows
set_option maxRecDepth 100000 in
set_option maxHeartbeats 0 in
theorem PySem.Challenge.cw_roundglass_k43_whole_never_is_kept_holds : PySem.Challenge.rw_roundglass_k43_whole_never_is_kept.Holds := by
 w_on;o_law;k_head;(case hw=>w_witness2)
 k_fill
 refine K43.c5d (l:=PySem.Challenge.rw_roundglass_k43_whole_never_is_kept) rfl rfl (fun w h Y=>PySem.W.kIn_of Y) ?F
 case F =>
  intro w mg fa h KX G hmg
  refine' K43.c2F ⟨PySem.W.mg_none_of KX G ?z_abs,PySem.W.mg_none_of KX G ?z_all,PySem.W.mg_none_of KX G ?z_bool,PySem.W.mg_none_of KX G ?z_enumerate,PySem.W.mg_none_of KX G ?z_int,PySem.W.mg_none_of KX G ?z_isinstance,PySem.W.mg_none_of KX G ?z_len,PySem.W.mg_none_of KX G ?z_list,PySem.W.mg_none_of KX G ?z_max,PySem.W.mg_none_of KX G ?z_min,PySem.W.mg_none_of KX G ?z_range,PySem.W.mg_none_of KX G ?z_reversed,PySem.W.mg_none_of KX G ?z_tuple,PySem.W.mg_none_of KX G ?z_zip,DL.c3I _,DL.b6n KX G ?c0_AXIS_RAY ?c1_AXIS_RAY ?c2_AXIS_RAY ?c3_AXIS_RAY,DL.c2o KX G ?c0_FIRST_ROUNDS,DL.a3q KX G ?c0_FOUR ?c1_FOUR,DL.b6n KX G ?c0_LEVEL_RAY ?c1_LEVEL_RAY ?c2_LEVEL_RAY ?c3_LEVEL_RAY,DL.a3q KX G ?c0_NOUGHT ?c1_NOUGHT,DL.a3q KX G ?c0_ONE ?c1_ONE,DL.c2n KX G ?c0_SELF ?c1_SELF ?c2_SELF ?c3_SELF ?c4_SELF ?c5_SELF,DL.a3q KX G ?c0_TWO ?c1_TWO⟩ hmg (DL.i9 KX G ?n0 ?l0 ?c0 ?k0 ?b0) (DL.i9 KX G ?n1 ?l1 ?c1 ?k1 ?b1) (DL.c2w KX G ?n2 ?l2 ?c2 ?k2 ?b2) (DL.i9 KX G ?n3 ?l3 ?c3 ?k3 ?b3) (DL.i9 KX G ?n4 ?l4 ?c4 ?k4 ?b4) (DL.i9 KX G ?n5 ?l5 ?c5 ?k5 ?b5) (DL.i9 KX G ?n6 ?l6 ?c6 ?k6 ?b6) (DL.i9 KX G ?n7 ?l7 ?c7 ?k7 ?b7) (DL.i9 KX G ?n8 ?l8 ?c8 ?k8 ?b8) (DL.i9 KX G ?n9 ?l9 ?c9 ?k9 ?b9) (DL.i9 KX G ?n10 ?l10 ?c10 ?k10 ?b10) (DL.i9 KX G ?n11 ?l11 ?c11 ?k11 ?b11) (DL.i9 KX G ?n12 ?l12 ?c12 ?k12 ?b12) (DL.i9 KX G ?n13 ?l13 ?c13 ?k13 ?b13) (DL.i9 KX G ?n14 ?l14 ?c14 ?k14 ?b14) (DL.i9 KX G ?n15 ?l15 ?c15 ?k15 ?b15) (DL.i9 KX G ?n16 ?l16 ?c16 ?k16 ?b16) (DL.i9 KX G ?n17 ?l17 ?c17 ?k17 ?b17) (DL.i9 KX G ?n18 ?l18 ?c18 ?k18 ?b18) (DL.i9 KX G ?n19 ?l19 ?c19 ?k19 ?b19) (DL.i9 KX G ?n20 ?l20 ?c20 ?k20 ?b20) (DL.i9 KX G ?n21 ?l21 ?c21 ?k21 ?b21) (DL.i9 KX G ?n22 ?l22 ?c22 ?k22 ?b22) (DL.i9 KX G ?n23 ?l23 ?c23 ?k23 ?b23) (DL.i9 KX G ?n24 ?l24 ?c24 ?k24 ?b24) (DL.i9 KX G ?n25 ?l25 ?c25 ?k25 ?b25) (DL.i9 KX G ?n26 ?l26 ?c26 ?k26 ?b26) (DL.i9 KX G ?n27 ?l27 ?c27 ?k27 ?b27) (DL.i9 KX G ?n28 ?l28 ?c28 ?k28 ?b28) (DL.i9 KX G ?n29 ?l29 ?c29 ?k29 ?b29) (DL.i9 KX G ?n30 ?l30 ?c30 ?k30 ?b30) (DL.i9 KX G ?n31 ?l31 ?c31 ?k31 ?b31) (DL.i9 KX G ?n32 ?l32 ?c32 ?k32 ?b32) (DL.i9 KX G ?n33 ?l33 ?c33 ?k33 ?b33) (DL.i9 KX G ?n34 ?l34 ?c34 ?k34 ?b34) (DL.i9 KX G ?n35 ?l35 ?c35 ?k35 ?b35) (DL.i9 KX G ?n36 ?l36 ?c36 ?k36 ?b36) (DL.i9 KX G ?n37 ?l37 ?c37 ?k37 ?b37) (DL.i9 KX G ?n38 ?l38 ?c38 ?k38 ?b38) (DL.i9 KX G ?n39 ?l39 ?c39 ?k39 ?b39) (DL.i9 KX G ?n40 ?l40 ?c40 ?k40 ?b40) (DL.i9 KX G ?n41 ?l41 ?c41 ?k41 ?b41) (DL.i9 KX G ?n42 ?l42 ?c42 ?k42 ?b42) (DL.i9 KX G ?n43 ?l43 ?c43 ?k43 ?b43) (DL.i9 KX G ?n44 ?l44 ?c44 ?k44 ?b44) (DL.i9 KX G ?n45 ?l45 ?c45 ?k45 ?b45) (DL.i9 KX G ?n46 ?l46 ?c46 ?k46 ?b46) (DL.i9 KX G ?n47 ?l47 ?c47 ?k47 ?b47) (DL.i9 KX G ?n48 ?l48 ?c48 ?k48 ?b48) (DL.i9 KX G ?n49 ?l49 ?c49 ?k49 ?b49) (DL.i9 KX G ?n50 ?l50 ?c50 ?k50 ?b50) (DL.i9 KX G ?n51 ?l51 ?c51 ?k51 ?b51) (DL.i9 KX G ?n52 ?l52 ?c52 ?k52 ?b52) (DL.i9 KX G ?n53 ?l53 ?c53 ?k53 ?b53) (DL.i9 KX G ?n54 ?l54 ?c54 ?k54 ?b54) (DL.i9 KX G ?n55 ?l55 ?c55 ?k55 ?b55) (DL.i9 KX G ?n56 ?l56 ?c56 ?k56 ?b56) (DL.i9 KX G ?n57 ?l57 ?c57 ?k57 ?b57) (DL.i9 KX G ?n58 ?l58 ?c58 ?k58 ?b58) (DL.i9 KX G ?n59 ?l59 ?c59 ?k59 ?b59) (DL.i9 KX G ?n60 ?l60 ?c60 ?k60 ?b60) (DL.i9 KX G ?n61 ?l61 ?c61 ?k61 ?b61) (DL.i9 KX G ?n62 ?l62 ?c62 ?k62 ?b62) (DL.i9 KX G ?n63 ?l63 ?c63 ?k63 ?b63) (DL.i9 KX G ?n64 ?l64 ?c64 ?k64 ?b64) (DL.i9 KX G ?n65 ?l65 ?c65 ?k65 ?b65) (DL.i9 KX G ?n66 ?l66 ?c66 ?k66 ?b66) (DL.i9 KX G ?n67 ?l67 ?c67 ?k67 ?b67) (DL.i9 KX G ?n68 ?l68 ?c68 ?k68 ?b68) (DL.i9 KX G ?n69 ?l69 ?c69 ?k69 ?b69) (DL.i9 KX G ?n70 ?l70 ?c70 ?k70 ?b70) (DL.i9 KX G ?n71 ?l71 ?c71 ?k71 ?b71) (DL.i9 KX G ?n72 ?l72 ?c72 ?k72 ?b72) (DL.i9 KX G ?n73 ?l73 ?c73 ?k73 ?b73) (DL.i9 KX G ?n74 ?l74 ?c74 ?k74 ?b74) (DL.i9 KX G ?n75 ?l75 ?c75 ?k75 ?b75) (DL.c2v KX G ?n76 ?l76 ?c76 ?k76 ?b76)
  (case n0=>k_is);(case l0=>k_is);(case c0=>k_is);(case k0=>k_is);(case b0=>(intro us hl;exact match us,hl with|[_,_],_=>rfl))
  (case n1=>k_is);(case l1=>k_is);(case c1=>k_is);(case k1=>k_is);(case b1=>(intro us hl;exact match us,hl with|[_],_=>rfl))
  (case n2=>k_is);(case l2=>k_is);(case c2=>k_is);(case k2=>k_is);(case b2=>(intro us hl S;exact match us,hl with|[_,_],_=>rfl))
  (case n3=>k_is);(case l3=>k_is);(case c3=>k_is);(case k3=>k_is);(case b3=>(intro us hl;exact match us,hl with|[_,_],_=>rfl))
  (case n4=>k_is);(case l4=>k_is);(case c4=>k_is);(case k4=>k_is);(case b4=>(intro us hl;exact match us,hl with|[_,_],_=>rfl))
  (case n5=>k_is);(case l5=>k_is);(case c5=>k_is);(case k5=>k_is);(case b5=>(intro us hl;exact match us,hl with|[_],_=>rfl))
  (case n6=>k_is);(case l6=>k_is);(case c6=>k_is);(case k6=>k_is);(case b6=>(intro us hl;exact match us,hl with|[_,_,_],_=>rfl))
  (case n7=>k_is);(case l7=>k_is);(case c7=>k_is);(case k7=>k_is);(case b7=>(intro us hl;exact match us,hl with|[_,_,_],_=>rfl))
  (case n8=>k_is);(case l8=>k_is);(case c8=>k_is);(case k8=>k_is);(case b8=>(intro us hl;exact match us,hl with|[_,_],_=>rfl))
  (case n9=>k_is);(case l9=>k_is);(case c9=>k_is);(case k9=>k_is);(case b9=>(intro us hl;exact match us,hl with|[_],_=>rfl))
  (case n10=>k_is);(case l10=>k_is);(case c10=>k_is);(case k10=>k_is);(case b10=>(intro us hl;exact match us,hl with|[_],_=>rfl))
  (case n11=>k_is);(case l11=>k_is);(case c11=>k_is);(case k11=>k_is);(case b11=>(intro us hl;exact match us,hl with|[_],_=>rfl))
  (case n12=>k_is);(case l12=>k_is);(case c12=>k_is);(case k12=>k_is);(case b12=>(intro us hl;exact match us,hl with|[_,_,_,_],_=>rfl))
  (case n13=>k_is);(case l13=>k_is);(case c13=>k_is);(case k13=>k_is);(case b13=>(intro us hl;exact match us,hl with|[_,_],_=>rfl))
  (case n14=>k_is);(case l14=>k_is);(case c14=>k_is);(case k14=>k_is);(case b14=>(intro us hl;exact match us,hl with|[_],_=>rfl))
  (case n15=>k_is);(case l15=>k_is);(case c15=>k_is);(case k15=>k_is);(case b15=>(intro us hl;exact match us,hl with|[_],_=>rfl))
  (case n16=>k_is);(case l16=>k_is);(case c16=>k_is);(case k16=>k_is);(case b16=>(intro us hl;exact match us,hl with|[_,_],_=>rfl))
  (case n17=>k_is);(case l17=>k_is);(case c17=>k_is);(case k17=>k_is);(case b17=>(intro us hl;exact match us,hl with|[_,_,_,_],_=>rfl))
  (case n18=>k_is);(case l18=>k_is);(case c18=>k_is);(case k18=>k_is);(case b18=>(intro us hl;exact match us,hl with|[_,_,_,_],_=>rfl))
  (case n19=>k_is);(case l19=>k_is);(case c19=>k_is);(case k19=>k_is);(case b19=>(intro us hl;exact match us,hl with|[_,_,_,_],_=>rfl))
  (case n20=>k_is);(case l20=>k_is);(case c20=>k_is);(case k20=>k_is);(case b20=>(intro us hl;exact match us,hl with|[_,_,_],_=>rfl))
  (case n21=>k_is);(case l21=>k_is);(case c21=>k_is);(case k21=>k_is);(case b21=>(intro us hl;exact match us,hl with|[_,_,_],_=>rfl))
  (case n22=>k_is);(case l22=>k_is);(case c22=>k_is);(case k22=>k_is);(case b22=>(intro us hl;exact match us,hl with|[_,_],_=>rfl))
  (case n23=>k_is);(case l23=>k_is);(case c23=>k_is);(case k23=>k_is);(case b23=>(intro us hl;exact match us,hl with|[_,_,_,_,_],_=>rfl))
  (case n24=>k_is);(case l24=>k_is);(case c24=>k_is);(case k24=>k_is);(case b24=>(intro us hl;exact match us,hl with|[_,_],_=>rfl))
  (case n25=>k_is);(case l25=>k_is);(case c25=>k_is);(case k25=>k_is);(case b25=>(intro us hl;exact match us,hl with|[_,_,_],_=>rfl))
  (case n26=>k_is);(case l26=>k_is);(case c26=>k_is);(case k26=>k_is);(case b26=>(intro us hl;exact match us,hl with|[_,_],_=>rfl))
  (case n27=>k_is);(case l27=>k_is);(case c27=>k_is);(case k27=>k_is);(case b27=>(intro us hl;exact match us,hl with|[_,_,_],_=>rfl))
  (case n28=>k_is);(case l28=>k_is);(case c28=>k_is);(case k28=>k_is);(case b28=>(intro us hl;exact match us,hl with|[_,_],_=>rfl))
  (case n29=>k_is);(case l29=>k_is);(case c29=>k_is);(case k29=>k_is);(case b29=>(intro us hl;exact match us,hl with|[_,_],_=>rfl))
  (case n30=>k_is);(case l30=>k_is);(case c30=>k_is);(case k30=>k_is);(case b30=>(intro us hl;exact match us,hl with|[_],_=>rfl))
  (case n31=>k_is);(case l31=>k_is);(case c31=>k_is);(case k31=>k_is);(case b31=>(intro us hl;exact match us,hl with|[_],_=>rfl))
  (case n32=>k_is);(case l32=>k_is);(case c32=>k_is);(case k32=>k_is);(case b32=>(intro us hl;exact match us,hl with|[_],_=>rfl))
  (case n33=>k_is);(case l33=>k_is);(case c33=>k_is);(case k33=>k_is);(case b33=>(intro us hl;exact match us,hl with|[_],_=>rfl))
  (case n34=>k_is);(case l34=>k_is);(case c34=>k_is);(case k34=>k_is);(case b34=>(intro us hl;exact match us,hl with|[_,_],_=>rfl))
  (case n35=>k_is);(case l35=>k_is);(case c35=>k_is);(case k35=>k_is);(case b35=>(intro us hl;exact match us,hl with|[_],_=>rfl))
  (case n36=>k_is);(case l36=>k_is);(case c36=>k_is);(case k36=>k_is);(case b36=>(intro us hl;exact match us,hl with|[_],_=>rfl))
  (case n37=>k_is);(case l37=>k_is);(case c37=>k_is);(case k37=>k_is);(case b37=>(intro us hl;exact match us,hl with|[_,_],_=>rfl))
  (case n38=>k_is);(case l38=>k_is);(case c38=>k_is);(case k38=>k_is);(case b38=>(intro us hl;exact match us,hl with|[_],_=>rfl))
  (case n39=>k_is);(case l39=>k_is);(case c39=>k_is);(case k39=>k_is);(case b39=>(intro us hl;exact match us,hl with|[_,_],_=>rfl))
  (case n40=>k_is);(case l40=>k_is);(case c40=>k_is);(case k40=>k_is);(case b40=>(intro us hl;exact match us,hl with|[_,_],_=>rfl))
  (case n41=>k_is);(case l41=>k_is);(case c41=>k_is);(case k41=>k_is);(case b41=>(intro us hl;exact match us,hl with|[_,_],_=>rfl))
  (case n42=>k_is);(case l42=>k_is);(case c42=>k_is);(case k42=>k_is);(case b42=>(intro us hl;exact match us,hl with|[_,_],_=>rfl))
  (case n43=>k_is);(case l43=>k_is);(case c43=>k_is);(case k43=>k_is);(case b43=>(intro us hl;exact match us,hl with|[_,_,_],_=>rfl))
  (case n44=>k_is);(case l44=>k_is);(case c44=>k_is);(case k44=>k_is);(case b44=>(intro us hl;exact match us,hl with|[_,_],_=>rfl))
  (case n45=>k_is);(case l45=>k_is);(case c45=>k_is);(case k45=>k_is);(case b45=>(intro us hl;exact match us,hl with|[_,_],_=>rfl))
  (case n46=>k_is);(case l46=>k_is);(case c46=>k_is);(case k46=>k_is);(case b46=>(intro us hl;exact match us,hl with|[_],_=>rfl))
  (case n47=>k_is);(case l47=>k_is);(case c47=>k_is);(case k47=>k_is);(case b47=>(intro us hl;exact match us,hl with|[_,_,_],_=>rfl))
  (case n48=>k_is);(case l48=>k_is);(case c48=>k_is);(case k48=>k_is);(case b48=>(intro us hl;exact match us,hl with|[_,_],_=>rfl))
  (case n49=>k_is);(case l49=>k_is);(case c49=>k_is);(case k49=>k_is);(case b49=>(intro us hl;exact match us,hl with|[_,_,_,_,_],_=>rfl))
  (case n50=>k_is);(case l50=>k_is);(case c50=>k_is);(case k50=>k_is);(case b50=>(intro us hl;exact match us,hl with|[_],_=>rfl))
  (case n51=>k_is);(case l51=>k_is);(case c51=>k_is);(case k51=>k_is);(case b51=>(intro us hl;exact match us,hl with|[_,_,_],_=>rfl))
  (case n52=>k_is);(case l52=>k_is);(case c52=>k_is);(case k52=>k_is);(case b52=>(intro us hl;exact match us,hl with|[_],_=>rfl))
  (case n53=>k_is);(case l53=>k_is);(case c53=>k_is);(case k53=>k_is);(case b53=>(intro us hl;exact match us,hl with|[_,_,_],_=>rfl))
  (case n54=>k_is);(case l54=>k_is);(case c54=>k_is);(case k54=>k_is);(case b54=>(intro us hl;exact match us,hl with|[_,_],_=>rfl))
  (case n55=>k_is);(case l55=>k_is);(case c55=>k_is);(case k55=>k_is);(case b55=>(intro us hl;exact match us,hl with|[_,_,_],_=>rfl))
  (case n56=>k_is);(case l56=>k_is);(case c56=>k_is);(case k56=>k_is);(case b56=>(intro us hl;exact match us,hl with|[_,_,_],_=>rfl))
  (case n57=>k_is);(case l57=>k_is);(case c57=>k_is);(case k57=>k_is);(case b57=>(intro us hl;exact match us,hl with|[_,_,_],_=>rfl))
  (case n58=>k_is);(case l58=>k_is);(case c58=>k_is);(case k58=>k_is);(case b58=>(intro us hl;exact match us,hl with|[_,_,_],_=>rfl))
  (case n59=>k_is);(case l59=>k_is);(case c59=>k_is);(case k59=>k_is);(case b59=>(intro us hl;exact match us,hl with|[_,_,_,_],_=>rfl))
  (case n60=>k_is);(case l60=>k_is);(case c60=>k_is);(case k60=>k_is);(case b60=>(intro us hl;exact match us,hl with|[_],_=>rfl))
  (case n61=>k_is);(case l61=>k_is);(case c61=>k_is);(case k61=>k_is);(case b61=>(intro us hl;exact match us,hl with|[_,_,_,_],_=>rfl))
  (case n62=>k_is);(case l62=>k_is);(case c62=>k_is);(case k62=>k_is);(case b62=>(intro us hl;exact match us,hl with|[_],_=>rfl))
  (case n63=>k_is);(case l63=>k_is);(case c63=>k_is);(case k63=>k_is);(case b63=>(intro us hl;exact match us,hl with|[_],_=>rfl))
  (case n64=>k_is);(case l64=>k_is);(case c64=>k_is);(case k64=>k_is);(case b64=>(intro us hl;exact match us,hl with|[_],_=>rfl))
  (case n65=>k_is);(case l65=>k_is);(case c65=>k_is);(case k65=>k_is);(case b65=>(intro us hl;exact match us,hl with|[_],_=>rfl))
  (case n66=>k_is);(case l66=>k_is);(case c66=>k_is);(case k66=>k_is);(case b66=>(intro us hl;exact match us,hl with|[_],_=>rfl))
  (case n67=>k_is);(case l67=>k_is);(case c67=>k_is);(case k67=>k_is);(case b67=>(intro us hl;exact match us,hl with|[_],_=>rfl))
  (case n68=>k_is);(case l68=>k_is);(case c68=>k_is);(case k68=>k_is);(case b68=>(intro us hl;exact match us,hl with|[_,_,_],_=>rfl))
  (case n69=>k_is);(case l69=>k_is);(case c69=>k_is);(case k69=>k_is);(case b69=>(intro us hl;exact match us,hl with|[_,_],_=>rfl))
  (case n70=>k_is);(case l70=>k_is);(case c70=>k_is);(case k70=>k_is);(case b70=>(intro us hl;exact match us,hl with|[_,_],_=>rfl))
  (case n71=>k_is);(case l71=>k_is);(case c71=>k_is);(case k71=>k_is);(case b71=>(intro us hl;exact match us,hl with|[_,_,_],_=>rfl))
  (case n72=>k_is);(case l72=>k_is);(case c72=>k_is);(case k72=>k_is);(case b72=>(intro us hl;exact match us,hl with|[_,_],_=>rfl))
  (case n73=>k_is);(case l73=>k_is);(case c73=>k_is);(case k73=>k_is);(case b73=>(intro us hl;exact match us,hl with|[_],_=>rfl))
  (case n74=>k_is);(case l74=>k_is);(case c74=>k_is);(case k74=>k_is);(case b74=>(intro us hl;exact match us,hl with|[_],_=>rfl))
  (case n75=>k_is);(case l75=>k_is);(case c75=>k_is);(case k75=>k_is);(case b75=>(intro us hl;exact match us,hl with|[_],_=>rfl))
  (case n76=>k_is);(case l76=>k_is);(case c76=>k_is);(case k76=>k_is);(case b76=>(intro us hl;exact match us,hl with|[_],_=>rfl))
  (case z_abs=>k_is);(case z_all=>k_is);(case z_bool=>k_is);(case z_enumerate=>k_is);(case z_int=>k_is);(case z_isinstance=>k_is);(case z_len=>k_is);(case z_list=>k_is);(case z_max=>k_is);(case z_min=>k_is);(case z_range=>k_is);(case z_reversed=>k_is);(case z_tuple=>k_is);(case z_zip=>k_is);(case c0_AXIS_RAY=>k_is);(case c1_AXIS_RAY=>k_is);(case c2_AXIS_RAY=>k_is);(case c3_AXIS_RAY=>k_is);(case c0_FIRST_ROUNDS=>k_is);(case c0_FOUR=>k_is);(case c1_FOUR=>k_is);(case c0_LEVEL_RAY=>k_is);(case c1_LEVEL_RAY=>k_is);(case c2_LEVEL_RAY=>k_is);(case c3_LEVEL_RAY=>k_is);(case c0_NOUGHT=>k_is);(case c1_NOUGHT=>k_is);(case c0_ONE=>k_is);(case c1_ONE=>k_is);(case c0_SELF=>k_is);(case c1_SELF=>k_is);(case c2_SELF=>k_is);(case c3_SELF=>k_is);(case c4_SELF=>k_is);(case c5_SELF=>k_is);(case c0_TWO=>k_is);(case c1_TWO=>k_is)
end
